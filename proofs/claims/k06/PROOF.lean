import PyProof.Rows.All
import Wide.All
import OpenK.AllK
import Wide.FinOn
import Lean
import PyProof.EqAt
import PyProof.EqKinds
import PyProof.TupleCall
import PyProof.NeKinds
import PyProof.ZipIter
import PySem.Challenge.RW_lentgate_k06_first_letters_out
import KE.KSortTup
import KE.KDictSum
import KE.KSortedM
import KE.KEqDict
import PyProof.DictWalks
import KE.KDictList
set_option Elab.async false
set_option linter.all false
set_option maxRecDepth 100000
set_option genInjectivity false
set_option genSizeOfSpec false
set_option genSizeOf false
set_option maxHeartbeats 0
abbrev Frg:=PySem.W.Frag
local macro_rules | `(tactic| walk_at "w9") => `(tactic| (rw [PySem.W.Fast.te10110043849684766642, PySem.W.Fast.te14364793385576792824]; kernel_rfl))
def waa:=@Bool.and_eq_true
def wab:=@List.length_map
def wac:=@Nat.le_refl
def wad:=@List.map_cons
def wae:=@PySem.Heap.lt_size
def waf:=@List.length_cons
def wag:=@List.size_toArray
def wah:=@List.map_map
def wai:=@List.mem_map
def waj:=@Nat.lt_of_lt_of_le
def wak:=@List.all_eq_true
def wal:=@Nat.le_trans
def wam:=@List.forall_mem_nil
def wan:=@Bool.false_ne_true
def wao:=@List.length_append
def wap:=@List.mem_cons_of_mem
def waq:=@Nat.ne_of_lt
def war:=@List.mem_append_right
def was:=@List.mem_cons
def wat:=@List.all_cons
def wau:=@List.map_append
def wav:=@Bool.false_eq_true
def waw:=@List.mem_cons_self
def wax:=@List.mem_append
def waz:=@List.mem_singleton
def waA:=@Nat.lt_trans
def waB:=@PyProof.Rows.callWith_type1
def waC:=@List.nodup_cons
def waD:=@List.nil_append
def waE:=@List.map_congr_left
def waF:=@PySem.W.emptyDict
def waG:=@List.forall_mem_cons
def waH:=@PyProof.Rows.slot_tuple_getitem
def waI:=@List.replicate_succ
def waJ:=@Nat.lt_of_le_of_lt
def waK:=@List.lookup_cons
def waL:=@PySem.W.instObj
def waM:=@Nat.lt_irrefl
def waN:=@List.any_cons
def waO:=@Nat.add_le_add_right
def waP:=@List.append_nil
def waQ:=@Int.toNat_natCast
def waR:=@List.flatten_cons
def waS:=@PySem.W.kia_one
def waT:=@List.nodup_append
def waU:=@Nat.le_of_lt
def waV:=@Nat.zero_le
def waW:=@PySem.W.mg_of
def waX:=@Nat.add_sub_cancel_left
def waY:=@List.filter_eq_self
def waZ:=@List.filter_cons
def wa0:=@List.not_mem_nil
def wa1:=@List.mem_range
def wa2:=@List.length_replicate
def wa3:=@List.nodup_nil
def wa4:=@PySem.W.plainGet
def wa5:=@Option.isSome_iff_exists
def wa6:=@List.map_nil
def wa7:=@List.forIn_cons
def wa8:=@PySem.W.callWith_K
def wa9:=@Bool.or_eq_true
def wba:=@List.length_range
def wbb:=@PySem.W.hasDictIn
def wbc:=@Nat.lt_succ_of_lt
def wbd:=@List.all_map
noncomputable section
namespace HD
open PySem PySem.W PyProof.Rows
def qvY(p:Program)(i:Nat):Stmt:=p.main.body.getD i (.Pass ⟨0,0,0,0⟩)
def sub(s:Stmt)(i:Nat):Stmt:=match s with
 | .ClassDef (body:=b) ..=>b.getD i (.Pass ⟨0,0,0,0⟩)
 |s=>s
def qAS(s:Stmt):Arguments:=match s with
 | .FunctionDef (args:=a) ..=>a
 |_=>default
def qsh(s:Stmt):List Stmt:=match s with
 | .FunctionDef (body:=b) ..=>b
 |_=>[]
def qAR(s:Stmt):Scope:=match s with
 | .FunctionDef (scope:=c) ..=>c
 |_=>default
noncomputable abbrev e1 (P:Params) (x:String) (t:Tok) (v:Value):DictEntry:=⟨PyData.keyHash P x,.str x t,v⟩
noncomputable abbrev nsO (es:List DictEntry) (n:Nat):Obj:=⟨.type "dict",none,.dict es.toArray n,#[]⟩
noncomputable abbrev tbO (vs:List Value):Obj:=⟨.none,none,.fields vs.toArray,#[]⟩
noncomputable abbrev coO (vs:List Value):Obj:=⟨.type "code",none,.fields vs.toArray,#[]⟩
noncomputable abbrev tup (xs:List Value):Obj:=⟨.type "tuple",none,.seq xs.toArray 0,#[]⟩
noncomputable abbrev fnO (n q:String) (s:Stmt) (pm cd:Value):Obj:=⟨.type "function",none,.func { name:=n,qualname:=q,params:=qAS s,body:=.stmts (qsh s),scope:=qAR s,globals:=3,closure:=[],defaults:=.none,kwdefaults:=.none,doc:=.none,pyModule:=pm,annotations:=none,code:=cd,closureTuple:=.none,builtins:=0 },#[]⟩
noncomputable abbrev tfO (n q:String) (s:Stmt):Obj:=⟨.none,none,.func { name:=n,qualname:=q,params:=qAS s,body:=.stmts (qsh s),scope:=qAR s,globals:=0,closure:=[],defaults:=.none,kwdefaults:=.none,doc:=.none,pyModule:=.none,annotations:=none,code:=.none,closureTuple:=.none,builtins:=0 },#[]⟩
structure DF where
 n:String
 q:String
 s:Stmt
 a:Nat
 t:Nat
 l:Nat
 c:Nat
 xs:List String
 pm:Value
noncomputable def df (n q:String)(s:Stmt)(a t l c:Nat)(xs:List String)(pm:Value):DF:=⟨n,q,s,a,t,l,c,xs,pm⟩
def qo4:Nat->List String->List Value
 |_,[]=>[]
 |t,x::xs=>.str x t::qo4 (t+1) xs
noncomputable def DF.co (d:DF):Obj:=coO [.str d.n d.t,.str d.q (d.t+1),.str "/claim/cut.py" (d.t+2),.int d.l 0,.int d.c 0,.int 0 0,.int 0 0,.int 3 0,.ref d.a,.bool true,.int 181 0,.ref (d.a+1),.none,.ref (d.a+2),.ref (d.a+3),.ref (d.a+4),.int (d.t+3+d.xs.length:Nat) 0,.int d.l 0,.str "/claim/cut.py" (d.t+4+d.xs.length)]
def DF.fn(d:DF):Obj:=fnO d.n d.q d.s d.pm (.ref (d.a+5))
def DF.objs(d:DF):List Obj:=[tup [],tbO [],tup (qo4 (d.t+3) d.xs),tup [],tfO d.n d.q d.s,d.co,d.fn]
def treeOf(l:List Obj):BT:=(l.foldl (fun(x:BT×Nat) o=>(x.1.ins x.2 o,x.2+1)) (.nil,0)).1
theorem qpJ{tb:String->Option Builtin}{p:Program}{w:World}{n₀:Nat}{an:Option Value}{b:Nat}:∀ {n m:Nat} {s s':SharedT} {t t':Thread} {r:Option (SharedT×Thread)},
 segGoT tb p w n₀ an b n s t=some (s',t')->segGoT tb p w n₀ an b m s' t'=r->segGoT tb p w n₀ an b (n+m) s t=r
 |0,m,s,s',t,t',r,h,k=>by
  simp only[segGoT,Option.some.injEq,Prod.mk.injEq]at h;obtain⟨rfl,rfl⟩:=h;rw[Nat.zero_add];exact k
 |n+1,m,s,s',t,t',r,h,k=>by
  have e:n+1+m=(n+m)+1:=by omega
  rw[e];simp only[segGoT]at h ⊢;split at h
  · cases h
  · rename_i he
    split at h
    · cases h
    · rename_i hk
      split at h
      · rename_i s2 t2 hs
        exact qpJ h k
      · cases h
theorem qla{tb:String->Option Builtin}{p:Program}{w:World}{n₀:Nat}{an:Option Value}{b:Nat}:∀ {n m:Nat} {s s':SharedT} {t t':Thread} {r:Flow×SharedT×Code×Pos},
 segGoT tb p w n₀ an b n s t=some (s',t')->segRunT tb p w n₀ an b m s' t'=some r->segRunT tb p w n₀ an b (n+m) s t=some r
 |0,m,s,s',t,t',r,h,k=>by
  simp only[segGoT,Option.some.injEq,Prod.mk.injEq]at h;obtain⟨rfl,rfl⟩:=h;rw[Nat.zero_add];exact k
 |n+1,m,s,s',t,t',r,h,k=>by
  have e:n+1+m=(n+m)+1:=by omega
  rw[e];simp only[segGoT]at h;simp only[segRunT];split at h
  · cases h
  · rename_i he
    split at h
    · cases h
    · rename_i hk
      split at h
      · rename_i s2 t2 hs
        exact qla h k
      · cases h
theorem qi5{tb:String->Option Builtin}{p:Program}{w:World}{n₀:Nat}{an:Option Value}{b:Nat}(k:Nat):∀ {n:Nat} {s:SharedT} {t:Thread} {r:Flow×SharedT×Code×Pos},
 segRunT tb p w n₀ an b n s t=some r->segRunT tb p w n₀ an b (n+k) s t=some r
 |0,s,t,r,h=>by cases h
 |n+1,s,t,r,h=>by
  have e:n+1+k=(n+k)+1:=by omega
  rw[e];simp only[segRunT]at h ⊢;split at h
  · exact h
  · rename_i he
    split at h
    · cases h
    · rename_i hk
      split at h
      · exact qi5 k h
      · cases h
def Rn{α:Type}(p:Program)(w:World)(n₀:Nat)(an:Option Value)(c:Code)(F:List Frame)(m:Nat)(x:Sem α)(ps:Pos)(s:SharedT)(a:α)(ps':Pos)(s':SharedT):Prop:=
 ∀ (K:α->Sem Fin) (H:Value->Sem Fin) (lv:List Value->List Value),∃ n,n<=m/\segGoT treeTable p w n₀ an 1 n s ⟨x.wrap K H id lv,c,ps,F⟩=some (s',⟨K a,c,ps',F⟩)
section
variable {α β:Type}{p:Program}{w:World}{n₀:Nat}{an:Option Value}{c:Code}{F:List Frame}{m m1 m2:Nat}{ps ps1 ps2 ps':Pos}{s s1 s2 s':SharedT}
theorem Rn.more{x:Sem α}{a:α}(h:Rn p w n₀ an c F m1 x ps s a ps' s')(e:m1<=m):Rn p w n₀ an c F m x ps s a ps' s':=fun K H lv=>by
 obtain⟨n,hn,h⟩:=h K H lv;exact⟨n,wal hn e,h⟩
theorem qaI{a:α}:Rn p w n₀ an c F m (pure a) ps s a ps s:=fun K H lv=>⟨0,waV _,rfl⟩
theorem qai{x:Sem α}{f:α->Sem β}{a:α}{b:β}(h1:Rn p w n₀ an c F m1 x ps s a ps1 s1)(h2:Rn p w n₀ an c F m2 (f a) ps1 s1 b ps2 s2):Rn p w n₀ an c F (m1+m2) (x >>= f) ps s b ps2 s2:=fun K H lv=>by
 obtain⟨n1,l1,e1⟩:=h1 (fun a=>(f a).wrap K H id lv) H lv
 obtain⟨n2,l2,e2⟩:=h2 K H lv;refine⟨n1+n2,Nat.add_le_add l1 l2,?_⟩;rw[Sem.bind_eq_wrap',Sem.wrap_wrap];exact qpJ e1 e2
theorem qql{x:Sem α}{a:α}{vs:List Value}(h:Rn p w n₀ an c F m x ps s a ps' s'):Rn p w n₀ an c F m (x.keep vs) ps s a ps' s':=fun K H lv=>by
 obtain⟨n,l,e⟩:=h K H (fun r=>lv (vs++r))
 refine⟨n,l,?_⟩;rw[Sem.keep_eq_wrap,Sem.wrap_wrap];exact e
theorem qby{x:Sem α}{a:α}{vs:List Value}(h:Rn p w n₀ an c F m x ps s a ps' s'):Rn p w n₀ an c F m (holding vs x) ps s a ps' s':=by
 unfold holding;split
 · exact h
 · exact qql h
theorem qd2{x:Sem α}{a:α}{n:Nat}(h:∀ (K:α->Sem Fin) (H:Value->Sem Fin) (lv:List Value->List Value),segGoT treeTable p w n₀ an 1 n s ⟨x.wrap K H id lv,c,ps,F⟩=some (s',⟨K a,c,ps',F⟩)):Rn p w n₀ an c F n x ps s a ps' s':=
 fun K H lv=>⟨n,wac _,h K H lv⟩
theorem qh6{b:β}{f:α->β->Sem (ForInStep β)}:∀ {xs:List α},(∀ x∈xs,Rn p w n₀ an c F m (f x b) ps s (.yield b) ps s)->Rn p w n₀ an c F (m*xs.length) (forIn xs b f) ps s b ps s
 | [],_=>by rw[List.forIn_nil];exact qaI
 |x::xs,h=>by
  rw[wa7];have h1:=h x (waw ..);have h2:=qh6 (xs:=xs) fun y hy=>h y (wap _ hy)
  have e:m*(x::xs).length=m+m*xs.length:=by rw[waf,Nat.mul_succ,Nat.add_comm]
  rw[e];exact qai h1 h2
end
section
variable {p:Program}{w:World}{n₀:Nat}{an:Option Value}{c:Code}{F:List Frame}{ps:Pos}{s:SharedT}{m L:Nat}
theorem qkO{a:Addr}{st:List Value}(hL:st.length<=L)(hq:Rn p w n₀ an c F m (eqIsQuiet 8 (.ref a)) ps s true ps s)
 (hs:∀ v∈st,Rn p w n₀ an c F m (eqIsQuiet 8 v) ps s true ps s):Rn p w n₀ an c F (m+m*L) (tableMayTell (.ref a) st) ps s false ps s:=by
 unfold tableMayTell;split
 · exact qaI
 · refine Rn.more (qai hq (m2:=m*st.length) ?_) (Nat.add_le_add_left (Nat.mul_le_mul_left _ hL) _)
   rw[if_neg (by decide)]
   refine Rn.more (qai (m2:=0) (qh6 (m:=m) fun v hv=>?_) ?_) (wac _)
   · refine Rn.more (qai (m2:=0) (hs v hv) ?_) (wac _)
     rw[if_neg (by decide)]
     exact qaI
   · exact qaI
theorem find_none{d a:Addr}{h:Int}{es:Array DictEntry}{ep:Nat}(hL:es.size<=L)(rn_rule:∀ t,Rn p w n₀ an c F 1 (rule t) ps s () ps s)
 (hd:Rn p w n₀ an c F 1 (dictEntries d none) ps s es ps s) (he:Rn p w n₀ an c F 1 (dictEpoch d none) ps s ep ps s)
 (hq:Rn p w n₀ an c F m (eqIsQuiet 8 (.ref a)) ps s true ps s)
 (hk:∀ e∈es.toList,(∃ b:Addr,e.key= .ref b/\b≠a)/\Rn p w n₀ an c F m (eqIsQuiet 8 e.key) ps s true ps s/\Rn p w n₀ an c F m (eqBool e.key (.ref a)) ps s false ps s):
 Rn p w n₀ an c F (1+((m+m*L)+(m+3)*L)) (dictFind d (.ref a) h) ps s none ps s:=by
 unfold dictFind;refine qby ?_;dsimp only[keyPart];refine qai hd ?_;have hp:∀ i∈placesWithHash es.size (fun i=>Option.map (fun x=>x.hash) es[i]?) h,i<es.size:=fun i hi=>by
  unfold placesWithHash at hi;exact wa1.mp (List.mem_filter.mp hi).1
 have hpl:(placesWithHash es.size (fun i=>Option.map (fun x=>x.hash) es[i]?) h).length<=L:=by
  unfold placesWithHash;refine wal (List.length_filter_le _ _) ?_;rw[wba];exact hL
 generalize placesWithHash es.size (fun i=>Option.map (fun x=>x.hash) es[i]?) h=places at hp hpl ⊢
 have hst:∀ v∈List.filterMap (fun i=>Option.map (fun x=>x.key) es[i]?) places,∃ e∈es.toList,v=e.key:=fun v hv=>by
  obtain⟨i,hi,e⟩:=List.mem_filterMap.mp hv;obtain⟨x,hx,rfl⟩:=Option.map_eq_some_iff.mp e;exact⟨x,Array.mem_toList_iff.mpr (Array.mem_of_getElem? hx),rfl⟩
 have hsl:(List.filterMap (fun i=>Option.map (fun x=>x.key) es[i]?) places).length<=L:=wal (List.length_filterMap_le _ _) hpl
 generalize List.filterMap (fun i=>Option.map (fun x=>x.key) es[i]?) places=stored at hst hsl ⊢
 have hno:∀ e∈es.toList,(e.key==Value.ref a)=false:=fun e h1=>by
  obtain⟨⟨b,h2,h3⟩,_⟩:=hk e h1;rw[h2];exact beq_eq_false_iff_ne.mpr fun q=>h3 (Value.ref.inj q)
 rw[if_neg (by simp[carriedByValue])]
 rw[if_neg (by
  rw[<-Array.any_toList,Bool.not_eq_true,List.any_eq_false];intro e h1;rw[hno e h1];simp)]
 rw[if_neg (by
  intro q;have q:=eq_of_beq q;obtain⟨e,h1,h2⟩:=hst (.ref a) (by rw[q];exact waw ..)
  have:=hno e h1;rw[<-h2]at this;simp at this)]
 refine qai (qkO hsl hq fun v hv=>?_) ?_
 · obtain⟨e,h1,rfl⟩:=hst v hv
   exact(hk e h1).2.1
 rw[if_neg (by simp)]
 refine Rn.more (qai (m2:=0) (qh6 (m:=m+3) fun i hi=>?_) ?_) (Nat.mul_le_mul_left _ hpl)
 · have hi':=hp i hi
   have hg:es[i]? =some es[i]:=Array.getElem?_eq_getElem hi';rw[hg];dsimp only;split
   · obtain⟨_,_,hb⟩:=hk es[i] (Array.mem_toList_iff.mpr (Array.getElem_mem hi'))
     refine Rn.more (qai he (qai (m2:=2) hb (qai (m2:=1) he ?_))) (by omega)
     rw[if_neg (by simp),if_neg (by decide)]
     refine Rn.more (qai (m2:=0) (rn_rule _) ?_) (wac _);rw[if_neg (by simp)]
     exact qaI
   · exact qaI
 · exact qaI
end
section
variable {α β:Type}{p:Program}{w:World}{n₀:Nat}{an:Option Value}{c:Code}{F:List Frame}{ps ps1 ps2:Pos}{s s1 s2:SharedT}{m m1 m2 m3 mf mu:Nat}
theorem qot{i:Int}(hr:∀ t,Rn p w n₀ an c F 1 (rule t) ps s () ps s):Rn p w n₀ an c F 1 (pyHashByItsType.reduced i) ps s (reduceHash i) ps s:=by
 unfold pyHashByItsType.reduced reduceHash;split
 · exact qaI
 · exact Rn.more (qai (m2:=0) (hr _) qaI) (wac _)
theorem qos{a:Addr}{i:Int}{t:Tok}(hr:∀ x,Rn p w n₀ an c F 1 (rule x) ps s1 () ps s1)(h1:Rn p w n₀ an c F m1 (cRoomFor "hash" [.ref a]) ps s () ps s)
 (h2:Rn p w n₀ an c F m2 (specialOf (.ref a) "__hash__") ps s (some (.builtin "tuple.__hash__")) ps s)
 (h3:∀ E,Rn p w n₀ an c F m3 (callSpecialIfBoundUnlessNone? (.ref a) "__hash__" E) ps s (some (.int i t)) ps s1):Rn p w n₀ an c F (m1+(m2+(m2+(m3+1)))) (pyHash (.ref a)) ps s (reduceHash i) ps s1:=by
 unfold pyHash;dsimp only;unfold pyHashByItsType;refine qai h1 (qai h2 ?_);rw[if_neg (by decide)]
 refine qai h2 ?_;rw[if_neg (by decide)]
 refine qai (h3 _) ?_;exact qot hr
theorem qp7{d a:Addr}{h:Int}{v:Value}(hr:∀ x,Rn p w n₀ an c F 1 (rule x) ps s1 () ps s1)(hh:Rn p w n₀ an c F m1 (pyHash (.ref a)) ps s h ps s1)(hf:Rn p w n₀ an c F mf (dictFind d (.ref a) h) ps s1 none ps s1)
 (hu:Rn p w n₀ an c F mu (updateDictKeys d (fun x=>x.push ⟨h,.ref a,v⟩) none) ps s1 () ps s2):Rn p w n₀ an c F (m1+(mf+(1+mu))) (dictSet d (.ref a) v) ps s () ps s2:=by
 unfold dictSet;refine qby (qai hh ?_);unfold dictSetHashed;refine qby (qai hf ?_);exact qai (hr _) hu
theorem qqj{x:α}{xs:List α}{b:β}{f:α->β->Sem (ForInStep β)}(h1:Rn p w n₀ an c F m1 (f x b) ps s (.yield b) ps1 s1)(h2:Rn p w n₀ an c F m2 (forIn xs b f) ps1 s1 b ps2 s2):Rn p w n₀ an c F (m1+m2) (forIn (x::xs) b f) ps s b ps2 s2:=by
 rw[wa7];exact qai h1 h2
theorem qqk{b:β}{f:α->β->Sem (ForInStep β)}:Rn p w n₀ an c F 0 (forIn [] b f) ps s b ps s:=by
 rw[List.forIn_nil];exact qaI
theorem qwG{x y:Sem α}{a:α}(e:x=y)(h:Rn p w n₀ an c F m y ps s a ps1 s1):Rn p w n₀ an c F m x ps s a ps1 s1:=e ▸ h
end
section
theorem qqQ{q:Program}{loose mods:List Str}{Xt:Shared->Bool}{h:Heap}{d:Drawn}{k:Nat}{os:OsState}
 (a:PyProof.Rows.seen (List.map (fun x=>x.name) (recsOf q)) (ownsOf q) [] ⟨h,#[],d,k,os⟩=expectedOf q) (b:h.bltView=bltViewBooted)
 (c:h.keysOk (looseW q loose) (List.map (fun x=>x.name) (recsOf q)) (List.map (fun x=>x.fst) (litsOf q)) (List.map (fun x=>x.name) (clssOf q (looseW q loose)))=true)
 (c2:h.accountedOkI mods=true) (c3:(h.isNs mainGlobals&&h.isNs builtinsNs)=true) (c4:tablesOk q h=true) (c5:Xt ⟨h,#[],d,k,os⟩=true)
 (e:tabsOk q ⟨h,#[],d,k,os⟩=true) (f:pinSeenD q (drecsOf q) ⟨h,#[],d,k,os⟩=pinGoodD (drecsOf q)) (g:plainSeenE q (looseW q loose) ⟨h,#[],d,k,os⟩=plainGoodE q (looseW q loose)) (g2:plainSeenD q loose ⟨h,#[],d,k,os⟩=plainGoodD q loose)
 (g3:wideSeen q ⟨h,#[],d,k,os⟩=wideGood q) (g4:clsSeenW q loose ⟨h,#[],d,k,os⟩=clsGoodW q loose):openSeen q loose mods Xt true ⟨h,#[],d,k,os⟩=openGood q loose:=by
 rw[waa]at c3;unfold openSeen openGood;dsimp only;rw[a,b,c,c2,c3.1,c3.2,c4,c5,e,f,g,g2,g3,g4];rfl
end
end HD
namespace H06
open PySem PySem.W PyProof.Rows HD
abbrev p:=PySem.Challenge.pw_lentgate_k06_first_letters_out
abbrev body:=behindTheImports p
abbrev top(i:Nat):Stmt:=qvY p i
def env:Env:={ scope:=p.main.scope,locals:=mainNs,globals:=mainNs,cells:=[],code:=.ref 13,frame:=some 14 }
def cd:Code:=.body body env
def ann:Option Value:=some (.ref 6)
def q0:Pos:=⟨0,0,0,0⟩
def B:List Frame:=[topFrame q0]
abbrev wf(w:World)(b:Bool):World:=w.withFollow "special-get-raises" b
noncomputable section
def ns(P:Params):List DictEntry:=[e1 P "__name__" 165 (.str "law_lentgate_k06_first_letters_out" 1436),e1 P "__doc__" 166 (.none),e1 P "__package__" 167 (.none),e1 P "__loader__" 168 (.builtin "__main__.__loader__#opaque"),e1 P "__spec__" 169 (.none),e1 P "__annotations__" 170 (.ref 6),e1 P "__builtins__" 171 (.ref 4),e1 P "__file__" 173 (.str "/claim/cut.py" 172),e1 P "__cached__" 174 (.none),e1 P "_wall" 193 (.ref 21),e1 P "GREATEST_HOUSE" 197 (.int 99 196),e1 P "GREATEST_DOOR" 199 (.int 9999 198),e1 P "GREATEST_PLACE" 201 (.int 1000000 200),e1 P "GREATEST_TICKS" 203 (.int 1000000 202),e1 P "GREATEST_RULE" 205 (.int 1000000 204),e1 P "MOST_SIGNS" 207 (.int 40 206),e1 P "FIRST_SIGN" 209 (.int 32 208),e1 P "LAST_SIGN" 211 (.int 126 210),e1 P "PERCENT_SIGN" 213 (.int 37 212),e1 P "KINDS" 216 (.ref 22),e1 P "NOTE_WORDS" 218 (.ref 23),e1 P "LINE_WORDS" 223 (.ref 24),e1 P "is_whole" 230 (.ref 31),e1 P "is_whole_within" 239 (.ref 38),e1 P "is_house" 246 (.ref 45),e1 P "is_door" 253 (.ref 52),e1 P "is_place" 260 (.ref 59),e1 P "is_outer_place" 267 (.ref 66),e1 P "is_ticks" 274 (.ref 73),e1 P "is_kind" 281 (.ref 80),e1 P "is_word" 289 (.ref 87),e1 P "is_sign" 297 (.ref 94),e1 P "is_text" 303 (.ref 99),e1 P "is_letter" 312 (.ref 106),e1 P "is_out" 326 (.ref 113),e1 P "is_come" 339 (.ref 120),e1 P "is_lost" 351 (.ref 127),e1 P "is_wait" 358 (.ref 134),e1 P "is_rule" 370 (.ref 141),e1 P "is_unrule" 377 (.ref 148),e1 P "DEEDS" 390 (.ref 149),e1 P "name_of" 397 (.ref 156),e1 P "is_deed" 406 (.ref 163),e1 P "GateError" 426 (.ref 173),e1 P "NoForm" 442 (.ref 186),e1 P "NoDeed" 458 (.ref 198),e1 P "NoRule" 474 (.ref 210),e1 P "LENDINGS" 480 (.ref 213),e1 P "SIEVES" 484 (.ref 214),e1 P "PICKS" 487 (.ref 215),e1 P "WIDEST_STEP" 489 (.int 199 488),e1 P "GREATEST_MOST" 491 (.int 200 490),e1 P "GREATEST_TIME" 493 (.int 1000000 492),e1 P "TIME_AT" 512 (.ref 216),e1 P "is_pool" 520 (.ref 223),e1 P "is_times" 526 (.ref 228),e1 P "is_form" 541 (.ref 235),e1 P "holder_of" 555 (.ref 242),e1 P "time_of" 564 (.ref 249),e1 P "LINE_STEPS" 677 (.ref 250),e1 P "BREAKABLE" 683 (.ref 265),e1 P "note_state" 691 (.ref 272),e1 P "line_state" 700 (.ref 279),e1 P "next_state" 710 (.ref 286),e1 P "Rules" 793 (.ref 338),e1 P "Pool" 893 (.ref 411),e1 P "Talk" 930 (.ref 432),e1 P "Talks" 1100 (.ref 552),e1 P "talk_row" 1114 (.ref 563),e1 P "Gate" 1435 (.ref 765),e1 P "_law_cell" 1445 (.ref 776),e1 P "_law_well" 1453 (.ref 783),e1 P "_law_take" 1464 (.ref 790),e1 P "_law_whole" 1471 (.ref 797),e1 P "_law_wide" 1483 (.ref 804),e1 P "_law_bag_at" 1492 (.ref 811),e1 P "_law_holder_of" 1501 (.ref 818),e1 P "_law_number_for" 1507 (.ref 823),e1 P "_law_an_inner" 1521 (.ref 830),e1 P "law" 1527 (.ref 835)]
def tb:List Value:=[.int 1 0,.int 0 0,.ref 20,.int 17 0,.int 0 0,.ref 30,.int 19 0,.int 0 0,.ref 37,.int 21 0,.int 0 0,.ref 44,.int 23 0,.int 0 0,.ref 51,.int 25 0,.int 0 0,.ref 58,.int 27 0,.int 0 0,.ref 65,.int 29 0,.int 0 0,.ref 72,.int 31 0,.int 0 0,.ref 79,.int 33 0,.int 0 0,.ref 86,.int 37 0,.int 0 0,.ref 93,.int 40 0,.int 0 0,.ref 98,.int 44 0,.int 0 0,.ref 105,.int 46 0,.int 0 0,.ref 112,.int 51 0,.int 0 0,.ref 119,.int 56 0,.int 0 0,.ref 126,.int 61 0,.int 0 0,.ref 133,.int 63 0,.int 0 0,.ref 140,.int 70 0,.int 0 0,.ref 147,.int 73 0,.int 0 0,.ref 155,.int 77 0,.int 0 0,.ref 162,.int 84 0,.int 0 0,.ref 169,.int 86 0,.int 0 0,.ref 182,.int 88 0,.int 0 0,.ref 194,.int 90 0,.int 0 0,.ref 206,.int 100 0,.int 0 0,.ref 222,.int 102 0,.int 0 0,.ref 227,.int 107 0,.int 0 0,.ref 234,.int 116 0,.int 0 0,.ref 241,.int 124 0,.int 0 0,.ref 248,.int 130 0,.int 0 0,.ref 271,.int 134 0,.int 0 0,.ref 278,.int 138 0,.int 0 0,.ref 285,.int 143 0,.int 0 0,.ref 292,.int 171 0,.int 0 0,.ref 348,.int 215 0,.int 0 0,.ref 421,.int 222 0,.int 0 0,.ref 442,.int 305 0,.int 0 0,.ref 562,.int 308 0,.int 0 0,.ref 569,.int 479 0,.int 0 0,.ref 775,.int 483 0,.int 0 0,.ref 782,.int 487 0,.int 0 0,.ref 789,.int 497 0,.int 0 0,.ref 796,.int 499 0,.int 0 0,.ref 803,.int 504 0,.int 0 0,.ref 810,.int 510 0,.int 0 0,.ref 817,.int 513 0,.int 0 0,.ref 822,.int 521 0,.int 0 0,.ref 829,.int 526 0,.int 0 0,.ref 834]
abbrev pm0:Value:=.str "__main__" 164
abbrev pm1:Value:=.str "lentgate.ends" 194
abbrev pm2:Value:=.str "lentgate.forms" 475
abbrev pm3:Value:=.str "lentgate.lines" 565
abbrev pm4:Value:=.str "lentgate.rules" 711
abbrev pm5:Value:=.str "lentgate.pool" 794
abbrev pm6:Value:=.str "lentgate.talks" 894
abbrev pm7:Value:=.str "lentgate.gate" 1101
abbrev pm8:Value:=.str "law_lentgate_k06_first_letters_out" 1436
abbrev d15:=df "_wall" "_wall" (top 0) 15 187 1 1 ["k"] pm0
abbrev d25:=df "is_whole" "is_whole" (top 14) 25 224 17 1 ["thing"] pm1
abbrev d32:=df "is_whole_within" "is_whole_within" (top 15) 32 231 19 3 ["thing","least","greatest"] pm1
abbrev d39:=df "is_house" "is_house" (top 16) 39 240 21 1 ["thing"] pm1
abbrev d46:=df "is_door" "is_door" (top 17) 46 247 23 1 ["thing"] pm1
abbrev d53:=df "is_place" "is_place" (top 18) 53 254 25 1 ["thing"] pm1
abbrev d60:=df "is_outer_place" "is_outer_place" (top 19) 60 261 27 1 ["thing"] pm1
abbrev d67:=df "is_ticks" "is_ticks" (top 20) 67 268 29 1 ["thing"] pm1
abbrev d74:=df "is_kind" "is_kind" (top 21) 74 275 31 1 ["thing"] pm1
abbrev d81:=df "is_word" "is_word" (top 22) 81 282 33 2 ["kind","thing"] pm1
abbrev d88:=df "is_sign" "is_sign" (top 23) 88 290 37 1 ["sign","at"] pm1
abbrev d100:=df "is_letter" "is_letter" (top 25) 100 304 44 3 ["kind","word","text"] pm1
abbrev d107:=df "is_out" "is_out" (top 26) 107 313 46 1 ["parts","kind","house","door","place","far","word","text"] pm1
abbrev d114:=df "is_come" "is_come" (top 27) 114 327 51 1 ["parts","kind","place","far","number","word","text"] pm1
abbrev d121:=df "is_lost" "is_lost" (top 28) 121 340 56 1 ["parts","teller","kind","number","place","far"] pm1
abbrev d128:=df "is_wait" "is_wait" (top 29) 128 352 61 1 ["parts"] pm1
abbrev d135:=df "is_rule" "is_rule" (top 30) 135 359 63 1 ["parts","kind","number","place","house","door"] pm1
abbrev d142:=df "is_unrule" "is_unrule" (top 31) 142 371 70 1 ["parts"] pm1
abbrev d150:=df "name_of" "name_of" (top 33) 150 391 73 1 ["thing"] pm1
abbrev d157:=df "is_deed" "is_deed" (top 34) 157 398 77 1 ["thing","name","has_parts"] pm1
abbrev d217:=df "is_pool" "is_pool" (top 48) 217 513 100 2 ["low","high"] pm2
abbrev d229:=df "is_form" "is_form" (top 50) 229 527 107 1 ["thing","low","high","lending","sieve","pick","most","renew","times"] pm2
abbrev d236:=df "holder_of" "holder_of" (top 51) 236 542 116 2 ["form","inner","kind","house","door","place","far","lending"] pm2
abbrev d243:=df "time_of" "time_of" (top 52) 243 556 124 2 ["form","state","times"] pm2
abbrev d266:=df "note_state" "note_state" (top 56) 266 684 130 2 ["state","word"] pm3
abbrev d273:=df "line_state" "line_state" (top 57) 273 692 134 3 ["state","side","word"] pm3
abbrev d280:=df "next_state" "next_state" (top 58) 280 701 138 4 ["kind","state","side","word"] pm3
abbrev d294:=df "__init__" "Rules.__init__" (sub (top 60) 0) 294 725 145 1 ["self"] pm4
abbrev d301:=df "tell" "Rules.tell" (sub (top 60) 1) 301 732 149 6 ["self","kind","number","place","house","door","told"] pm4
abbrev d308:=df "stands" "Rules.stands" (sub (top 60) 2) 308 745 155 2 ["self","k"] pm4
abbrev d315:=df "drop" "Rules.drop" (sub (top 60) 3) 315 753 158 2 ["self","k"] pm4
abbrev d322:=df "door_for" "Rules.door_for" (sub (top 60) 4) 322 761 161 4 ["self","kind","number","place","rule_kind","rule_number","rule_place","house","door","fits_place"] pm4
abbrev d329:=df "listed" "Rules.listed" (sub (top 60) 5) 329 777 168 1 ["self"] pm4
abbrev d350:=df "__init__" "Pool.__init__" (sub (top 62) 0) 350 808 173 3 ["self","low","high"] pm5
abbrev d357:=df "has" "Pool.has" (sub (top 62) 1) 357 817 180 2 ["self","number"] pm5
abbrev d364:=df "is_free" "Pool.is_free" (sub (top 62) 2) 364 825 183 3 ["self","number","moment"] pm5
abbrev d371:=df "from_mark" "Pool.from_mark" (sub (top 62) 3) 371 834 188 1 ["self"] pm5
abbrev d378:=df "picked" "Pool.picked" (sub (top 62) 4) 378 841 191 4 ["self","pick","door","moment","number"] pm5
abbrev d385:=df "take" "Pool.take" (sub (top 62) 5) 385 852 199 2 ["self","number"] pm5
abbrev d392:=df "give" "Pool.give" (sub (top 62) 6) 392 860 205 3 ["self","number","until"] pm5
abbrev d423:=df "__init__" "Talk.__init__" (sub (top 64) 0) 423 908 217 5 ["self","inner","number","state","over"] pm6
abbrev d444:=df "__init__" "Talks.__init__" (sub (top 65) 0) 444 943 224 2 ["self","form"] pm6
abbrev d451:=df "of_inner" "Talks.of_inner" (sub (top 65) 1) 451 951 233 2 ["self","inner"] pm6
abbrev d458:=df "of_outer" "Talks.of_outer" (sub (top 65) 2) 458 959 236 5 ["self","kind","number","place","far"] pm6
abbrev d470:=df "living" "Talks.living" (sub (top 65) 4) 470 976 244 1 ["self"] pm6
abbrev d477:=df "is_living" "Talks.is_living" (sub (top 65) 5) 477 983 247 2 ["self","talk"] pm6
abbrev d484:=df "number_of" "Talks.number_of" (sub (top 65) 6) 484 991 250 2 ["self","inner"] pm6
abbrev d491:=df "holder_at" "Talks.holder_at" (sub (top 65) 7) 491 999 253 2 ["self","number"] pm6
abbrev d503:=df "lent_until" "Talks.lent_until" (sub (top 65) 9) 503 1013 259 2 ["self","number"] pm6
abbrev d510:=df "lend" "Talks.lend" (sub (top 65) 10) 510 1021 262 3 ["self","number","inner","holder"] pm6
abbrev d517:=df "end_lend" "Talks.end_lend" (sub (top 65) 11) 517 1031 268 3 ["self","number","moment"] pm6
abbrev d524:=df "begin" "Talks.begin" (sub (top 65) 12) 524 1040 273 4 ["self","inner","number","state","kind","house","door","place","far","talk"] pm6
abbrev d531:=df "lead" "Talks.lead" (sub (top 65) 13) 531 1056 281 3 ["self","talk","state"] pm6
abbrev d538:=df "end" "Talks.end" (sub (top 65) 14) 538 1065 288 3 ["self","talk","moment","kind","house","door","place","far","number"] pm6
abbrev d557:=df "talk_row" "talk_row" (top 67) 557 1103 305 1 ["talk","kind","house","door","place","far"] pm7
abbrev d571:=df "__init__" "Gate.__init__" (sub (top 68) 0) 571 1127 310 2 ["self","form"] pm7
abbrev d578:=df "deed" "Gate.deed" (sub (top 68) 1) 578 1135 319 2 ["self","deed","answer"] pm7
abbrev d585:=df "out" "Gate.out" (sub (top 68) 2) 585 1144 326 8 ["self","kind","house","door","place","far","word","text"] pm7
abbrev d592:=df "come" "Gate.come" (sub (top 68) 3) 592 1158 329 7 ["self","kind","place","far","number","word","text"] pm7
abbrev d599:=df "lost" "Gate.lost" (sub (top 68) 4) 599 1171 332 6 ["self","teller","kind","number","place","far"] pm7
abbrev d606:=df "wait" "Gate.wait" (sub (top 68) 5) 606 1183 335 2 ["self","ticks"] pm7
abbrev d613:=df "rule" "Gate.rule" (sub (top 68) 6) 613 1191 338 6 ["self","kind","number","place","house","door"] pm7
abbrev d620:=df "unrule" "Gate.unrule" (sub (top 68) 7) 620 1203 341 2 ["self","k"] pm7
abbrev d627:=df "moment" "Gate.moment" (sub (top 68) 8) 627 1211 344 1 ["self"] pm7
abbrev d634:=df "free" "Gate.free" (sub (top 68) 9) 634 1218 347 1 ["self"] pm7
abbrev d651:=df "rests" "Gate.rests" (sub (top 68) 12) 651 1237 356 1 ["self"] pm7
abbrev d658:=df "rules" "Gate.rules" (sub (top 68) 13) 658 1244 359 1 ["self"] pm7
abbrev d665:=df "book" "Gate.book" (sub (top 68) 14) 665 1251 362 1 ["self"] pm7
abbrev d672:=df "answered" "Gate.answered" (sub (top 68) 15) 672 1258 365 3 ["self","name","parts","kind","place","far","number","word","text"] pm7
abbrev d679:=df "sent" "Gate.sent" (sub (top 68) 16) 679 1273 380 2 ["self","parts","kind","house","door","place","far","word","text","answer","number"] pm7
abbrev d686:=df "lead_out" "Gate.lead_out" (sub (top 68) 17) 686 1290 388 3 ["self","inner","word","talk","state"] pm7
abbrev d693:=df "begin_out" "Gate.begin_out" (sub (top 68) 18) 693 1301 398 3 ["self","inner","state","number"] pm7
abbrev d700:=df "picked_for" "Gate.picked_for" (sub (top 68) 19) 700 1311 410 2 ["self","door","pool","now"] pm7
abbrev d707:=df "come_in" "Gate.come_in" (sub (top 68) 20) 707 1321 416 6 ["self","kind","place","far","number","word","talk"] pm7
abbrev d714:=df "lead_in" "Gate.lead_in" (sub (top 68) 21) 714 1334 424 3 ["self","talk","word","kind","house","door","place","far","state","renew"] pm7
abbrev d721:=df "sifted" "Gate.sifted" (sub (top 68) 22) 721 1350 434 4 ["self","kind","place","number","holder"] pm7
abbrev d728:=df "lets_note_in" "Gate.lets_note_in" (sub (top 68) 23) 728 1361 442 3 ["self","place","number","sieve"] pm7
abbrev d735:=df "come_by_rule" "Gate.come_by_rule" (sub (top 68) 24) 735 1371 446 6 ["self","kind","place","far","number","word","to","house","door","state","inner"] pm7
abbrev d742:=df "told_lost" "Gate.told_lost" (sub (top 68) 25) 742 1388 460 2 ["self","parts","teller","kind","number","place","far","talk"] pm7
abbrev d749:=df "rule_told" "Gate.rule_told" (sub (top 68) 26) 749 1402 467 2 ["self","parts","kind","number","place","house","door"] pm7
abbrev d756:=df "rule_dropped" "Gate.rule_dropped" (sub (top 68) 27) 756 1415 473 2 ["self","k"] pm7
abbrev d770:=df "_law_cell" "_law_cell" (top 70) 770 1438 479 2 ["script","k"] pm8
abbrev d777:=df "_law_well" "_law_well" (top 71) 777 1446 483 2 ["cell","turn"] pm8
abbrev d784:=df "_law_take" "_law_take" (top 72) 784 1454 487 2 ["bag","many","found","p","n"] pm8
abbrev d791:=df "_law_whole" "_law_whole" (top 73) 791 1465 497 1 ["found"] pm8
abbrev d798:=df "_law_wide" "_law_wide" (top 74) 798 1472 499 3 ["bag","lending","sieve","low","times","pick"] pm8
abbrev d805:=df "_law_bag_at" "_law_bag_at" (top 75) 805 1484 504 2 ["cells","k","bag"] pm8
abbrev d812:=df "_law_holder_of" "_law_holder_of" (top 76) 812 1493 510 2 ["form","inner","seen"] pm8
abbrev d824:=df "_law_an_inner" "_law_an_inner" (top 78) 824 1508 521 2 ["bag","world","houses","doors","places","fars","house","door"] pm8
def v7(P:Params):Obj:=tup []
def v13(P:Params):Obj:=coO [.str "<module>" 182,.str "<module>" 183,.str "/claim/cut.py" 184,.int 1 0,.int 0 0,.int 0 0,.int 0 0,.int 0 0,.ref 11,.bool false,.int 181 0,.ref 12,.none,.none,.none,.none,.int 185 0,.int 1 0,.str "/claim/cut.py" 186]
def v14(P:Params):Obj:=⟨.type "frame",none,.plain,#[some (.ref 13),some (.ref 3),some (.ref 3),none,some (.str "__main__" 164),none,some (.ref 0)]⟩
def v35(P:Params):Obj:=tup [.str "note" 214,.str "line" 215]
def v37(P:Params):Obj:=tup [.str "say" 217]
def v39(P:Params):Obj:=tup [.str "open" 219,.str "say" 220,.str "close" 221,.str "break" 222]
def v8(P:Params):Obj:=⟨.none,none,.fields #[],#[]⟩
def qBN(P:Params):Obj:=tfO "is_text" "is_text" (top 24)
def qAe(P:Params):Obj:=coO [.str "is_text" 298,.str "is_text" 299,.str "/claim/cut.py" 300,.int 40 0,.int 1 0,.int 0 0,.int 0 0,.int 3 0,.ref 95,.bool true,.int 181 0,.ref 96,.none,.none,.none,.ref 97,.int 301 0,.int 40 0,.str "/claim/cut.py" 302]
def qAd(P:Params):Obj:=fnO "is_text" "is_text" (top 24) (.str "lentgate.ends" 194) (.ref 98)
def v201(P:Params):Obj:=nsO [e1 P "out" 378 (.ref 113),e1 P "come" 379 (.ref 120),e1 P "lost" 380 (.ref 127),e1 P "wait" 381 (.ref 134),e1 P "rule" 382 (.ref 141),e1 P "unrule" 383 (.ref 148)] 6
def qAc(P:Params):Obj:=tup [.type "ValueError"]
def qf4(P:Params):Obj:=⟨.type "builtin_function_or_method",none,.fields #[.builtin "type.__prepare__",.type "type"],#[]⟩
def qAb(P:Params):Obj:=nsO [e1 P "__module__" 416 (.str "lentgate.errors" 407),e1 P "__qualname__" 418 (.str "GateError" 417),e1 P "__firstlineno__" 420 (.int 84 419),e1 P "__static_attributes__" 421 (.ref 171)] 4
def qAa(P:Params):Obj:=coO [.str "GateError" 411,.str "GateError" 412,.str "/claim/cut.py" 413,.int 84 0,.int 0 0,.int 0 0,.int 0 0,.int 0 0,.ref 167,.bool false,.int 181 0,.ref 168,.none,.none,.none,.none,.int 414 0,.int 84 0,.str "/claim/cut.py" 415]
def qz9(P:Params):Obj:=⟨.type "frame",none,.plain,#[some (.ref 169),some (.ref 3),some (.ref 166),none,some (.str "lentgate.errors" 407),none,some (.ref 0)]⟩
def qz8(P:Params):Obj:=nsO [e1 P "__module__" 416 (.str "lentgate.errors" 407),e1 P "__firstlineno__" 420 (.int 84 419),e1 P "__static_attributes__" 421 (.ref 171),e1 P "__weakref__" 423 (.ref 174),e1 P "__doc__" 424 (.none)] 3
def qBM(P:Params):Obj:=⟨.type "type",none,.cls { name:="GateError",bases:=[.type "ValueError"],mro:=[.ref 173,.type "ValueError",.type "Exception",.type "BaseException",.type "object"],ns:=172,qualname:="GateError",hasDict:=true,slotNames:=[],subclasses:=[],abstract:=false,collection:=none,hasDel:=false },#[some (.ref 164),none,some (.str "GateError" 409),some (.str "GateError" 417),some (.builtin "ValueError.__new__"),some (.bool true)]⟩
def qz7(P:Params):Obj:=⟨.type "getset_descriptor",none,.fields #[.str "__weakref__" 422,.ref 173,.builtin "ExceptionGroup.__weakref__",.none],#[]⟩
def qz6(P:Params):Obj:=⟨.type "super",none,.fields #[.ref 173,.ref 173,.ref 173],#[]⟩
def qz5(P:Params):Obj:=⟨.type "builtin_function_or_method",none,.fields #[.builtin "object.__init_subclass__",.ref 173],#[]⟩
def qBL(P:Params):Obj:=⟨.type "type",none,.cls { name:="GateError",bases:=[.type "ValueError"],mro:=[.ref 173,.type "ValueError",.type "Exception",.type "BaseException",.type "object"],ns:=172,qualname:="GateError",hasDict:=true,slotNames:=[],subclasses:=[.ref 186],abstract:=false,collection:=none,hasDel:=false },#[some (.ref 164),none,some (.str "GateError" 409),some (.str "GateError" 417),some (.builtin "ValueError.__new__"),some (.bool true)]⟩
def qsa(P:Params):Obj:=tup [.ref 173]
def qz4(P:Params):Obj:=nsO [e1 P "__module__" 434 (.str "lentgate.errors" 407),e1 P "__qualname__" 436 (.str "NoForm" 435),e1 P "__firstlineno__" 438 (.int 86 437),e1 P "__static_attributes__" 439 (.ref 184)] 4
def qz3(P:Params):Obj:=coO [.str "NoForm" 429,.str "NoForm" 430,.str "/claim/cut.py" 431,.int 86 0,.int 0 0,.int 0 0,.int 0 0,.int 0 0,.ref 180,.bool false,.int 181 0,.ref 181,.none,.none,.none,.none,.int 432 0,.int 86 0,.str "/claim/cut.py" 433]
def qz2(P:Params):Obj:=⟨.type "frame",none,.plain,#[some (.ref 182),some (.ref 3),some (.ref 179),none,some (.str "lentgate.errors" 407),none,some (.ref 0)]⟩
def qz1(P:Params):Obj:=nsO [e1 P "__module__" 434 (.str "lentgate.errors" 407),e1 P "__firstlineno__" 438 (.int 86 437),e1 P "__static_attributes__" 439 (.ref 184),e1 P "__doc__" 440 (.none)] 2
def qz0(P:Params):Obj:=⟨.type "type",none,.cls { name:="NoForm",bases:=[.ref 173],mro:=[.ref 186,.ref 173,.type "ValueError",.type "Exception",.type "BaseException",.type "object"],ns:=185,qualname:="NoForm",hasDict:=true,slotNames:=[],subclasses:=[],abstract:=false,collection:=none,hasDel:=false },#[some (.ref 177),none,some (.str "NoForm" 427),some (.str "NoForm" 435),some (.builtin "ValueError.__new__"),some (.bool true)]⟩
def qzZ(P:Params):Obj:=⟨.type "super",none,.fields #[.ref 186,.ref 186,.ref 186],#[]⟩
def qzY(P:Params):Obj:=⟨.type "builtin_function_or_method",none,.fields #[.builtin "object.__init_subclass__",.ref 186],#[]⟩
def qBK(P:Params):Obj:=⟨.type "type",none,.cls { name:="GateError",bases:=[.type "ValueError"],mro:=[.ref 173,.type "ValueError",.type "Exception",.type "BaseException",.type "object"],ns:=172,qualname:="GateError",hasDict:=true,slotNames:=[],subclasses:=[.ref 186,.ref 198],abstract:=false,collection:=none,hasDel:=false },#[some (.ref 164),none,some (.str "GateError" 409),some (.str "GateError" 417),some (.builtin "ValueError.__new__"),some (.bool true)]⟩
def qzX(P:Params):Obj:=nsO [e1 P "__module__" 450 (.str "lentgate.errors" 407),e1 P "__qualname__" 452 (.str "NoDeed" 451),e1 P "__firstlineno__" 454 (.int 88 453),e1 P "__static_attributes__" 455 (.ref 196)] 4
def qzW(P:Params):Obj:=coO [.str "NoDeed" 445,.str "NoDeed" 446,.str "/claim/cut.py" 447,.int 88 0,.int 0 0,.int 0 0,.int 0 0,.int 0 0,.ref 192,.bool false,.int 181 0,.ref 193,.none,.none,.none,.none,.int 448 0,.int 88 0,.str "/claim/cut.py" 449]
def qzV(P:Params):Obj:=⟨.type "frame",none,.plain,#[some (.ref 194),some (.ref 3),some (.ref 191),none,some (.str "lentgate.errors" 407),none,some (.ref 0)]⟩
def qzU(P:Params):Obj:=nsO [e1 P "__module__" 450 (.str "lentgate.errors" 407),e1 P "__firstlineno__" 454 (.int 88 453),e1 P "__static_attributes__" 455 (.ref 196),e1 P "__doc__" 456 (.none)] 2
def qzT(P:Params):Obj:=⟨.type "type",none,.cls { name:="NoDeed",bases:=[.ref 173],mro:=[.ref 198,.ref 173,.type "ValueError",.type "Exception",.type "BaseException",.type "object"],ns:=197,qualname:="NoDeed",hasDict:=true,slotNames:=[],subclasses:=[],abstract:=false,collection:=none,hasDel:=false },#[some (.ref 189),none,some (.str "NoDeed" 443),some (.str "NoDeed" 451),some (.builtin "ValueError.__new__"),some (.bool true)]⟩
def qzS(P:Params):Obj:=⟨.type "super",none,.fields #[.ref 198,.ref 198,.ref 198],#[]⟩
def qzR(P:Params):Obj:=⟨.type "builtin_function_or_method",none,.fields #[.builtin "object.__init_subclass__",.ref 198],#[]⟩
def qzQ(P:Params):Obj:=⟨.type "type",none,.cls { name:="GateError",bases:=[.type "ValueError"],mro:=[.ref 173,.type "ValueError",.type "Exception",.type "BaseException",.type "object"],ns:=172,qualname:="GateError",hasDict:=true,slotNames:=[],subclasses:=[.ref 186,.ref 198,.ref 210],abstract:=false,collection:=none,hasDel:=false },#[some (.ref 164),none,some (.str "GateError" 409),some (.str "GateError" 417),some (.builtin "ValueError.__new__"),some (.bool true)]⟩
def qzP(P:Params):Obj:=nsO [e1 P "__module__" 466 (.str "lentgate.errors" 407),e1 P "__qualname__" 468 (.str "NoRule" 467),e1 P "__firstlineno__" 470 (.int 90 469),e1 P "__static_attributes__" 471 (.ref 208)] 4
def qzO(P:Params):Obj:=coO [.str "NoRule" 461,.str "NoRule" 462,.str "/claim/cut.py" 463,.int 90 0,.int 0 0,.int 0 0,.int 0 0,.int 0 0,.ref 204,.bool false,.int 181 0,.ref 205,.none,.none,.none,.none,.int 464 0,.int 90 0,.str "/claim/cut.py" 465]
def qzN(P:Params):Obj:=⟨.type "frame",none,.plain,#[some (.ref 206),some (.ref 3),some (.ref 203),none,some (.str "lentgate.errors" 407),none,some (.ref 0)]⟩
def qzM(P:Params):Obj:=nsO [e1 P "__module__" 466 (.str "lentgate.errors" 407),e1 P "__firstlineno__" 470 (.int 90 469),e1 P "__static_attributes__" 471 (.ref 208),e1 P "__doc__" 472 (.none)] 2
def qzL(P:Params):Obj:=⟨.type "type",none,.cls { name:="NoRule",bases:=[.ref 173],mro:=[.ref 210,.ref 173,.type "ValueError",.type "Exception",.type "BaseException",.type "object"],ns:=209,qualname:="NoRule",hasDict:=true,slotNames:=[],subclasses:=[],abstract:=false,collection:=none,hasDel:=false },#[some (.ref 201),none,some (.str "NoRule" 459),some (.str "NoRule" 467),some (.builtin "ValueError.__new__"),some (.bool true)]⟩
def qzK(P:Params):Obj:=⟨.type "super",none,.fields #[.ref 210,.ref 210,.ref 210],#[]⟩
def qzJ(P:Params):Obj:=⟨.type "builtin_function_or_method",none,.fields #[.builtin "object.__init_subclass__",.ref 210],#[]⟩
def qzI(P:Params):Obj:=tup [.str "door" 477,.str "place" 478,.str "talk" 479]
def qzH(P:Params):Obj:=tup [.str "all" 481,.str "place" 482,.str "talk" 483]
def qzG(P:Params):Obj:=tup [.str "next" 485,.str "keep" 486]
def v292(P:Params):Obj:=nsO [e1 P "note" 494 (.int 0 495),e1 P "asked" 496 (.int 1 497),e1 P "called" 498 (.int 1 499),e1 P "up" 500 (.int 2 501),e1 P "near" 502 (.int 2 503),e1 P "far" 504 (.int 2 505)] 6
def qBJ(P:Params):Obj:=tfO "is_times" "is_times" (top 49)
def qzF(P:Params):Obj:=coO [.str "is_times" 521,.str "is_times" 522,.str "/claim/cut.py" 523,.int 102 0,.int 1 0,.int 0 0,.int 0 0,.int 3 0,.ref 224,.bool true,.int 181 0,.ref 225,.none,.none,.none,.ref 226,.int 524 0,.int 102 0,.str "/claim/cut.py" 525]
def qzE(P:Params):Obj:=fnO "is_times" "is_times" (top 49) (.str "lentgate.forms" 475) (.ref 227)
def qzD(P:Params):Obj:=tup [.str "house" 567,.none,.str "open" 568]
def qzC(P:Params):Obj:=tup [.str "house" 570,.str "asked" 571,.str "open" 572]
def qzB(P:Params):Obj:=tup [.str "house" 574,.str "called" 575,.str "open" 576]
def qzA(P:Params):Obj:=tup [.str "house" 578,.str "up" 579,.str "say" 580]
def qzz(P:Params):Obj:=tup [.str "house" 582,.str "far" 583,.str "say" 584]
def qzy(P:Params):Obj:=tup [.str "house" 586,.str "up" 587,.str "close" 588]
def qzx(P:Params):Obj:=tup [.str "house" 590,.str "far" 591,.str "close" 592]
def qzw(P:Params):Obj:=tup [.str "far" 594,.none,.str "open" 595]
def qzv(P:Params):Obj:=tup [.str "far" 597,.str "called" 598,.str "open" 599]
def qzu(P:Params):Obj:=tup [.str "far" 601,.str "asked" 602,.str "open" 603]
def qzt(P:Params):Obj:=tup [.str "far" 605,.str "up" 606,.str "say" 607]
def qzs(P:Params):Obj:=tup [.str "far" 609,.str "near" 610,.str "say" 611]
def qzr(P:Params):Obj:=tup [.str "far" 613,.str "up" 614,.str "close" 615]
def qzq(P:Params):Obj:=tup [.str "far" 617,.str "near" 618,.str "close" 619]
def qzp(P:Params):Obj:=tup [.str "asked" 678,.str "called" 679,.str "up" 680,.str "near" 681,.str "far" 682]
def qzo(P:Params):Obj:=nsO [e1 P "__module__" 720 (.str "lentgate.rules" 711),e1 P "__qualname__" 722 (.str "Rules" 721),e1 P "__firstlineno__" 724 (.int 143 723),e1 P "__init__" 731 (.ref 300),e1 P "tell" 744 (.ref 307),e1 P "stands" 752 (.ref 314),e1 P "drop" 760 (.ref 321),e1 P "door_for" 776 (.ref 328),e1 P "listed" 783 (.ref 335),e1 P "__static_attributes__" 786 (.ref 336)] 10
def qBI(P:Params):Obj:=⟨.none,none,.fields #[.int 145 0,.int 4 0,.ref 299,.int 149 0,.int 4 0,.ref 306,.int 155 0,.int 4 0,.ref 313,.int 158 0,.int 4 0,.ref 320,.int 161 0,.int 4 0,.ref 327,.int 168 0,.int 4 0,.ref 334],#[]⟩
def qzn(P:Params):Obj:=coO [.str "Rules" 715,.str "Rules" 716,.str "/claim/cut.py" 717,.int 143 0,.int 0 0,.int 0 0,.int 0 0,.int 0 0,.ref 290,.bool false,.int 181 0,.ref 291,.none,.none,.none,.none,.int 718 0,.int 143 0,.str "/claim/cut.py" 719]
def qzm(P:Params):Obj:=⟨.type "frame",none,.plain,#[some (.ref 292),some (.ref 3),some (.ref 289),none,some (.str "lentgate.rules" 711),none,some (.ref 0)]⟩
def qzl(P:Params):Obj:=tup [.str "many_told" 784,.str "standing" 785]
def qzk(P:Params):Obj:=nsO [e1 P "__module__" 720 (.str "lentgate.rules" 711),e1 P "__firstlineno__" 724 (.int 143 723),e1 P "__init__" 731 (.ref 300),e1 P "tell" 744 (.ref 307),e1 P "stands" 752 (.ref 314),e1 P "drop" 760 (.ref 321),e1 P "door_for" 776 (.ref 328),e1 P "listed" 783 (.ref 335),e1 P "__static_attributes__" 786 (.ref 336),e1 P "__dict__" 788 (.ref 339),e1 P "__weakref__" 790 (.ref 340),e1 P "__doc__" 791 (.none)] 4
def qzj(P:Params):Obj:=⟨.type "type",none,.cls { name:="Rules",bases:=[.type "object"],mro:=[.ref 338,.type "object"],ns:=337,qualname:="Rules",hasDict:=true,slotNames:=[],subclasses:=[],abstract:=false,collection:=none,hasDel:=false },#[none,none,some (.str "Rules" 713),some (.str "Rules" 721),some (.builtin "object.__new__"),some (.bool true)]⟩
def qzi(P:Params):Obj:=⟨.type "getset_descriptor",none,.fields #[.str "__dict__" 787,.ref 338,.builtin "function.__dict__",.builtin "function.__dict__#set"],#[]⟩
def qzh(P:Params):Obj:=⟨.type "getset_descriptor",none,.fields #[.str "__weakref__" 789,.ref 338,.builtin "ExceptionGroup.__weakref__",.none],#[]⟩
def qzg(P:Params):Obj:=⟨.type "super",none,.fields #[.ref 338,.ref 338,.ref 338],#[]⟩
def qzf(P:Params):Obj:=⟨.type "builtin_function_or_method",none,.fields #[.builtin "object.__init_subclass__",.ref 338],#[]⟩
def qze(P:Params):Obj:=nsO [e1 P "__module__" 803 (.str "lentgate.pool" 794),e1 P "__qualname__" 805 (.str "Pool" 804),e1 P "__firstlineno__" 807 (.int 171 806),e1 P "__init__" 816 (.ref 356),e1 P "has" 824 (.ref 363),e1 P "is_free" 833 (.ref 370),e1 P "from_mark" 840 (.ref 377),e1 P "picked" 851 (.ref 384),e1 P "take" 859 (.ref 391),e1 P "give" 868 (.ref 398),e1 P "resting" 874 (.ref 403),e1 P "many_free" 880 (.ref 408),e1 P "__static_attributes__" 886 (.ref 409)] 13
def qBH(P:Params):Obj:=⟨.none,none,.fields #[.int 173 0,.int 4 0,.ref 355,.int 180 0,.int 4 0,.ref 362,.int 183 0,.int 4 0,.ref 369,.int 188 0,.int 4 0,.ref 376,.int 191 0,.int 4 0,.ref 383,.int 199 0,.int 4 0,.ref 390,.int 205 0,.int 4 0,.ref 397,.int 209 0,.int 4 0,.ref 402,.int 212 0,.int 4 0,.ref 407],#[]⟩
def qzd(P:Params):Obj:=coO [.str "Pool" 798,.str "Pool" 799,.str "/claim/cut.py" 800,.int 171 0,.int 0 0,.int 0 0,.int 0 0,.int 0 0,.ref 346,.bool false,.int 181 0,.ref 347,.none,.none,.none,.none,.int 801 0,.int 171 0,.str "/claim/cut.py" 802]
def qzc(P:Params):Obj:=⟨.type "frame",none,.plain,#[some (.ref 348),some (.ref 3),some (.ref 345),none,some (.str "lentgate.pool" 794),none,some (.ref 0)]⟩
def qBG(P:Params):Obj:=tfO "resting" "Pool.resting" (sub (top 62) 7)
def qzb(P:Params):Obj:=coO [.str "resting" 869,.str "Pool.resting" 870,.str "/claim/cut.py" 871,.int 209 0,.int 2 0,.int 0 0,.int 0 0,.int 3 0,.ref 399,.bool true,.int 181 0,.ref 400,.none,.none,.none,.ref 401,.int 872 0,.int 209 0,.str "/claim/cut.py" 873]
def qza(P:Params):Obj:=fnO "resting" "Pool.resting" (sub (top 62) 7) (.str "lentgate.pool" 794) (.ref 402)
def qBF(P:Params):Obj:=tfO "many_free" "Pool.many_free" (sub (top 62) 8)
def qy9(P:Params):Obj:=coO [.str "many_free" 875,.str "Pool.many_free" 876,.str "/claim/cut.py" 877,.int 212 0,.int 2 0,.int 0 0,.int 0 0,.int 3 0,.ref 404,.bool true,.int 181 0,.ref 405,.none,.none,.none,.ref 406,.int 878 0,.int 212 0,.str "/claim/cut.py" 879]
def qy8(P:Params):Obj:=fnO "many_free" "Pool.many_free" (sub (top 62) 8) (.str "lentgate.pool" 794) (.ref 407)
def qy7(P:Params):Obj:=tup [.str "high" 881,.str "low" 882,.str "mark" 883,.str "taken" 884,.str "until" 885]
def qy6(P:Params):Obj:=nsO [e1 P "__module__" 803 (.str "lentgate.pool" 794),e1 P "__firstlineno__" 807 (.int 171 806),e1 P "__init__" 816 (.ref 356),e1 P "has" 824 (.ref 363),e1 P "is_free" 833 (.ref 370),e1 P "from_mark" 840 (.ref 377),e1 P "picked" 851 (.ref 384),e1 P "take" 859 (.ref 391),e1 P "give" 868 (.ref 398),e1 P "resting" 874 (.ref 403),e1 P "many_free" 880 (.ref 408),e1 P "__static_attributes__" 886 (.ref 409),e1 P "__dict__" 888 (.ref 412),e1 P "__weakref__" 890 (.ref 413),e1 P "__doc__" 891 (.none)] 4
def qy5(P:Params):Obj:=⟨.type "type",none,.cls { name:="Pool",bases:=[.type "object"],mro:=[.ref 411,.type "object"],ns:=410,qualname:="Pool",hasDict:=true,slotNames:=[],subclasses:=[],abstract:=false,collection:=none,hasDel:=false },#[none,none,some (.str "Pool" 796),some (.str "Pool" 804),some (.builtin "object.__new__"),some (.bool true)]⟩
def qy4(P:Params):Obj:=⟨.type "getset_descriptor",none,.fields #[.str "__dict__" 887,.ref 411,.builtin "function.__dict__",.builtin "function.__dict__#set"],#[]⟩
def qy3(P:Params):Obj:=⟨.type "getset_descriptor",none,.fields #[.str "__weakref__" 889,.ref 411,.builtin "ExceptionGroup.__weakref__",.none],#[]⟩
def qy2(P:Params):Obj:=⟨.type "super",none,.fields #[.ref 411,.ref 411,.ref 411],#[]⟩
def qy1(P:Params):Obj:=⟨.type "builtin_function_or_method",none,.fields #[.builtin "object.__init_subclass__",.ref 411],#[]⟩
def qy0(P:Params):Obj:=nsO [e1 P "__module__" 903 (.str "lentgate.talks" 894),e1 P "__qualname__" 905 (.str "Talk" 904),e1 P "__firstlineno__" 907 (.int 215 906),e1 P "__init__" 918 (.ref 429),e1 P "__static_attributes__" 923 (.ref 430)] 5
def qBE(P:Params):Obj:=⟨.none,none,.fields #[.int 217 0,.int 4 0,.ref 428],#[]⟩
def qyZ(P:Params):Obj:=coO [.str "Talk" 898,.str "Talk" 899,.str "/claim/cut.py" 900,.int 215 0,.int 0 0,.int 0 0,.int 0 0,.int 0 0,.ref 419,.bool false,.int 181 0,.ref 420,.none,.none,.none,.none,.int 901 0,.int 215 0,.str "/claim/cut.py" 902]
def qyY(P:Params):Obj:=⟨.type "frame",none,.plain,#[some (.ref 421),some (.ref 3),some (.ref 418),none,some (.str "lentgate.talks" 894),none,some (.ref 0)]⟩
def qyX(P:Params):Obj:=tup [.str "inner" 919,.str "number" 920,.str "over" 921,.str "state" 922]
def qyW(P:Params):Obj:=nsO [e1 P "__module__" 903 (.str "lentgate.talks" 894),e1 P "__firstlineno__" 907 (.int 215 906),e1 P "__init__" 918 (.ref 429),e1 P "__static_attributes__" 923 (.ref 430),e1 P "__dict__" 925 (.ref 433),e1 P "__weakref__" 927 (.ref 434),e1 P "__doc__" 928 (.none)] 4
def qyV(P:Params):Obj:=⟨.type "type",none,.cls { name:="Talk",bases:=[.type "object"],mro:=[.ref 432,.type "object"],ns:=431,qualname:="Talk",hasDict:=true,slotNames:=[],subclasses:=[],abstract:=false,collection:=none,hasDel:=false },#[none,none,some (.str "Talk" 896),some (.str "Talk" 904),some (.builtin "object.__new__"),some (.bool true)]⟩
def qyU(P:Params):Obj:=⟨.type "getset_descriptor",none,.fields #[.str "__dict__" 924,.ref 432,.builtin "function.__dict__",.builtin "function.__dict__#set"],#[]⟩
def qyT(P:Params):Obj:=⟨.type "getset_descriptor",none,.fields #[.str "__weakref__" 926,.ref 432,.builtin "ExceptionGroup.__weakref__",.none],#[]⟩
def qyS(P:Params):Obj:=⟨.type "super",none,.fields #[.ref 432,.ref 432,.ref 432],#[]⟩
def qyR(P:Params):Obj:=⟨.type "builtin_function_or_method",none,.fields #[.builtin "object.__init_subclass__",.ref 432],#[]⟩
def qyQ(P:Params):Obj:=nsO [e1 P "__module__" 938 (.str "lentgate.talks" 894),e1 P "__qualname__" 940 (.str "Talks" 939),e1 P "__firstlineno__" 942 (.int 222 941),e1 P "__init__" 950 (.ref 450),e1 P "of_inner" 958 (.ref 457),e1 P "of_outer" 969 (.ref 464),e1 P "is_with" 975 (.ref 469),e1 P "living" 982 (.ref 476),e1 P "is_living" 990 (.ref 483),e1 P "number_of" 998 (.ref 490),e1 P "holder_at" 1006 (.ref 497),e1 P "held" 1012 (.ref 502),e1 P "lent_until" 1020 (.ref 509),e1 P "lend" 1030 (.ref 516),e1 P "end_lend" 1039 (.ref 523),e1 P "begin" 1055 (.ref 530),e1 P "lead" 1064 (.ref 537),e1 P "end" 1079 (.ref 544),e1 P "pass_by" 1085 (.ref 549),e1 P "__static_attributes__" 1093 (.ref 550)] 20
def qBD(P:Params):Obj:=⟨.none,none,.fields #[.int 224 0,.int 4 0,.ref 449,.int 233 0,.int 4 0,.ref 456,.int 236 0,.int 4 0,.ref 463,.int 241 0,.int 4 0,.ref 468,.int 244 0,.int 4 0,.ref 475,.int 247 0,.int 4 0,.ref 482,.int 250 0,.int 4 0,.ref 489,.int 253 0,.int 4 0,.ref 496,.int 256 0,.int 4 0,.ref 501,.int 259 0,.int 4 0,.ref 508,.int 262 0,.int 4 0,.ref 515,.int 268 0,.int 4 0,.ref 522,.int 273 0,.int 4 0,.ref 529,.int 281 0,.int 4 0,.ref 536,.int 288 0,.int 4 0,.ref 543,.int 299 0,.int 4 0,.ref 548],#[]⟩
def qyP(P:Params):Obj:=coO [.str "Talks" 933,.str "Talks" 934,.str "/claim/cut.py" 935,.int 222 0,.int 0 0,.int 0 0,.int 0 0,.int 0 0,.ref 440,.bool false,.int 181 0,.ref 441,.none,.none,.none,.none,.int 936 0,.int 222 0,.str "/claim/cut.py" 937]
def qyO(P:Params):Obj:=⟨.type "frame",none,.plain,#[some (.ref 442),some (.ref 3),some (.ref 439),none,some (.str "lentgate.talks" 894),none,some (.ref 0)]⟩
def qBC(P:Params):Obj:=tfO "is_with" "Talks.is_with" (sub (top 65) 3)
def qyN(P:Params):Obj:=coO [.str "is_with" 970,.str "Talks.is_with" 971,.str "/claim/cut.py" 972,.int 241 0,.int 3 0,.int 0 0,.int 0 0,.int 3 0,.ref 465,.bool true,.int 181 0,.ref 466,.none,.none,.none,.ref 467,.int 973 0,.int 241 0,.str "/claim/cut.py" 974]
def qyM(P:Params):Obj:=fnO "is_with" "Talks.is_with" (sub (top 65) 3) (.str "lentgate.talks" 894) (.ref 468)
def qBB(P:Params):Obj:=tfO "held" "Talks.held" (sub (top 65) 8)
def qyL(P:Params):Obj:=coO [.str "held" 1007,.str "Talks.held" 1008,.str "/claim/cut.py" 1009,.int 256 0,.int 2 0,.int 0 0,.int 0 0,.int 3 0,.ref 498,.bool true,.int 181 0,.ref 499,.none,.none,.none,.ref 500,.int 1010 0,.int 256 0,.str "/claim/cut.py" 1011]
def qyK(P:Params):Obj:=fnO "held" "Talks.held" (sub (top 65) 8) (.str "lentgate.talks" 894) (.ref 501)
def qBA(P:Params):Obj:=tfO "pass_by" "Talks.pass_by" (sub (top 65) 15)
def qyJ(P:Params):Obj:=coO [.str "pass_by" 1080,.str "Talks.pass_by" 1081,.str "/claim/cut.py" 1082,.int 299 0,.int 2 0,.int 0 0,.int 0 0,.int 3 0,.ref 545,.bool true,.int 181 0,.ref 546,.none,.none,.none,.ref 547,.int 1083 0,.int 299 0,.str "/claim/cut.py" 1084]
def qyI(P:Params):Obj:=fnO "pass_by" "Talks.pass_by" (sub (top 65) 15) (.str "lentgate.talks" 894) (.ref 548)
def qyH(P:Params):Obj:=tup [.str "by_inner" 1086,.str "by_number" 1087,.str "form" 1088,.str "holders" 1089,.str "now" 1090,.str "numbers" 1091,.str "pool" 1092]
def qyG(P:Params):Obj:=nsO [e1 P "__module__" 938 (.str "lentgate.talks" 894),e1 P "__firstlineno__" 942 (.int 222 941),e1 P "__init__" 950 (.ref 450),e1 P "of_inner" 958 (.ref 457),e1 P "of_outer" 969 (.ref 464),e1 P "is_with" 975 (.ref 469),e1 P "living" 982 (.ref 476),e1 P "is_living" 990 (.ref 483),e1 P "number_of" 998 (.ref 490),e1 P "holder_at" 1006 (.ref 497),e1 P "held" 1012 (.ref 502),e1 P "lent_until" 1020 (.ref 509),e1 P "lend" 1030 (.ref 516),e1 P "end_lend" 1039 (.ref 523),e1 P "begin" 1055 (.ref 530),e1 P "lead" 1064 (.ref 537),e1 P "end" 1079 (.ref 544),e1 P "pass_by" 1085 (.ref 549),e1 P "__static_attributes__" 1093 (.ref 550),e1 P "__dict__" 1095 (.ref 553),e1 P "__weakref__" 1097 (.ref 554),e1 P "__doc__" 1098 (.none)] 4
def qyF(P:Params):Obj:=⟨.type "type",none,.cls { name:="Talks",bases:=[.type "object"],mro:=[.ref 552,.type "object"],ns:=551,qualname:="Talks",hasDict:=true,slotNames:=[],subclasses:=[],abstract:=false,collection:=none,hasDel:=false },#[none,none,some (.str "Talks" 931),some (.str "Talks" 939),some (.builtin "object.__new__"),some (.bool true)]⟩
def qyE(P:Params):Obj:=⟨.type "getset_descriptor",none,.fields #[.str "__dict__" 1094,.ref 552,.builtin "function.__dict__",.builtin "function.__dict__#set"],#[]⟩
def qyD(P:Params):Obj:=⟨.type "getset_descriptor",none,.fields #[.str "__weakref__" 1096,.ref 552,.builtin "ExceptionGroup.__weakref__",.none],#[]⟩
def qyC(P:Params):Obj:=⟨.type "super",none,.fields #[.ref 552,.ref 552,.ref 552],#[]⟩
def qyB(P:Params):Obj:=⟨.type "builtin_function_or_method",none,.fields #[.builtin "object.__init_subclass__",.ref 552],#[]⟩
def qyA(P:Params):Obj:=nsO [e1 P "__module__" 1122 (.str "lentgate.gate" 1101),e1 P "__qualname__" 1124 (.str "Gate" 1123),e1 P "__firstlineno__" 1126 (.int 308 1125),e1 P "__init__" 1134 (.ref 577),e1 P "deed" 1143 (.ref 584),e1 P "out" 1157 (.ref 591),e1 P "come" 1170 (.ref 598),e1 P "lost" 1182 (.ref 605),e1 P "wait" 1190 (.ref 612),e1 P "rule" 1202 (.ref 619),e1 P "unrule" 1210 (.ref 626),e1 P "moment" 1217 (.ref 633),e1 P "free" 1224 (.ref 640),e1 P "lends" 1230 (.ref 645),e1 P "talks" 1236 (.ref 650),e1 P "rests" 1243 (.ref 657),e1 P "rules" 1250 (.ref 664),e1 P "book" 1257 (.ref 671),e1 P "answered" 1272 (.ref 678),e1 P "sent" 1289 (.ref 685),e1 P "lead_out" 1300 (.ref 692),e1 P "begin_out" 1310 (.ref 699),e1 P "picked_for" 1320 (.ref 706),e1 P "come_in" 1333 (.ref 713),e1 P "lead_in" 1349 (.ref 720),e1 P "sifted" 1360 (.ref 727),e1 P "lets_note_in" 1370 (.ref 734),e1 P "come_by_rule" 1387 (.ref 741),e1 P "told_lost" 1401 (.ref 748),e1 P "rule_told" 1414 (.ref 755),e1 P "rule_dropped" 1422 (.ref 762),e1 P "__static_attributes__" 1428 (.ref 763)] 32
def qBz(P:Params):Obj:=⟨.none,none,.fields #[.int 310 0,.int 4 0,.ref 576,.int 319 0,.int 4 0,.ref 583,.int 326 0,.int 4 0,.ref 590,.int 329 0,.int 4 0,.ref 597,.int 332 0,.int 4 0,.ref 604,.int 335 0,.int 4 0,.ref 611,.int 338 0,.int 4 0,.ref 618,.int 341 0,.int 4 0,.ref 625,.int 344 0,.int 4 0,.ref 632,.int 347 0,.int 4 0,.ref 639,.int 350 0,.int 4 0,.ref 644,.int 353 0,.int 4 0,.ref 649,.int 356 0,.int 4 0,.ref 656,.int 359 0,.int 4 0,.ref 663,.int 362 0,.int 4 0,.ref 670,.int 365 0,.int 4 0,.ref 677,.int 380 0,.int 4 0,.ref 684,.int 388 0,.int 4 0,.ref 691,.int 398 0,.int 4 0,.ref 698,.int 410 0,.int 4 0,.ref 705,.int 416 0,.int 4 0,.ref 712,.int 424 0,.int 4 0,.ref 719,.int 434 0,.int 4 0,.ref 726,.int 442 0,.int 4 0,.ref 733,.int 446 0,.int 4 0,.ref 740,.int 460 0,.int 4 0,.ref 747,.int 467 0,.int 4 0,.ref 754,.int 473 0,.int 4 0,.ref 761],#[]⟩
def qyz(P:Params):Obj:=coO [.str "Gate" 1117,.str "Gate" 1118,.str "/claim/cut.py" 1119,.int 308 0,.int 0 0,.int 0 0,.int 0 0,.int 0 0,.ref 567,.bool false,.int 181 0,.ref 568,.none,.none,.none,.none,.int 1120 0,.int 308 0,.str "/claim/cut.py" 1121]
def qyy(P:Params):Obj:=⟨.type "frame",none,.plain,#[some (.ref 569),some (.ref 3),some (.ref 566),none,some (.str "lentgate.gate" 1101),none,some (.ref 0)]⟩
def qBy(P:Params):Obj:=tfO "lends" "Gate.lends" (sub (top 68) 10)
def qyx(P:Params):Obj:=coO [.str "lends" 1225,.str "Gate.lends" 1226,.str "/claim/cut.py" 1227,.int 350 0,.int 1 0,.int 0 0,.int 0 0,.int 3 0,.ref 641,.bool true,.int 181 0,.ref 642,.none,.none,.none,.ref 643,.int 1228 0,.int 350 0,.str "/claim/cut.py" 1229]
def qyw(P:Params):Obj:=fnO "lends" "Gate.lends" (sub (top 68) 10) (.str "lentgate.gate" 1101) (.ref 644)
def qBx(P:Params):Obj:=tfO "talks" "Gate.talks" (sub (top 68) 11)
def qyv(P:Params):Obj:=coO [.str "talks" 1231,.str "Gate.talks" 1232,.str "/claim/cut.py" 1233,.int 353 0,.int 1 0,.int 0 0,.int 0 0,.int 3 0,.ref 646,.bool true,.int 181 0,.ref 647,.none,.none,.none,.ref 648,.int 1234 0,.int 353 0,.str "/claim/cut.py" 1235]
def qyu(P:Params):Obj:=fnO "talks" "Gate.talks" (sub (top 68) 11) (.str "lentgate.gate" 1101) (.ref 649)
def qyt(P:Params):Obj:=tup [.str "done" 1423,.str "form" 1424,.str "strangers" 1425,.str "table" 1426,.str "wish" 1427]
def qys(P:Params):Obj:=nsO [e1 P "__module__" 1122 (.str "lentgate.gate" 1101),e1 P "__firstlineno__" 1126 (.int 308 1125),e1 P "__init__" 1134 (.ref 577),e1 P "deed" 1143 (.ref 584),e1 P "out" 1157 (.ref 591),e1 P "come" 1170 (.ref 598),e1 P "lost" 1182 (.ref 605),e1 P "wait" 1190 (.ref 612),e1 P "rule" 1202 (.ref 619),e1 P "unrule" 1210 (.ref 626),e1 P "moment" 1217 (.ref 633),e1 P "free" 1224 (.ref 640),e1 P "lends" 1230 (.ref 645),e1 P "talks" 1236 (.ref 650),e1 P "rests" 1243 (.ref 657),e1 P "rules" 1250 (.ref 664),e1 P "book" 1257 (.ref 671),e1 P "answered" 1272 (.ref 678),e1 P "sent" 1289 (.ref 685),e1 P "lead_out" 1300 (.ref 692),e1 P "begin_out" 1310 (.ref 699),e1 P "picked_for" 1320 (.ref 706),e1 P "come_in" 1333 (.ref 713),e1 P "lead_in" 1349 (.ref 720),e1 P "sifted" 1360 (.ref 727),e1 P "lets_note_in" 1370 (.ref 734),e1 P "come_by_rule" 1387 (.ref 741),e1 P "told_lost" 1401 (.ref 748),e1 P "rule_told" 1414 (.ref 755),e1 P "rule_dropped" 1422 (.ref 762),e1 P "__static_attributes__" 1428 (.ref 763),e1 P "__dict__" 1430 (.ref 766),e1 P "__weakref__" 1432 (.ref 767),e1 P "__doc__" 1433 (.none)] 4
def qyr(P:Params):Obj:=⟨.type "type",none,.cls { name:="Gate",bases:=[.type "object"],mro:=[.ref 765,.type "object"],ns:=764,qualname:="Gate",hasDict:=true,slotNames:=[],subclasses:=[],abstract:=false,collection:=none,hasDel:=false },#[none,none,some (.str "Gate" 1115),some (.str "Gate" 1123),some (.builtin "object.__new__"),some (.bool true)]⟩
def qyq(P:Params):Obj:=⟨.type "getset_descriptor",none,.fields #[.str "__dict__" 1429,.ref 765,.builtin "function.__dict__",.builtin "function.__dict__#set"],#[]⟩
def qyp(P:Params):Obj:=⟨.type "getset_descriptor",none,.fields #[.str "__weakref__" 1431,.ref 765,.builtin "ExceptionGroup.__weakref__",.none],#[]⟩
def qyo(P:Params):Obj:=⟨.type "super",none,.fields #[.ref 765,.ref 765,.ref 765],#[]⟩
def qyn(P:Params):Obj:=⟨.type "builtin_function_or_method",none,.fields #[.builtin "object.__init_subclass__",.ref 765],#[]⟩
def qBw(P:Params):Obj:=tfO "_law_number_for" "_law_number_for" (top 77)
def qym(P:Params):Obj:=coO [.str "_law_number_for" 1502,.str "_law_number_for" 1503,.str "/claim/cut.py" 1504,.int 513 0,.int 4 0,.int 0 0,.int 0 0,.int 3 0,.ref 819,.bool true,.int 181 0,.ref 820,.none,.none,.none,.ref 821,.int 1505 0,.int 513 0,.str "/claim/cut.py" 1506]
def qyl(P:Params):Obj:=fnO "_law_number_for" "_law_number_for" (top 77) (.str "law_lentgate_k06_first_letters_out" 1436) (.ref 822)
def qBv(P:Params):Obj:=tfO "law" "law" (top 79)
def qyk(P:Params):Obj:=coO [.str "law" 1522,.str "law" 1523,.str "/claim/cut.py" 1524,.int 526 0,.int 1 0,.int 0 0,.int 0 0,.int 3 0,.ref 831,.bool true,.int 181 0,.ref 832,.none,.none,.none,.ref 833,.int 1525 0,.int 526 0,.str "/claim/cut.py" 1526]
def qyj(P:Params):Obj:=fnO "law" "law" (top 79) (.str "law_lentgate_k06_first_letters_out" 1436) (.ref 834)
def fin(P:Params)(D:Obj):List Obj:=[boot_o_0 P,boot_o_1 P,boot_o_2 P,nsO ((ns P).take 80) 80,boot_o_4 P,boot_o_5 P,boot_o_6 P,boot_o_7 P,boot_o_8 P,boot_o_9 P,boot_o_10 P,v7 P,tbO (tb.take 147),v13 P,v14 P]++(d15.objs++([v35 P,v37 P,v39 P]++(d25.objs++(d32.objs++(d39.objs++(d46.objs++(d53.objs++(d60.objs++(d67.objs++(d74.objs++(d81.objs++(d88.objs++([v7 P,v8 P,qBN P,qAe P,qAd P]++(d100.objs++(d107.objs++(d114.objs++(d121.objs++(d128.objs++(d135.objs++(d142.objs++([v201 P]++(d150.objs++(d157.objs++([qAc P,qf4 P,qAb P,v7 P,v8 P,qAa P,qz9 P,v7 P,qz8 P,qzQ P,qz7 P,qz6 P,qz5 P,qsa P,qf4 P,qz4 P,v7 P,v8 P,qz3 P,qz2 P,v7 P,qz1 P,qz0 P,qzZ P,qzY P,qsa P,qf4 P,qzX P,v7 P,v8 P,qzW P,qzV P,v7 P,qzU P,qzT P,qzS P,qzR P,qsa P,qf4 P,qzP P,v7 P,v8 P,qzO P,qzN P,v7 P,qzM P,qzL P,qzK P,qzJ P,qzI P,qzH P,qzG P,v292 P]++(d217.objs++([v7 P,v8 P,qBJ P,qzF P,qzE P]++(d229.objs++(d236.objs++(d243.objs++([D,qzD P,qzC P,qzB P,qzA P,qzz P,qzy P,qzx P,qzw P,qzv P,qzu P,qzt P,qzs P,qzr P,qzq P,qzp P]++(d266.objs++(d273.objs++(d280.objs++([v7 P,qf4 P,qzo P,v7 P,qBI P,qzn P,qzm P]++(d294.objs++(d301.objs++(d308.objs++(d315.objs++(d322.objs++(d329.objs++([qzl P,qzk P,qzj P,qzi P,qzh P,qzg P,qzf P,v7 P,qf4 P,qze P,v7 P,qBH P,qzd P,qzc P]++(d350.objs++(d357.objs++(d364.objs++(d371.objs++(d378.objs++(d385.objs++(d392.objs++([v7 P,v8 P,qBG P,qzb P,qza P,v7 P,v8 P,qBF P,qy9 P,qy8 P,qy7 P,qy6 P,qy5 P,qy4 P,qy3 P,qy2 P,qy1 P,v7 P,qf4 P,qy0 P,v7 P,qBE P,qyZ P,qyY P]++(d423.objs++([qyX P,qyW P,qyV P,qyU P,qyT P,qyS P,qyR P,v7 P,qf4 P,qyQ P,v7 P,qBD P,qyP P,qyO P]++(d444.objs++(d451.objs++(d458.objs++([v7 P,v8 P,qBC P,qyN P,qyM P]++(d470.objs++(d477.objs++(d484.objs++(d491.objs++([v7 P,v8 P,qBB P,qyL P,qyK P]++(d503.objs++(d510.objs++(d517.objs++(d524.objs++(d531.objs++(d538.objs++([v7 P,v8 P,qBA P,qyJ P,qyI P,qyH P,qyG P,qyF P,qyE P,qyD P,qyC P,qyB P]++(d557.objs++([v7 P,qf4 P,qyA P,v7 P,qBz P,qyz P,qyy P]++(d571.objs++(d578.objs++(d585.objs++(d592.objs++(d599.objs++(d606.objs++(d613.objs++(d620.objs++(d627.objs++(d634.objs++([v7 P,v8 P,qBy P,qyx P,qyw P,v7 P,v8 P,qBx P,qyv P,qyu P]++(d651.objs++(d658.objs++(d665.objs++(d672.objs++(d679.objs++(d686.objs++(d693.objs++(d700.objs++(d707.objs++(d714.objs++(d721.objs++(d728.objs++(d735.objs++(d742.objs++(d749.objs++(d756.objs++([qyt P,qys P,qyr P,qyq P,qyp P,qyo P,qyn P]++(d770.objs++(d777.objs++(d784.objs++(d791.objs++(d798.objs++(d805.objs++(d812.objs++([v7 P,v8 P,qBw P,qym P,qyl P]++(d824.objs++([v7 P,v8 P,qBv P,qyk P,qyj P])))))))))))))))))))))))))))))))))))))))))))))))))))))))))))))))))))))))))))))))))))))))))))))))))))))))))))
def qox(P:Params):List Obj:=fin P default
def S_A(P:Params)(os:OsState):SharedT:=⟨treeOf ((((qox P).take 15).set 3 (boot_o_3 P)).set 12 (tbO (tb.take 0))),15,{},#[],{},187,os⟩
theorem qtD(w:World)(os:OsState):topGo treeTable p w 11 ann 12 ⟨boot_heap w.2,#[],boot_drawn,boot_toks,os⟩ (topStub p)=some ((S_A w.2 os).abs,⟨denote treeTable cd,cd,q0,B⟩):=by kernel_rfl
theorem qoV(w:World)(os:OsState):segRun treeTable p w 11 ann 1 1 (S_A w.2 os).abs (blockOf body env cd q0 B)=some (.next,(S_A w.2 os).abs,cd,q0):=by kernel_rfl
def S_0(P:Params)(os:OsState):SharedT:=⟨treeOf ((((qox P).take 81).set 3 (nsO ((e1 P "__name__" 165 (.str "lentgate.ends" 194))::((ns P).drop 1).take 29) 30)).set 12 (tbO (tb.take 27))),81,{},#[],{},282,os⟩
theorem qC1(w:World)(os:OsState):segRunT treeTable p w 11 ann 1 391 (S_A w.2 os) (piecesOf ((body.drop 0).take 22) env cd q0 B)=some (.next,S_0 w.2 os,cd,⟨31,0,32,25⟩):=by
 walk_at "w9"
def S_1(P:Params)(os:OsState):SharedT:=⟨treeOf ((((qox P).take 149).set 3 (nsO ((e1 P "__name__" 165 (.str "lentgate.ends" 194))::((ns P).drop 1).take 39) 40)).set 12 (tbO (tb.take 57))),149,{},#[],{},378,os⟩
theorem qC0(w:World)(os:OsState):segRunT treeTable p w 11 ann 1 315 (S_0 w.2 os) (piecesOf ((body.drop 22).take 10) env cd ⟨31,0,32,25⟩ B)=some (.next,S_1 w.2 os,cd,⟨70,0,71,74⟩):=by
 walk_at "w9"
def S_2(P:Params)(os:OsState):SharedT:=⟨treeOf (((((qox P).take 177).set 3 (nsO ((e1 P "__name__" 165 (.str "lentgate.errors" 407))::((ns P).drop 1).take 43) 44)).set 12 (tbO (tb.take 66))).set 173 (qBM P)),177,{},#[],{},427,os⟩
theorem qwt(w:World)(os:OsState)(b:Bool):segRunT treeTable p (wf w b) 11 ann 1 362 (S_1 w.2 os) (piecesOf ((body.drop 32).take 5) env cd ⟨70,0,71,74⟩ B)=some (.next,S_2 w.2 os,cd,⟨84,0,85,8⟩):=by
 rw[PySem.W.Fast.te10110043849684766642,PySem.W.Fast.te14364793385576792824];cases b<;>kernel_rfl
theorem qCZ(w:World)(os:OsState):segRunT treeTable p w 11 ann 1 362 (S_1 w.2 os) (piecesOf ((body.drop 32).take 5) env cd ⟨70,0,71,74⟩ B)=some (.next,S_2 w.2 os,cd,⟨84,0,85,8⟩):=by
 have h:=qwt w os (w.2.followText "special-get-raises");unfold wf at h;rw[World.withFollow_self]at h;exact h
def S_3(P:Params)(os:OsState):SharedT:=⟨treeOf (((((qox P).take 189).set 3 (nsO ((e1 P "__name__" 165 (.str "lentgate.errors" 407))::((ns P).drop 1).take 44) 45)).set 12 (tbO (tb.take 69))).set 173 (qBL P)),189,{},#[],{},443,os⟩
theorem qCY(w:World)(os:OsState):segRunT treeTable p w 11 ann 1 214 (S_2 w.2 os) (piecesOf ((body.drop 37).take 1) env cd ⟨84,0,85,8⟩ B)=some (.next,S_3 w.2 os,cd,⟨86,0,87,8⟩):=by
 walk_at "w9"
def S_4(P:Params)(os:OsState):SharedT:=⟨treeOf (((((qox P).take 201).set 3 (nsO ((e1 P "__name__" 165 (.str "lentgate.errors" 407))::((ns P).drop 1).take 45) 46)).set 12 (tbO (tb.take 72))).set 173 (qBK P)),201,{},#[],{},459,os⟩
theorem qCX(w:World)(os:OsState):segRunT treeTable p w 11 ann 1 214 (S_3 w.2 os) (piecesOf ((body.drop 38).take 1) env cd ⟨86,0,87,8⟩ B)=some (.next,S_4 w.2 os,cd,⟨88,0,89,8⟩):=by
 walk_at "w9"
def S_5(P:Params)(os:OsState):SharedT:=⟨treeOf ((((qox P).take 217).set 3 (nsO ((e1 P "__name__" 165 (.str "lentgate.forms" 475))::((ns P).drop 1).take 53) 54)).set 12 (tbO (tb.take 75))),217,{},#[],{},513,os⟩
theorem qws(w:World)(os:OsState)(b:Bool):segRunT treeTable p (wf w b) 11 ann 1 388 (S_4 w.2 os) (piecesOf ((body.drop 39).take 9) env cd ⟨88,0,89,8⟩ B)=some (.next,S_5 w.2 os,cd,⟨99,0,99,7⟩):=by
 rw[PySem.W.Fast.te10110043849684766642,PySem.W.Fast.te14364793385576792824];cases b<;>kernel_rfl
theorem qCW(w:World)(os:OsState):segRunT treeTable p w 11 ann 1 388 (S_4 w.2 os) (piecesOf ((body.drop 39).take 9) env cd ⟨88,0,89,8⟩ B)=some (.next,S_5 w.2 os,cd,⟨99,0,99,7⟩):=by
 have h:=qws w os (w.2.followText "special-get-raises");unfold wf at h;rw[World.withFollow_self]at h;exact h
def S_6(P:Params)(os:OsState):SharedT:=⟨treeOf ((((qox P).take 250).set 3 (nsO ((e1 P "__name__" 165 (.str "lentgate.lines" 565))::((ns P).drop 1).take 58) 59)).set 12 (tbO (tb.take 90))),250,{},#[],{},567,os⟩
theorem qCV(w:World)(os:OsState):segRunT treeTable p w 11 ann 1 170 (S_5 w.2 os) (piecesOf ((body.drop 48).take 6) env cd ⟨99,0,99,7⟩ B)=some (.next,S_6 w.2 os,cd,⟨127,0,127,8⟩):=by
 walk_at "w9"
def ob(P:Params)(i:Nat):Obj:=(((((qox P).take 250).set 3 (nsO ((e1 P "__name__" 165 (.str "lentgate.lines" 565))::((ns P).drop 1).take 58) 59)).set 12 (tbO (tb.take 90))):List Obj).getD i default
def Dd(es:Array DictEntry)(n:Nat):Obj:=⟨.type "dict",none,.dict es n,#[]⟩
def S(o:Nat->Obj)(os:OsState)(D:Obj)(tk:Nat):SharedT:=⟨((((((((((((((((treeOf ((List.range 250).map o)).ins 250 D).ins 251 (tup [.str "house" 567,.none,.str "open" 568])).ins 252 (tup [.str "house" 570,.str "asked" 571,.str "open" 572])).ins 253 (tup [.str "house" 574,.str "called" 575,.str "open" 576])).ins 254 (tup [.str "house" 578,.str "up" 579,.str "say" 580])).ins 255 (tup [.str "house" 582,.str "far" 583,.str "say" 584])).ins 256 (tup [.str "house" 586,.str "up" 587,.str "close" 588])).ins 257 (tup [.str "house" 590,.str "far" 591,.str "close" 592])).ins 258 (tup [.str "far" 594,.none,.str "open" 595])).ins 259 (tup [.str "far" 597,.str "called" 598,.str "open" 599])).ins 260 (tup [.str "far" 601,.str "asked" 602,.str "open" 603])).ins 261 (tup [.str "far" 605,.str "up" 606,.str "say" 607])).ins 262 (tup [.str "far" 609,.str "near" 610,.str "say" 611])).ins 263 (tup [.str "far" 613,.str "up" 614,.str "close" 615])).ins 264 (tup [.str "far" 617,.str "near" 618,.str "close" 619])),265,{},#[],{},tk,os⟩
def S0(o:Nat->Obj)(os:OsState)(tk:Nat):SharedT:=⟨treeOf ((List.range 250).map o),250,{},#[],{},tk,os⟩
def S0d(o:Nat->Obj)(os:OsState)(tk:Nat):SharedT:=⟨(treeOf ((List.range 250).map o)).ins 250 (Dd #[] 0),251,{},#[],{},tk,os⟩
theorem qwr(P:Params)(os:OsState):S_6 P os=S0 (ob P) os 567:=by kernel_rfl
def hs(P:Params)(x:Str):Int:=if x.cps.isEmpty then 0 else reduceHash (P.strHash x.cps)
def kt:List (List (Option Str)):=[[some "house",none,some "open"],[some "house",some "asked",some "open"],[some "house",some "called",some "open"],[some "house",some "up",some "say"],[some "house",some "far",some "say"],[some "house",some "up",some "close"],[some "house",some "far",some "close"],[some "far",none,some "open"],[some "far",some "called",some "open"],[some "far",some "asked",some "open"],[some "far",some "up",some "say"],[some "far",some "near",some "say"],[some "far",some "up",some "close"],[some "far",some "near",some "close"]]
def vt:List Value:=[.str "asked" 569,.str "asked" 573,.str "up" 577,.str "up" 581,.str "far" 585,.str "near" 589,.str "shut" 593,.str "called" 596,.str "called" 600,.str "up" 604,.str "up" 608,.str "near" 612,.str "far" 616,.str "shut" 620]
def hx(P:Params):Option Str->Int
 |some x=>hs P x
 |none=>hashW P .none
def hi(k:Nat)(P:Params):Int:=Builtin.Tuple.tupleHashOf ((kt.getD k []).map (hx P))
def en(k:Nat)(P:Params):DictEntry:=⟨reduceHash (hi k P),.ref (251+k),vt.getD k .none⟩
def De(k:Nat)(P:Params):Obj:=Dd (([en 0 P,en 1 P,en 2 P,en 3 P,en 4 P,en 5 P,en 6 P,en 7 P,en 8 P,en 9 P,en 10 P,en 11 P,en 12 P,en 13 P]:List DictEntry).take k).toArray k
theorem aM{X:Nat->Prop}(h0:X 0)(h1:X 1)(h2:X 2)(h3:X 3)(h4:X 4)(h5:X 5)(h6:X 6)(h7:X 7)(h8:X 8)(h9:X 9)(h10:X 10)(h11:X 11)(h12:X 12)(h13:X 13):∀ k,k<14->X k:=fun k hk=>match k,hk with|0,_=>h0|1,_=>h1|2,_=>h2|3,_=>h3|4,_=>h4|5,_=>h5|6,_=>h6|7,_=>h7|8,_=>h8|9,_=>h9|10,_=>h10|11,_=>h11|12,_=>h12|13,_=>h13|n+14,h=>absurd h (by omega)
section
variable(w:World)(b:Bool)(o:Nat->Obj)(os:OsState)(D:Obj)(tk:Nat)(ps:Pos)
abbrev RR{α:Type}(w:World)(b:Bool)(o:Nat->Obj)(os:OsState)(D:Obj)(tk:Nat)(ps:Pos)(n:Nat)(x:Sem α)(a:α):Prop:=Rn p (wf w b) 11 ann cd B n x ps (S o os D tk) a ps (S o os D tk)
local macro_rules | `(tactic| walk_at "h0") => `(tactic| (refine qd2 fun K H lv => ?_; rw [PySem.W.Fast.te10295753902157049106, PySem.W.Fast.te14364793385576792824]; kernel_rfl))
theorem ru(x:String):RR w b o os D tk ps 1 (rule x) ():=by walk_at "h0"
theorem den(es:Array DictEntry)(n:Nat):Rn p (wf w b) 11 ann cd B 1 (dictEntries 250 none) ps (S o os (Dd es n) tk) es ps (S o os (Dd es n) tk):=by walk_at "h0"
theorem dep(es:Array DictEntry)(n:Nat):Rn p (wf w b) 11 ann cd B 1 (dictEpoch 250 none) ps (S o os (Dd es n) tk) n ps (S o os (Dd es n) tk):=by walk_at "h0"
local macro_rules | `(tactic| walk_at "h1") => `(tactic| (refine qd2 fun K H lv => ?_; rw [PySem.W.Fast.te10295753902157049106, PySem.W.Fast.te14364793385576792824, PySem.W.Fast.te13066428366354244818]; kernel_rfl))
local macro_rules | `(tactic| walk_at "h2") => `(tactic| (refine qd2 fun K H lv => ?_; rw [PySem.W.Fast.te10295753902157049106, PySem.W.Fast.te14364793385576792824, PySem.W.Fast.te13383273872528276517]; kernel_rfl))
theorem ro:∀ k,k<14->RR w b o os D tk ps 1 (cRoomFor "hash" [.ref (251+k)]) ():=by
 refine aM ?_ ?_ ?_ ?_ ?_ ?_ ?_ ?_ ?_ ?_ ?_ ?_ ?_ ?_<;>walk_at "h2"
local macro_rules | `(tactic| walk_at "h3") => `(tactic| (refine qd2 fun K H lv => ?_; rw [PySem.W.Fast.te10295753902157049106, PySem.W.Fast.te14364793385576792824, PySem.W.Fast.te4214721358667687652]; kernel_rfl))
theorem sp:∀ k,k<14->RR w b o os D tk ps 1 (specialOf (.ref (251+k)) "__hash__") (some (.builtin "tuple.__hash__")):=by
 refine aM ?_ ?_ ?_ ?_ ?_ ?_ ?_ ?_ ?_ ?_ ?_ ?_ ?_ ?_<;>walk_at "h3"
local macro_rules | `(tactic| walk_at "h4") => `(tactic| (refine qd2 fun K H lv => ?_; rw [PySem.W.Fast.te10295753902157049106, PySem.W.Fast.te14364793385576792824, PySem.W.Fast.te16697807410369149715]; cases b <;> kernel_rfl))
theorem ca:∀ k,k<14->∀ E:Sem Value,Rn p (wf w b) 11 ann cd B 29 (callSpecialIfBoundUnlessNone? (.ref (251+k)) "__hash__" E) ps (S o os D tk) (some (.int (hi k w.2) (tk+3))) ps (S o os D (tk+4)):=
 aM (fun E=>Rn.more (m1:=27) (by walk_at "h4") (by decide)) (fun E=>Rn.more (m1:=29) (by walk_at "h4") (by decide)) (fun E=>Rn.more (m1:=29) (by walk_at "h4") (by decide)) (fun E=>Rn.more (m1:=29) (by walk_at "h4") (by decide)) (fun E=>Rn.more (m1:=29) (by walk_at "h4") (by decide)) (fun E=>Rn.more (m1:=29) (by walk_at "h4") (by decide)) (fun E=>Rn.more (m1:=29) (by walk_at "h4") (by decide)) (fun E=>Rn.more (m1:=27) (by walk_at "h4") (by decide)) (fun E=>Rn.more (m1:=29) (by walk_at "h4") (by decide)) (fun E=>Rn.more (m1:=29) (by walk_at "h4") (by decide)) (fun E=>Rn.more (m1:=29) (by walk_at "h4") (by decide)) (fun E=>Rn.more (m1:=29) (by walk_at "h4") (by decide)) (fun E=>Rn.more (m1:=29) (by walk_at "h4") (by decide)) (fun E=>Rn.more (m1:=29) (by walk_at "h4") (by decide))
local macro_rules | `(tactic| walk_at "h5") => `(tactic| (refine qd2 fun K H lv => ?_; rw [PySem.W.Fast.te10295753902157049106, PySem.W.Fast.te14364793385576792824, PySem.W.Fast.te11826078720135083572]; kernel_rfl))
theorem up:∀ k,k<14->Rn p (wf w b) 11 ann cd B 3 (updateDictKeys 250 (fun x=>x.push (en k w.2)) none) ps (S o os (De k w.2) tk) () ps (S o os (De (k+1) w.2) tk):=by
 refine aM ?_ ?_ ?_ ?_ ?_ ?_ ?_ ?_ ?_ ?_ ?_ ?_ ?_ ?_<;>walk_at "h5"
local macro_rules | `(tactic| walk_at "h6") => `(tactic| (refine qd2 fun K H lv => ?_; rw [PySem.W.Fast.te10295753902157049106, PySem.W.Fast.te14364793385576792824, PySem.W.Fast.te13926502685295537346]; cases b <;> kernel_rfl))
local macro_rules | `(tactic| walk_at "fi") => `(tactic| refine find_none (m := 26) (L := 14) (Nat.le_of_ble_eq_true rfl) (ru _ _ _ _ _ _ _) (den _ _ _ _ _ _ _ _) (dep _ _ _ _ _ _ _ _) (Rn.more (m1 := 3) (by walk_at "h1") (by decide)) ?_)
local macro_rules | `(tactic| walk_at "e16") => `(tactic| refine waG.mpr ⟨⟨⟨_, rfl, by decide⟩, Rn.more (m1 := 3) (by walk_at "h1") (by decide), Rn.more (m1 := 16) (by walk_at "h6") (by decide)⟩, ?_⟩)
local macro_rules | `(tactic| walk_at "e20") => `(tactic| refine waG.mpr ⟨⟨⟨_, rfl, by decide⟩, Rn.more (m1 := 3) (by walk_at "h1") (by decide), Rn.more (m1 := 20) (by walk_at "h6") (by decide)⟩, ?_⟩)
local macro_rules | `(tactic| walk_at "e24") => `(tactic| refine waG.mpr ⟨⟨⟨_, rfl, by decide⟩, Rn.more (m1 := 3) (by walk_at "h1") (by decide), Rn.more (m1 := 24) (by walk_at "h6") (by decide)⟩, ?_⟩)
local macro_rules | `(tactic| walk_at "e26") => `(tactic| refine waG.mpr ⟨⟨⟨_, rfl, by decide⟩, Rn.more (m1 := 3) (by walk_at "h1") (by decide), Rn.more (m1 := 26) (by walk_at "h6") (by decide)⟩, ?_⟩)
theorem fi:∀ k,k<14->∀ h:Int,Rn p (wf w b) 11 ann cd B 797 (dictFind 250 (.ref (251+k)) h) ps (S o os (De k w.2) tk) none ps (S o os (De k w.2) tk):=by
 refine aM ?_ ?_ ?_ ?_ ?_ ?_ ?_ ?_ ?_ ?_ ?_ ?_ ?_ ?_
 · intro h;walk_at "fi";exact wam _
 · intro h;walk_at "fi";walk_at "e26";exact wam _
 · intro h;walk_at "fi";walk_at "e26";walk_at "e20";exact wam _
 · intro h;walk_at "fi";walk_at "e26";walk_at "e20";walk_at "e20";exact wam _
 · intro h;walk_at "fi";walk_at "e26";walk_at "e20";walk_at "e20";walk_at "e20";exact wam _
 · intro h;walk_at "fi";walk_at "e26";walk_at "e20";walk_at "e20";walk_at "e24";walk_at "e20";exact wam _
 · intro h;walk_at "fi";walk_at "e26";walk_at "e20";walk_at "e20";walk_at "e20";walk_at "e24";walk_at "e20";exact wam _
 · intro h;walk_at "fi";walk_at "e16";walk_at "e16";walk_at "e16";walk_at "e16";walk_at "e16";walk_at "e16";walk_at "e16";exact wam _
 · intro h;walk_at "fi";walk_at "e16";walk_at "e16";walk_at "e16";walk_at "e16";walk_at "e16";walk_at "e16";walk_at "e16";walk_at "e26";exact wam _
 · intro h;walk_at "fi";walk_at "e16";walk_at "e16";walk_at "e16";walk_at "e16";walk_at "e16";walk_at "e16";walk_at "e16";walk_at "e26";walk_at "e20";exact wam _
 · intro h;walk_at "fi";walk_at "e16";walk_at "e16";walk_at "e16";walk_at "e16";walk_at "e16";walk_at "e16";walk_at "e16";walk_at "e26";walk_at "e20";walk_at "e20";exact wam _
 · intro h;walk_at "fi";walk_at "e16";walk_at "e16";walk_at "e16";walk_at "e16";walk_at "e16";walk_at "e16";walk_at "e16";walk_at "e26";walk_at "e20";walk_at "e20";walk_at "e20";exact wam _
 · intro h;walk_at "fi";walk_at "e16";walk_at "e16";walk_at "e16";walk_at "e16";walk_at "e16";walk_at "e16";walk_at "e16";walk_at "e26";walk_at "e20";walk_at "e20";walk_at "e24";walk_at "e20";exact wam _
 · intro h;walk_at "fi";walk_at "e16";walk_at "e16";walk_at "e16";walk_at "e16";walk_at "e16";walk_at "e16";walk_at "e16";walk_at "e26";walk_at "e20";walk_at "e20";walk_at "e20";walk_at "e24";walk_at "e20";exact wam _
theorem se(k:Nat)(hk:k<14):Rn p (wf w b) 11 ann cd B 834 (dictSet 250 (.ref (251+k)) (vt.getD k .none)) ps (S o os (De k w.2) tk) () ps (S o os (De (k+1) w.2) (tk+4)):=
 (qp7 (h:=reduceHash (hi k w.2)) (ru w b o os _ (tk+4) ps) (qos (ru w b o os _ (tk+4) ps) (ro w b o os _ tk ps k hk) (sp w b o os _ tk ps k hk) (ca w b o os _ tk ps k hk)) (fi w b o os (tk+4) ps k hk _) (up w b o os (tk+4) ps k hk)).more (by decide)
end
def vp(k:Nat):Value×Value:=(.ref (251+k),vt.getD k .none)
def vs:List (Value×Value):=(List.range' 0 14).map vp
def DD(P:Params):Obj:=De 14 P
theorem qpq(w:World)(b:Bool)(o:Nat->Obj)(os:OsState)(ps:Pos){f:Value×Value->Unit->Sem (ForInStep Unit)}(hf:∀ k v,f (k,v) ()=(do dictSet 250 k v;pure (.yield ()))):∀ (j k tk:Nat),k+j=14->
 Rn p (wf w b) 11 ann cd B (834*j) (forIn ((List.range' k j).map vp) () f) ps (S o os (De k w.2) tk) () ps (S o os (DD w.2) (tk+4*j))
 |0,k,tk,h=>by rw[show k=14 by omega];exact qqk
 |j+1,k,tk,h=>by
  rw[List.range'_succ,wad,show tk+4*(j+1)=(tk+4)+4*j by omega]
  exact(qqj (qwG (hf _ _) (qai (m2:=0) (se w b o os tk ps k (by omega)) qaI)) (qpq w b o os ps hf j (k+1) (tk+4) (by omega))).more (by omega)
theorem qoe(w:World)(b:Bool)(o:Nat->Obj)(os:OsState)(tk:Nat)(ps:Pos){f:Value×Value->Unit->Sem (ForInStep Unit)}(hf:∀ k v,f (k,v) ()=(do dictSet 250 k v;pure (.yield ()))):
 Rn p (wf w b) 11 ann cd B 11676 (forIn vs () f) ps (S o os (De 0 w.2) tk) () ps (S o os (DD w.2) (tk+56)):=qpq w b o os ps hf 14 0 tk rfl
def st:Stmt:=body[54]
def qkN:List (Option PySem.Expr):=match st with| .Assign _ (.Dict ks _ _) _=>ks|_=>[]
def qkM:List PySem.Expr:=match st with| .Assign _ (.Dict _ vs _) _=>vs|_=>[]
def qoD:Pos:=match st with| .Assign _ (.Dict _ _ q) _=>q|_=>default
def spos:Pos:=match st with| .Assign _ _ q=>q|_=>default
def qqX:Pos:=⟨128,0,128,10⟩
theorem qCA:st= .Assign [.Name "LINE_STEPS" qqX] (.Dict qkN qkM qoD) spos:=by kernel_rfl
def its:List (Option (Sem Value)×Sem Value):=(evalEachOpt qkN env).zip ((evalEach qkM env).map fun v=>do let x<-v;standAt qoD;pure x)
def prs:List (Sem Value×Sem Value):=its.filterMap fun x=>x.1.map fun k=>(k,x.2)
theorem stq:exec st env=(do
 standAt spos
 let v<-eval (.Dict qkN qkM qoD) env
 standAt qqX
 bindName env "LINE_STEPS" v
 pure .next):=by rw[qCA];exact exec_Assign_Name env "LINE_STEPS" qqX (.Dict qkN qkM qoD) spos (by kernel_rfl)
theorem dq:eval (.Dict qkN qkM qoD) env=(do standAt qoD;dictDisplay its):=by kernel_rfl
theorem dd:dictDisplay its=((subDict prs >>= fun d=>pure (some d)) >>= fun o=>match o with|some d=>pure (.ref d)|none=>newDict):=by kernel_rfl
theorem qt7(w:World)(o:Nat->Obj)(os:OsState)(tk:Nat)(ps:Pos){f:Value×Value->Unit->Sem (ForInStep Unit)}(hf:∀ k v,f (k,v) ()=(do dictSet 250 k v;pure (.yield ()))):
 Rn p w 11 ann cd B 11676 (forIn vs () f) ps (S o os (De 0 w.2) tk) () ps (S o os (DD w.2) (tk+56)):=by
 have h:=qoe w (w.2.followText "special-get-raises") o os tk ps hf;unfold wf at h;rw[World.withFollow_self]at h;exact h
theorem at_{w:World}{s:SharedT}{ps ps':Pos}:Rn p w 11 ann cd B 1 (standAt ps') ps s () ps' s:=qd2 fun K H lv=>by kernel_rfl
theorem al{w:World}{o:Nat->Obj}{os:OsState}{tk:Nat}{ps:Pos}:Rn p w 11 ann cd B 1 (alloc { cls:=.type "dict",data:=.dict #[] }) ps (S0 o os tk) 250 ps (S0d o os tk):=qd2 fun K H lv=>by kernel_rfl
theorem ev{w:World}{o:Nat->Obj}{os:OsState}{ps:Pos}:Rn p w 11 ann cd B 96 (evalPairs prs) ps (S0d o os 567) vs qoD (S o os (De 0 w.2) 621):=qd2 fun K H lv=>by
 rw[PySem.W.Fast.te10295753902157049106,PySem.W.Fast.te14364793385576792824];kernel_rfl
theorem sub{w:World}{o:Nat->Obj}{os:OsState}{ps:Pos}:Rn p w 11 ann cd B 11773 (subDict prs) ps (S0 o os 567) 250 qoD (S o os (DD w.2) 677):=by
 unfold subDict;refine Rn.more (m1:=1+(96+(11676+0)+0)) (qai al (qai (a:=()) (qby ?_) qaI)) (by decide)
 rw[if_pos (Nat.le_of_ble_eq_true (by kernel_rfl))]
 refine qai ev (qby ?_);exact qai (qt7 w o os 621 qoD (fun _ _=>rfl)) qaI
def S_D(P:Params)(os:OsState)(D:Obj):SharedT:=⟨treeOf ((((fin P D).take 265).set 3 (nsO ((e1 P "__name__" 165 (.str "lentgate.lines" 565))::((ns P).drop 1).take 59) 60)).set 12 (tbO (tb.take 90))),265,{},#[],{},678,os⟩
theorem bn{w:World}{os:OsState}{D:Obj}{ps:Pos}:Rn p w 11 ann cd B 6 (bindName env "LINE_STEPS" (.ref 250)) ps (S (ob w.2) os D 677) () ps (S_D w.2 os D):=qd2 fun K H lv=>by
 rw[PySem.W.Fast.te10295753902157049106,PySem.W.Fast.te14364793385576792824];kernel_rfl
theorem qwh{w:World}{os:OsState}{ps:Pos}:Rn p w 11 ann cd B 11782 (execs [st] env) ps (S0 (ob w.2) os 567) .next qqX (S_D w.2 os (DD w.2)):=by
 rw[execs_cons,stq,dq,dd];refine Rn.more (m1:=(1+((1+((11773+0)+0))+(1+(6+0))))+0) (qai (a:=.next) (qai at_ (qai (qai at_ (qai (qai sub qaI) qaI)) (qai at_ (qai bn qaI)))) ?_) (by decide)
 exact qaI
theorem qCU(w:World)(os:OsState):segRunT treeTable p w 11 ann 1 11783 (S_6 w.2 os) (piecesOf [st] env cd ⟨127,0,127,8⟩ B)=some (.next,S_D w.2 os (DD w.2),cd,qqX):=by
 rw[qwr];obtain⟨n,hn,h⟩:=qwh (w:=w) (os:=os) (ps:=⟨127,0,127,8⟩) doneF deadEnd id;have e:=qla (m:=1) (r:=(.next,S_D w.2 os (DD w.2),cd,qqX)) h rfl;have e2:=qi5 (11782-n) e;rw[show n+1+(11782-n)=11783 by omega]at e2
 exact e2
def S_8(P:Params)(os:OsState)(D:Obj):SharedT:=⟨treeOf ((((fin P D).take 287).set 3 (nsO ((e1 P "__name__" 165 (.str "lentgate.rules" 711))::((ns P).drop 1).take 63) 64)).set 12 (tbO (tb.take 99))),287,{},#[],{},713,os⟩
theorem qCT(w:World)(os:OsState)(D:Obj):segRunT treeTable p w 11 ann 1 118 (S_D w.2 os D) (piecesOf ((body.drop 55).take 5) env cd qqX B)=some (.next,S_8 w.2 os D,cd,⟨142,0,142,8⟩):=by
 walk_at "w9"
def S_9(P:Params)(os:OsState)(D:Obj):SharedT:=⟨treeOf ((((fin P D).take 343).set 3 (nsO ((e1 P "__name__" 165 (.str "lentgate.rules" 711))::((ns P).drop 1).take 64) 65)).set 12 (tbO (tb.take 102))),343,{},#[],{},794,os⟩
theorem qCS(w:World)(os:OsState)(D:Obj):segRunT treeTable p w 11 ann 1 395 (S_8 w.2 os D) (piecesOf ((body.drop 60).take 1) env cd ⟨142,0,142,8⟩ B)=some (.next,S_9 w.2 os D,cd,⟨143,0,169,16⟩):=by
 walk_at "w9"
def qA7(P:Params)(os:OsState)(D:Obj):SharedT:=⟨treeOf ((((fin P D).take 343).set 3 (nsO ((e1 P "__name__" 165 (.str "lentgate.pool" 794))::((ns P).drop 1).take 64) 65)).set 12 (tbO (tb.take 102))),343,{},#[],{},796,os⟩
theorem qwA(w:World)(os:OsState)(D:Obj):segRunT treeTable p w 11 ann 1 10 (S_9 w.2 os D) (piecesOf ((body.drop 61).take 1) env cd ⟨143,0,169,16⟩ B)=some (.next,qA7 w.2 os D,cd,⟨170,0,170,8⟩):=by
 walk_at "w9"
def qA6(P:Params)(os:OsState)(D:Obj):SharedT:=⟨treeOf ((((fin P D).take 416).set 3 (nsO ((e1 P "__name__" 165 (.str "lentgate.pool" 794))::((ns P).drop 1).take 65) 66)).set 12 (tbO (tb.take 105))),416,{},#[],{},894,os⟩
theorem qwz(w:World)(os:OsState)(D:Obj):segRunT treeTable p w 11 ann 1 480 (qA7 w.2 os D) (piecesOf ((body.drop 62).take 1) env cd ⟨170,0,170,8⟩ B)=some (.next,qA6 w.2 os D,cd,⟨171,0,213,105⟩):=by
 walk_at "w9"
def qA5(P:Params)(os:OsState)(D:Obj):SharedT:=⟨treeOf ((((fin P D).take 437).set 3 (nsO ((e1 P "__name__" 165 (.str "lentgate.talks" 894))::((ns P).drop 1).take 66) 67)).set 12 (tbO (tb.take 108))),437,{},#[],{},931,os⟩
theorem qwy(w:World)(os:OsState)(D:Obj):segRunT treeTable p w 11 ann 1 238 (qA6 w.2 os D) (piecesOf ((body.drop 63).take 2) env cd ⟨171,0,213,105⟩ B)=some (.next,qA5 w.2 os D,cd,⟨215,0,221,24⟩):=by
 walk_at "w9"
def qA4(P:Params)(os:OsState)(D:Obj):SharedT:=⟨treeOf ((((fin P D).take 557).set 3 (nsO ((e1 P "__name__" 165 (.str "lentgate.talks" 894))::((ns P).drop 1).take 67) 68)).set 12 (tbO (tb.take 111))),557,{},#[],{},1101,os⟩
theorem qwx(w:World)(os:OsState)(D:Obj):segRunT treeTable p w 11 ann 1 718 (qA5 w.2 os D) (piecesOf ((body.drop 65).take 1) env cd ⟨215,0,221,24⟩ B)=some (.next,qA4 w.2 os D,cd,⟨222,0,303,37⟩):=by
 walk_at "w9"
def qA3(P:Params)(os:OsState)(D:Obj):SharedT:=⟨treeOf ((((fin P D).take 564).set 3 (nsO ((e1 P "__name__" 165 (.str "lentgate.gate" 1101))::((ns P).drop 1).take 68) 69)).set 12 (tbO (tb.take 114))),564,{},#[],{},1115,os⟩
theorem qww(w:World)(os:OsState)(D:Obj):segRunT treeTable p w 11 ann 1 44 (qA4 w.2 os D) (piecesOf ((body.drop 66).take 2) env cd ⟨222,0,303,37⟩ B)=some (.next,qA3 w.2 os D,cd,⟨305,0,307,78⟩):=by
 walk_at "w9"
def qA2(P:Params)(os:OsState)(D:Obj):SharedT:=⟨treeOf ((((fin P D).take 770).set 3 (nsO ((e1 P "__name__" 165 (.str "lentgate.gate" 1101))::((ns P).drop 1).take 69) 70)).set 12 (tbO (tb.take 117))),770,{},#[],{},1436,os⟩
theorem qwv(w:World)(os:OsState)(D:Obj):segRunT treeTable p w 11 ann 1 1159 (qA3 w.2 os D) (piecesOf ((body.drop 68).take 1) env cd ⟨305,0,307,78⟩ B)=some (.next,qA2 w.2 os D,cd,⟨308,0,477,19⟩):=by
 walk_at "w9"
def qA1(P:Params)(os:OsState)(D:Obj):SharedT:=⟨treeOf ((fin P D).take 836),836,{},#[],{},1528,os⟩
theorem qwu(w:World)(os:OsState)(D:Obj):segRunT treeTable p w 11 ann 1 316 (qA2 w.2 os D) (piecesOf ((body.drop 69).take 11) env cd ⟨308,0,477,19⟩ B)=some (.next,qA1 w.2 os D,cd,⟨526,0,554,101⟩):=by
 walk_at "w9"
def TF(P:Params):BT:=(qA1 P default (DD P)).tree
def H1(P:Params):Heap:=absHeap (TF P) 836 {}
theorem qrW:body=((body.drop 0).take 22)++(((body.drop 22).take 10)++(((body.drop 32).take 5)++(((body.drop 37).take 1)++(((body.drop 38).take 1)++(((body.drop 39).take 9)++(((body.drop 48).take 6)++([st]++(((body.drop 55).take 5)++(((body.drop 60).take 1)++(((body.drop 61).take 1)++(((body.drop 62).take 1)++(((body.drop 63).take 2)++(((body.drop 65).take 1)++(((body.drop 66).take 2)++(((body.drop 68).take 1)++(((body.drop 69).take 11)++ [])))))))))))))))):=by kernel_rfl
theorem run_eq(w:World)(os:OsState):topRun treeTable p w 11 ann (12+(1+(391+(315+(362+(214+(214+(388+(170+(11783+(118+(395+(10+(480+(238+(718+(44+(1159+(316+2))))))))))))))))))) ⟨boot_heap w.2,#[],boot_drawn,boot_toks,os⟩ (topStub p)=some ⟨H1 w.2,#[],{},1528,os⟩:=by
 refine go_top (qtD w os) (piece_block (qoV w os) ?_);show topRun treeTable p w 11 ann _ _ (restOf body env cd q0 B)=_;rw[qrW];refine piece_app (segRun_of (qC1 w os)) ?_;refine piece_app (segRun_of (qC0 w os)) ?_;refine piece_app (segRun_of (qCZ w os)) ?_;refine piece_app (segRun_of (qCY w os)) ?_;refine piece_app (segRun_of (qCX w os)) ?_;refine piece_app (segRun_of (qCW w os)) ?_;refine piece_app (segRun_of (qCV w os)) ?_;refine piece_app (segRun_of (qCU w os)) ?_;refine piece_app (segRun_of (qCT w os _)) ?_;refine piece_app (segRun_of (qCS w os _)) ?_;refine piece_app (segRun_of (qwA w os _)) ?_;refine piece_app (segRun_of (qwz w os _)) ?_;refine piece_app (segRun_of (qwy w os _)) ?_;refine piece_app (segRun_of (qwx w os _)) ?_;refine piece_app (segRun_of (qww w os _)) ?_;refine piece_app (segRun_of (qwv w os _)) ?_;refine piece_app (segRun_of (qwu w os _)) ?_;kernel_rfl
def q:Program:=view p [0,2,3,4,5,6,7,8,9,10,11,12,13,14,15,16,17,18,19,20,21,22,23,24,25,26,27,28,29,30,31,32,33,34,36,37,38,39,41,42,43,44,45,46,47,48,49,50,51,52,54,55,56,57,58,60,62,64,65,67,68,70,71,72,73,74,75,76,77,78,79]
def loose:List Str:=["DEEDS","TIME_AT","LINE_STEPS"]
def ks:List Addr:=[2,3,6,20,21,22,23,24,30,31,37,38,44,45,51,52,58,59,65,66,72,73,79,80,86,87,93,94,95,98,99,105,106,112,113,119,120,126,127,133,134,140,141,147,148,149,155,156,162,163,164,165,166,167,169,170,171,172,173,174,175,176,177,178,179,180,182,183,184,185,186,187,188,189,190,191,192,194,195,196,197,198,199,200,201,202,203,204,206,207,208,209,210,211,212,213,214,215,216,222,223,224,227,228,234,235,241,242,248,249,250,251,252,253,254,255,256,257,258,259,260,261,262,263,264,265,271,272,278,279,285,286,287,288,289,290,292,293,299,300,306,307,313,314,320,321,327,328,334,335,336,337,338,339,340,341,342,343,344,345,346,348,349,355,356,362,363,369,370,376,377,383,384,390,391,397,398,399,402,403,404,407,408,409,410,411,412,413,414,415,416,417,418,419,421,422,428,429,430,431,432,433,434,435,436,437,438,439,440,442,443,449,450,456,457,463,464,465,468,469,475,476,482,483,489,490,496,497,498,501,502,508,509,515,516,522,523,529,530,536,537,543,544,545,548,549,550,551,552,553,554,555,556,562,563,564,565,566,567,569,570,576,577,583,584,590,591,597,598,604,605,611,612,618,619,625,626,632,633,639,640,641,644,645,646,649,650,656,657,663,664,670,671,677,678,684,685,691,692,698,699,705,706,712,713,719,720,726,727,733,734,740,741,747,748,754,755,761,762,763,764,765,766,767,768,769,775,776,782,783,789,790,796,797,803,804,810,811,817,818,819,822,823,829,830,831,834,835]
def K(P:Params):Frag:=ks.zip (boot_o_2 P::nsO ((ns P).take 80) 80::boot_o_6 P::d15.co::d15.fn::v35 P::v37 P::v39 P::d25.co::d25.fn::d32.co::d32.fn::d39.co::d39.fn::d46.co::d46.fn::d53.co::d53.fn::d60.co::d60.fn::d67.co::d67.fn::d74.co::d74.fn::d81.co::d81.fn::d88.co::d88.fn::v7 P::qAe P::qAd P::d100.co::d100.fn::d107.co::d107.fn::d114.co::d114.fn::d121.co::d121.fn::d128.co::d128.fn::d135.co::d135.fn::d142.co::d142.fn::v201 P::d150.co::d150.fn::d157.co::d157.fn::qAc P::qf4 P::qAb P::v7 P::qAa P::qz9 P::v7 P::qz8 P::qzQ P::qz7 P::qz6 P::qz5 P::qsa P::qf4 P::qz4 P::v7 P::qz3 P::qz2 P::v7 P::qz1 P::qz0 P::qzZ P::qzY P::qsa P::qf4 P::qzX P::v7 P::qzW P::qzV P::v7 P::qzU P::qzT P::qzS P::qzR P::qsa P::qf4 P::qzP P::v7 P::qzO P::qzN P::v7 P::qzM P::qzL P::qzK P::qzJ P::qzI P::qzH P::qzG P::v292 P::d217.co::d217.fn::v7 P::qzF P::qzE P::d229.co::d229.fn::d236.co::d236.fn::d243.co::d243.fn::DD P::qzD P::qzC P::qzB P::qzA P::qzz P::qzy P::qzx P::qzw P::qzv P::qzu P::qzt P::qzs P::qzr P::qzq P::qzp P::d266.co::d266.fn::d273.co::d273.fn::d280.co::d280.fn::v7 P::qf4 P::qzo P::v7 P::qzn P::qzm P::d294.co::d294.fn::d301.co::d301.fn::d308.co::d308.fn::d315.co::d315.fn::d322.co::d322.fn::d329.co::d329.fn::qzl P::qzk P::qzj P::qzi P::qzh P::qzg P::qzf P::v7 P::qf4 P::qze P::v7 P::qzd P::qzc P::d350.co::d350.fn::d357.co::d357.fn::d364.co::d364.fn::d371.co::d371.fn::d378.co::d378.fn::d385.co::d385.fn::d392.co::d392.fn::v7 P::qzb P::qza P::v7 P::qy9 P::qy8 P::qy7 P::qy6 P::qy5 P::qy4 P::qy3 P::qy2 P::qy1 P::v7 P::qf4 P::qy0 P::v7 P::qyZ P::qyY P::d423.co::d423.fn::qyX P::qyW P::qyV P::qyU P::qyT P::qyS P::qyR P::v7 P::qf4 P::qyQ P::v7 P::qyP P::qyO P::d444.co::d444.fn::d451.co::d451.fn::d458.co::d458.fn::v7 P::qyN P::qyM P::d470.co::d470.fn::d477.co::d477.fn::d484.co::d484.fn::d491.co::d491.fn::v7 P::qyL P::qyK P::d503.co::d503.fn::d510.co::d510.fn::d517.co::d517.fn::d524.co::d524.fn::d531.co::d531.fn::d538.co::d538.fn::v7 P::qyJ P::qyI P::qyH P::qyG P::qyF P::qyE P::qyD P::qyC P::qyB P::d557.co::d557.fn::v7 P::qf4 P::qyA P::v7 P::qyz P::qyy P::d571.co::d571.fn::d578.co::d578.fn::d585.co::d585.fn::d592.co::d592.fn::d599.co::d599.fn::d606.co::d606.fn::d613.co::d613.fn::d620.co::d620.fn::d627.co::d627.fn::d634.co::d634.fn::v7 P::qyx P::qyw P::v7 P::qyv P::qyu P::d651.co::d651.fn::d658.co::d658.fn::d665.co::d665.fn::d672.co::d672.fn::d679.co::d679.fn::d686.co::d686.fn::d693.co::d693.fn::d700.co::d700.fn::d707.co::d707.fn::d714.co::d714.fn::d721.co::d721.fn::d728.co::d728.fn::d735.co::d735.fn::d742.co::d742.fn::d749.co::d749.fn::d756.co::d756.fn::qyt P::qys P::qyr P::qyq P::qyp P::qyo P::qyn P::d770.co::d770.fn::d777.co::d777.fn::d784.co::d784.fn::d791.co::d791.fn::d798.co::d798.fn::d805.co::d805.fn::d812.co::d812.fn::v7 P::qym P::qyl P::d824.co::d824.fn::v7 P::qyk P::qyj P::[])
theorem ks_eq(P:Params):ks=(K P).map (·.1):=by kernel_rfl
def Hk:Hook:=kHook K ks ks_eq
def Xt(s:Shared):Bool:=xlAt q [] s&&recOk [] s
def NN:Nat:=1000000
theorem size_eq(w:World):((boot_heap w.2).isNs mainGlobals&&(#[]:Array GenState).size==0,(boot_heap w.2).objs.size,(boot_heap w.2).nsMap mainGlobals "__annotations__")=(true,11,ann):=by kernel_rfl
theorem op1:opening p=plainProg p.main.scope.names:=by kernel_rfl
theorem op2(s:Shared):fenceModules? p s=some s:=by kernel_rfl
theorem qxr(w:World)(os:OsState):(staticsOk (importedModules p.main.body) (boot_heap w.2) (H1 w.2)&&namesBound p (H1 w.2)&&gensDone ⟨H1 w.2,#[],{},1528,os⟩&&laidKept (boot_heap w.2) (H1 w.2))=true:=by kernel_rfl
theorem l2a(w:World)(os:OsState):PyProof.Rows.seen (List.map (fun x=>x.name) (recsOf q)) (ownsOf q) [] ⟨H1 w.2,#[],{},1528,os⟩=expectedOf q:=by rw[PySem.W.Fast.te5160383126252970620];kernel_rfl
theorem l2b(w:World)(os:OsState):(H1 w.2).bltView=bltViewBooted:=by kernel_rfl
theorem l2c(w:World)(os:OsState):(H1 w.2).keysOk (looseW q loose) (List.map (fun x=>x.name) (recsOf q)) (List.map (fun x=>x.fst) (litsOf q)) (List.map (fun x=>x.name) (clssOf q (looseW q loose)))=true:=by rw[PySem.W.Fast.te10880121769531294198];kernel_rfl
theorem l2d(w:World)(os:OsState):(H1 w.2).accountedOkI (importedModules p.main.body)=true:=by rw[PySem.W.Fast.te14722251495701143533];kernel_rfl
theorem l2e(w:World)(os:OsState):((H1 w.2).isNs mainGlobals&&(H1 w.2).isNs builtinsNs)=true:=by kernel_rfl
theorem l2f(w:World)(os:OsState):tablesOk q (H1 w.2)=true:=by rw[PySem.W.Fast.te10994771534591457954];kernel_rfl
theorem l2g(w:World)(os:OsState):Xt ⟨H1 w.2,#[],{},1528,os⟩=true:=by kernel_rfl
theorem l2h(w:World)(os:OsState):tabsOk q ⟨H1 w.2,#[],{},1528,os⟩=true:=by rw[PySem.W.Fast.te479339242167458305];kernel_rfl
theorem l2i(w:World)(os:OsState):pinSeenD q (drecsOf q) ⟨H1 w.2,#[],{},1528,os⟩=pinGoodD (drecsOf q):=by kernel_rfl
theorem l2j(w:World)(os:OsState):plainSeenE q (looseW q loose) ⟨H1 w.2,#[],{},1528,os⟩=plainGoodE q (looseW q loose):=by rw[PySem.W.Fast.te2386780881361962483];kernel_rfl
theorem l2k(w:World)(os:OsState):plainSeenD q loose ⟨H1 w.2,#[],{},1528,os⟩=plainGoodD q loose:=by rw[PySem.W.Fast.te11698064438423848299];kernel_rfl
theorem l2l(w:World)(os:OsState):wideSeen q ⟨H1 w.2,#[],{},1528,os⟩=wideGood q:=by rw[PySem.W.Fast.te7317090234206586261];kernel_rfl
theorem l2m(w:World)(os:OsState):clsSeenW q loose ⟨H1 w.2,#[],{},1528,os⟩=clsGoodW q loose:=by rw[PySem.W.Fast.te7369524293546568484];kernel_rfl
theorem qxq(w:World)(os:OsState):openSeen q loose (importedModules p.main.body) Xt true ⟨H1 w.2,#[],{},1528,os⟩=openGood q loose:=
 qqQ (l2a w os) (l2b w os) (l2c w os) (l2d w os) (l2e w os) (l2f w os) (l2g w os) (l2h w os) (l2i w os) (l2j w os) (l2k w os) (l2l w os) (l2m w os)
theorem qxp(w:World)(os:OsState):Hk.obs ⟨H1 w.2,#[],{},1528,os⟩=Hk.val w:=by kernel_rfl
theorem left:LeftO p q loose Xt Hk.obs Hk.val NN:=
 LeftO.of_pieces (H₀:=boot_heap) (H₁:=H1) (gs₀:=#[]) (gs₁:=#[]) (d₀:=boot_drawn) (d₁:={}) (k₀:=boot_toks) (k₁:=1528) (m₀:=11) (ann:=ann) (M:=12+(1+(391+(315+(362+(214+(214+(388+(170+(11783+(118+(395+(10+(480+(238+(718+(44+(1159+(316+2))))))))))))))))))) (boot_open op1 (by decide) op2) size_eq run_eq (by decide)
  fun w=>funext fun os=>Prod.ext (qxr w os) (Prod.ext (qxq w os) (qxp w os))
end
end H06
namespace R
open PySem PySem.W PyProof.Rows
def pw{α:Type}(lt:Nat->Nat->Bool)(n:Nat):KasT α->(α->Prop)->Prop
 | .ret a,Q=>Q a
 | .ask i j k,Q=>i<n/\j<n/\pw lt n (k (lt i j)) Q
theorem qc0{α β:Type}{lt:Nat->Nat->Bool}{n:Nat}{g:α->KasT β}{Q:β->Prop}:∀ {t:KasT α},pw lt n t (fun a=>pw lt n (g a) Q)->pw lt n (t.bind g) Q
 | .ret _,h=>h
 | .ask _ _ _,⟨a,b,h⟩=>⟨a,b,qc0 h⟩
theorem qtq{α:Type}{lt:Nat->Nat->Bool}{n:Nat}{cmp:Nat->Nat->(Bool->Shared->Prop)->Shared->Prop}{s:Shared}(hc:∀ i j C,i<n->j<n->C (lt i j) s->cmp i j C s){Q:α->Shared->Prop}:∀ {t:KasT α},pw lt n t (fun a=>Q a s)->t.kasWp cmp Q s
 | .ret _,h=>h
 | .ask i j _,⟨a,b,h⟩=>hc i j _ a b (qtq hc h)
structure Ar(n:Nat)(p:Array Nat):Prop where
 sz:p.size=n
 pm:p.toList.Perm (List.range n)
section
variable {O:KeyOrd}{f:Nat->O.α}{n:Nat}{p:Array Nat}
theorem qdj{k:Nat}:p.getD k 0=(p[k]?).getD 0:=by simp
theorem Ar.lt(a:Ar n p)(hn:0<n)(k:Nat):p.getD k 0<n:=by
 rw[qdj];cases e:p[k]? with
 |none=>exact hn
 |some x=>
  have:x∈p.toList:=List.mem_of_getElem? (by rw[Array.getElem?_toList];exact e)
  exact wa1.mp (a.pm.mem_iff.mp this)
def ky(f:Nat->O.α)(p:Array Nat)(i:Nat):O.α:=f (p.getD i 0)
def SU(f:Nat->O.α)(p:Array Nat)(k:Nat):Prop:=∀ i j,i<=j->j<k->O.kle (ky f p i) (ky f p j)
def SD(f:Nat->O.α)(p:Array Nat)(k:Nat):Prop:=∀ i j,i<=j->j<k->O.kle (ky f p j) (ky f p i)
theorem SU.snoc{m:Nat}(h:SU f p m)(h1:1<=m)(c:O.kle (ky f p (m-1)) (ky f p m)):SU f p (m+1):=fun i j hij hj=>by
 by_cases e:j<m
 · exact h i j hij e
 have:j=m:=by omega
 subst this
 by_cases e2:i=j
 · subst e2;exact KeyOrd.kle_refl _
 · exact KeyOrd.kle_trans (h i (j-1) (by omega) (by omega)) c
theorem SD.snoc{m:Nat}(h:SD f p m)(h1:1<=m)(c:O.kle (ky f p m) (ky f p (m-1))):SD f p (m+1):=fun i j hij hj=>by
 by_cases e:j<m
 · exact h i j hij e
 have:j=m:=by omega
 subst this
 by_cases e2:i=j
 · subst e2;exact KeyOrd.kle_refl _
 · exact KeyOrd.kle_trans c (h i (j-1) (by omega) (by omega))
theorem ql3{i j:Nat}(hj:j<=p.size)(k:Nat):ky f (kas_rev p i j) k=if i<=k/\k<j then ky f p (i+j-1-k)else ky f p k:=by
 unfold ky kas_rev;rw[qdj,getElem?_mirror_all hj,qdj,qdj];split<;>rfl
theorem qfw{i j:Nat}(hj:j<=p.size)(h:∀ k,i<=k->k<j->ky f p k=ky f p (j-1))(k:Nat):ky f (kas_rev p i j) k=ky f p k:=by
 rw[ql3 hj];split
 · rename_i q
   rw[h (i+j-1-k) (by omega) (by omega),h k q.1 q.2]
 · rfl
theorem Ar.rev(a:Ar n p)(i j:Nat):Ar n (kas_rev p i j):=⟨by rw[kas_rev_size];exact a.sz,(Array.perm_iff_toList_perm.mp (mirror_perm p i j _)).trans a.pm⟩
theorem Ar.bub(a:Ar n p)(i j:Nat):Ar n (bubble p i j):=⟨by rw[bubble_size];exact a.sz,(Array.perm_iff_toList_perm.mp (bubble_perm p i j)).trans a.pm⟩
theorem SD.up{m:Nat}(h:SD f p m)(hm:m<=p.size):SU f (kas_rev p 0 m) m:=fun i j hij hj=>by
 rw[ql3 hm,ql3 hm,if_pos ⟨by omega,by omega⟩,if_pos ⟨by omega,by omega⟩]
 exact h _ _ (by omega) (by omega)
theorem qhS{p':Array Nat}{m:Nat}(h:SD f p m)(e:∀ k,ky f p' k=ky f p k):SD f p' m:=fun i j a b=>by rw[e,e];exact h i j a b
abbrev ltf(f:Nat->O.α)(i j:Nat):Bool:=O.blt (f i) (f j)
theorem qly{Q:Nat->Prop}(a:Ar n p)(hn:0<n):∀ (u m:Nat),1<=m->m+u<=n->SU f p m->(∀ m',m<=m'->m'<=m+u->SU f p m'->(m'=m+u∨O.klt (ky f p m') (ky f p (m'-1)))->Q m')->pw (ltf f) n (kas_asc p u m) Q
 |0,m,_,_,hs,hq=>hq m (wac _) (wac _) hs (.inl rfl)
 |u+1,m,h1,h2,hs,hq=>by
  refine⟨a.lt hn _,a.lt hn _,?_⟩;cases e:ltf f (p.getD m 0) (p.getD (m-1) 0)with
  |true=>exact hq m (wac _) (by omega) hs (.inr e)
  |false=>exact qly a hn u (m+1) (by omega) (by omega) (hs.snoc h1 e) fun m' b c d e=>hq m' (by omega) (by omega) d (e.elim (fun z=>.inl (by omega)) .inr)
structure Dn(f:Nat->O.α)(n:Nat)(p:Array Nat)(m q:Nat):Prop where
 a:Ar n p
 s:SD f p m
 le:q+1<=m
 r:∀ i,m-(q+1)<=i->i<m->ky f p i=ky f p (m-1)
theorem qfF{Q:Array Nat×Nat×Nat->Prop}(hn:0<n):∀ (u:Nat) (p:Array Nat) (m q:Nat),m+u<=n->Dn f n p m q->(∀ p' m' q',Dn f n p' m' q'->m<=m'->m'<=m+u->Q (p',m',q'))->pw (ltf f) n (kas_desc u p m q) Q
 |0,p,m,q,_,d,hq=>hq p m q d (wac _) (wac _)
 |u+1,p,m,q,hu,d,hq=>by
  have m1:1<=m:=wal (Nat.le_add_left 1 q) d.le;refine⟨d.a.lt hn _,d.a.lt hn _,?_⟩;cases e:ltf f (p.getD m 0) (p.getD (m-1) 0)with
  |true=>
   have e':O.klt (ky f p m) (ky f p (m-1)):=e;dsimp only;rw[if_pos rfl];split
   · have sm:=qfw (f:=f) (p:=p) (i:=m-(q+1)) (j:=m) (by rw[d.a.sz];omega) d.r
     refine qfF hn u _ (m+1) 0 (by omega) ⟨d.a.rev _ _,(qhS d.s sm).snoc m1 (by rw[sm,sm];exact KeyOrd.kle_of_klt e'),by omega,fun i a b=>by rw[show i=m+1-1 by omega]⟩ fun p' m' q' d' b c=>hq p' m' q' d' (by omega) (by omega)
   · exact qfF hn u _ (m+1) 0 (by omega) ⟨d.a,d.s.snoc m1 (KeyOrd.kle_of_klt e'),by omega,fun i a b=>by rw[show i=m+1-1 by omega]⟩ fun p' m' q' d' b c=>hq p' m' q' d' (by omega) (by omega)
  |false=>
   have e':O.kle (ky f p (m-1)) (ky f p m):=e;dsimp only;rw[if_neg (by simp)]
   refine⟨d.a.lt hn _,d.a.lt hn _,?_⟩;cases e2:ltf f (p.getD (m-1) 0) (p.getD m 0)with
   |true=>exact hq p m q d (wac _) (by omega)
   |false=>
    have e3:ky f p m=ky f p (m-1):=O.total _ _ e e2;exact qfF hn u p (m+1) (q+1) (by omega) ⟨d.a,d.s.snoc m1 e2,by have:=d.le;omega,fun i a b=>by
     rw[show m+1-1=m by omega]
     by_cases z:i=m
     · rw[z]
     · rw[d.r i (by omega) (by omega),e3]⟩ fun p' m' q' d' b c=>hq p' m' q' d' (by omega) (by omega)
theorem qlw{Q:Nat×Array Nat->Prop}{m:Nat}(hn:0<n)(h1:1<=m)(hm:m<=n)(a:Ar n p)(s:SD f p m)(hq:∀ m' p',Ar n p'->SU f p' m'->1<=m'->m'<=n->Q (m',p')):pw (ltf f) n (kas_tail3 m n p) Q:=by
 unfold kas_tail3;exact qc0 (qly (a.rev _ _) hn _ _ h1 (by omega) (s.up (by rw[a.sz];exact hm)) fun m' b c d _=>hq m' _ (a.rev _ _) d (by omega) (by omega))
theorem qlx{Q:Nat×Array Nat->Prop}{m:Nat}(hn:0<n)(hm:m+1<=n)(a:Ar n p)(s:SD f p (m+1))(hq:∀ m' p',Ar n p'->SU f p' m'->1<=m'->m'<=n->Q (m',p')):pw (ltf f) n (kas_descPart m n p) Q:=by
 unfold kas_descPart;refine qc0 (qfF hn _ p (m+1) 0 (by omega) ⟨a,s,by omega,fun i b c=>by rw[show i=m+1-1 by omega]⟩ fun p' m' q' d b c=>?_)
 dsimp only;split
 · have sm:=qfw (f:=f) (p:=p') (i:=m'-(q'+1)) (j:=m') (by rw[d.a.sz];omega) d.r
   exact qlw hn (by omega) (by omega) (d.a.rev _ _) (qhS d.s sm) hq
 · exact qlw hn (by omega) (by omega) d.a d.s hq
theorem qnS{Q:Nat×Array Nat->Prop}(hn:1<=n)(a:Ar n p)(hq:∀ m' p',Ar n p'->SU f p' m'->1<=m'->m'<=n->Q (m',p')):pw (ltf f) n (kas_count n p) Q:=by
 unfold kas_count;refine qc0 (qly a hn _ 1 (wac _) (by omega) (fun i j b c=>by rw[show i=j by omega];exact KeyOrd.kle_refl _) fun m b c su z=>?_)
 split
 · exact hq m p a su b (by omega)
 · rename_i ne
   have ne':m≠n:=by simpa using ne
   have z:O.klt (ky f p m) (ky f p (m-1)):=z.resolve_left (by omega)
   split
   · refine⟨a.lt hn _,a.lt hn _,?_⟩
     cases e:ltf f (p.getD 0 0) (p.getD (m-1) 0)with
     |true=>exact hq m p a su b (by omega)
     |false=>
      have e':O.kle (ky f p (m-1)) (ky f p 0):=e;have eq:∀ k,0<=k->k<m->ky f p k=ky f p (m-1):=fun k _ h=>KeyOrd.kle_antisymm (su k (m-1) (by omega) (by omega)) (KeyOrd.kle_trans e' (su 0 k (by omega) h))
      have sm:=qfw (f:=f) (p:=p) (i:=0) (j:=m) (by rw[a.sz];omega) eq
      have sd:SD f p m:=fun i j hij hj=>by rw[eq j (by omega) hj,eq i (by omega) (by omega)];exact KeyOrd.kle_refl _
      exact qlx hn (by omega) (a.rev _ _) ((qhS sd sm).snoc b (by rw[sm,sm];exact KeyOrd.kle_of_klt z)) hq
   · have:m=1:=by omega
     subst this;have sd:SD f p 1:=fun i j hij hj=>by rw[show i=j by omega];exact KeyOrd.kle_refl _
     exact qlx hn (by omega) a (sd.snoc b (KeyOrd.kle_of_klt z)) hq
theorem qfE{Q:Nat->Prop}{k:Nat}(a:Ar n p)(hn:0<n)(su:SU f p k)(hq:∀ l,l<=k->(∀ i,i<l->O.kle (ky f p i) (ky f p k))->(∀ i,l<=i->i<k->O.kle (ky f p k) (ky f p i))->Q l):
 ∀ (u l r:Nat),l<=r->r<=k->r-l<=u->(∀ i,i<l->O.kle (ky f p i) (ky f p k))->(∀ i,r<=i->i<k->O.kle (ky f p k) (ky f p i))->pw (ltf f) n (kas_place p k u l r) Q
 |0,l,r,h1,h2,h3,h4,h5=>hq l (by omega) h4 (by rw[show l=r by omega];exact h5)
 |u+1,l,r,h1,h2,h3,h4,h5=>by
  unfold kas_place;split
  · exact hq l (by omega) h4 (by rw[show l=r by omega];exact h5)
  · refine⟨a.lt hn _,a.lt hn _,?_⟩
    cases e:ltf f (p.getD k 0) (p.getD ((l+r) / 2) 0)with
    |true=>
     have e':O.klt (ky f p k) (ky f p ((l+r) / 2)):=e;exact qfE a hn su hq u l ((l+r) / 2) (by omega) (by omega) (by omega) h4 fun i b c=>KeyOrd.kle_trans (KeyOrd.kle_of_klt e') (su _ i b c)
    |false=>
     have e':O.kle (ky f p ((l+r) / 2)) (ky f p k):=e;exact qfE a hn su hq u ((l+r) / 2+1) r (by omega) h2 (by omega) (fun i b=>KeyOrd.kle_trans (su i _ (by omega) (by omega)) e') h5
theorem qpr{k l:Nat}(hk:k<p.size)(hl:l<=k)(i:Nat):ky f (bubble p k (k-l)) i=if i=l then ky f p k else if l<i/\i<=k then ky f p (i-1)else ky f p i:=by
 unfold ky;rw[qdj,getElem?_bubble hk _ (by omega),qdj,qdj,qdj,show k-(k-l)=l by omega]
 repeat' split
 all_goals rfl
theorem qpg{Q:Array Nat->Prop}(hn:0<n)(hq:∀ p',Ar n p'->SU f p' n->Q p'):∀ (u:Nat) (p:Array Nat) (k:Nat),Ar n p->SU f p k->k+u=n->pw (ltf f) n (kas_bin u p k) Q
 |0,p,k,a,s,h=>hq p a (by rw[<-show k=n by omega];exact s)
 |u+1,p,k,a,s,h=>by
  refine qc0 (qfE a hn s (fun l hl lo hi=>qpg hn hq u _ (k+1) (a.bub _ _) (fun i j hij hj=>?_) (by omega)) k 0 k (waV _) (wac _) (by omega) (fun i z=>absurd z (Nat.not_lt_zero _)) fun i b c=>absurd c (by omega))
  have hk:k<p.size:=by rw[a.sz];omega
  rw[qpr hk hl,qpr hk hl]
  by_cases i1:i=l<;>by_cases j1:j=l
  · rw[if_pos i1,if_pos j1];exact KeyOrd.kle_refl _
  · rw[if_pos i1,if_neg j1,if_pos ⟨by omega,by omega⟩];exact hi _ (by omega) (by omega)
  · rw[if_neg i1,if_pos j1,if_neg (by omega)];exact lo _ (by omega)
  · rw[if_neg i1,if_neg j1]
    by_cases i2:l<i
    · rw[if_pos ⟨i2,by omega⟩,if_pos ⟨by omega,by omega⟩];exact s _ _ (by omega) (by omega)
    · rw[if_neg (by omega)]
      by_cases j2:l<j
      · rw[if_pos ⟨j2,by omega⟩];exact s _ _ (by omega) (by omega)
      · rw[if_neg (by omega)];exact s _ _ (by omega) (by omega)
theorem qqx{Q:Array Nat->Prop}(hn:1<=n)(hq:∀ p,Ar n p->SU f p n->Q p):pw (ltf f) n (kas_sort n) Q:=by
 unfold kas_sort;refine qc0 (qnS hn ⟨by simp,by simp⟩ fun m p a s h1 h2=>?_)
 dsimp only;split
 · rw[show max m 1=m by omega]
   exact qpg hn hq _ p m a s (by omega)
 · exact hq p a ((show m=n by omega) ▸ s)
end
end R
namespace L2
open PySem PySem.Spec PyProof.Rows
abbrev Key:=Sum Int Str
def qeY:Key->Value->Bool
 | .inl k,v=>Value.isInt k v
 | .inr x,v=>Value.isStrOf x v
def qAN(w:World):Key->Int
 | .inl k=>hashInt k
 | .inr x=>hashStr w x
theorem qap:∀ {k:Key} {v:Value},qeY k v=true->(∃ i t,k=Sum.inl i/\v=Value.int i t)∨(∃ x t,k=Sum.inr x/\v=Value.str x t)
 | .inl i,v,h=>by
  obtain⟨t,e⟩:=Value.isInt_shape (k:=i) (v:=v) h;exact .inl ⟨i,t,rfl,e⟩
 | .inr x,v,h=>by
  obtain⟨t,e⟩:=Value.isStrOf_shape (x:=x) (v:=v) h;exact .inr ⟨x,t,rfl,e⟩
theorem ql7(i:Int)(t:Tok):qeY (.inl i) (.int i t)=true:=by simp[qeY,Value.isInt]
theorem ql6(x:Str)(t:Tok):qeY (.inr x) (.str x t)=true:=by simp[qeY,Value.isStrOf]
theorem qul(a b:Int):decide ((Sum.inl a:Key)=Sum.inl b)=(a==b):=by
 by_cases e:a=b
 · subst e;simp
 · have h:¬(Sum.inl a:Key)=Sum.inl b:=fun q=>e (Sum.inl.inj q)
   rw[decide_eq_false h];exact(beq_eq_false_iff_ne.mpr e).symm
theorem qui(a b:Str):decide ((Sum.inr a:Key)=Sum.inr b)=decide (a=b):=by
 by_cases e:a=b
 · subst e;simp
 · have h:¬(Sum.inr a:Key)=Sum.inr b:=fun q=>e (Sum.inr.inj q)
   rw[decide_eq_false h,decide_eq_false e]
theorem quk(a:Int)(b:Str):decide ((Sum.inl a:Key)=Sum.inr b)=false:=decide_eq_false (fun q=>nomatch q)
theorem quj(a:Str)(b:Int):decide ((Sum.inr a:Key)=Sum.inl b)=false:=decide_eq_false (fun q=>nomatch q)
noncomputable def qak (prog:Program)(w:World):PySem.KeyKind prog w Key where
 is:=qeY
 hash:=qAN w
 inj:=fun v a b ha hb=>by
  rcases qap ha with⟨i,t,rfl,rfl⟩|⟨x,t,rfl,rfl⟩
  · rcases qap hb with⟨j,u,rfl,e⟩|⟨y,u,rfl,e⟩
    · injection e with e1 _;rw[e1]
    · exact nomatch e
  · rcases qap hb with⟨j,u,rfl,e⟩|⟨y,u,rfl,e⟩
    · exact nomatch e
    · injection e with e1 _;rw[e1]
 byValue:=fun k v h=>by
  rcases qap h with⟨i,t,rfl,rfl⟩|⟨x,t,rfl,rfl⟩<;>rfl
 pyHash:=fun hv h=>by
  rcases qap hv with⟨i,t,rfl,rfl⟩|⟨x,t,rfl,rfl⟩
  · exact wpAny_pyHash_int h
  · exact wpAny_pyHash_str h
 eqBool:=fun hu hv h=>by
  rcases qap hu with⟨i,t,rfl,rfl⟩|⟨x,t,rfl,rfl⟩
  · rcases qap hv with⟨j,u,rfl,rfl⟩|⟨y,u,rfl,rfl⟩
    · rw[qul]at h;exact wpAny_eqBool_int h
    · rw[quk]at h;exact SeqAt.EqAt.int_str i t y u _ _ _ _ h
  · rcases qap hv with⟨j,u,rfl,rfl⟩|⟨y,u,rfl,rfl⟩
    · rw[quj]at h;exact SeqAt.EqAt.str_int x t j u _ _ _ _ h
    · rw[qui]at h;exact wpAny_eqBool_str h
 «strs»:=fun k x t v h=>by
  rcases qap h with⟨i,u,rfl,e⟩|⟨y,u,rfl,e⟩
  · exact nomatch e
  · injection e with e1 _
    subst e1;cases v<;>rfl
theorem qip(prog:Program)(w:World)(i:Int)(t:Tok):(qak prog w).is (.inl i) (.int i t)=true:=ql7 i t
theorem qeb(prog:Program)(w:World)(x:Str)(t:Tok):(qak prog w).is (.inr x) (.str x t)=true:=ql6 x t
inductive V where
 |non|bl (b:Bool)|int (i:Int)|str (x:Str)|byt (b:Array UInt8)|flt (b:UInt64)|ref (a:Addr)|ty (n:String)
 deriving DecidableEq
noncomputable def RelV:V->Value->Prop
 | .non,u=>u=Value.none
 | .bl b,u=>u=Value.bool b
 | .int i,u=>∃ t,u=Value.int i t
 | .str x,u=>∃ t,u=Value.str x t
 | .byt b,u=>∃ t,u=Value.bytes b t
 | .flt b,u=>∃ t,u=Value.float b t
 | .ref a,u=>u=Value.ref a
 | .ty n,u=>u=Value.type n
abbrev Vals:List V->List Value->Prop:=Paired RelV
theorem Vals.length{xs:List V}{us:List Value}(r:Vals xs us):xs.length=us.length:=Paired.length r
theorem Vals.get:∀ {xs:List V} {us:List Value} {i:Nat} {x:V},Vals xs us->xs[i]? =some x->∃ u,us[i]? =some u/\RelV x u
 |_,_,_,_,.nil,e=>by simp at e
 |_,_,0,_,.cons r _,e=>by simp at e;subst e;exact⟨_,rfl,r⟩
 |_,_,i+1,x,.cons _ t,e=>by
  obtain⟨u,h1,h2⟩:=Vals.get (i:=i) (x:=x) t (by simpa using e)
  exact⟨u,by simpa using h1,h2⟩
theorem Vals.set{x:V}{u:Value}(r:RelV x u):∀ {xs:List V} {us:List Value} (i:Nat),Vals xs us->Vals (xs.set i x) (us.set i u)
 |_,_,_,.nil=>.nil
 |_,_,0,.cons _ t=>.cons r t
 |_,_,i+1,.cons q t=>.cons q (Vals.set r i t)
theorem Vals.append:∀ {xs ys:List V} {us ws:List Value},Vals xs us->Vals ys ws->Vals (xs++ys) (us++ws)
 |_,_,_,_,.nil,s=>s
 |_,_,_,_,.cons r t,s=>.cons r (Vals.append t s)
theorem Vals.take:∀ {xs:List V} {us:List Value} (n:Nat),Vals xs us->Vals (xs.take n) (us.take n)
 |_,_,0,_=>.nil
 |_,_,_+1,.nil=>.nil
 |_,_,n+1,.cons r t=>.cons r (Vals.take n t)
theorem Vals.drop:∀ {xs:List V} {us:List Value} (n:Nat),Vals xs us->Vals (xs.drop n) (us.drop n)
 |_,_,0,r=>r
 |_,_,_+1,.nil=>.nil
 |_,_,n+1,.cons _ t=>Vals.drop n t
theorem Vals.none_of:∀ {xs:List V} {us:List Value} {i:Nat},Vals xs us->xs[i]? =none->us[i]? =none:=fun {xs us i} r e=>by
 have h1:=r.length;have h2:xs.length<=i:=List.getElem?_eq_none_iff.mp e;exact List.getElem?_eq_none_iff.mpr (by omega)
def RelO:Option V->Option Value->Prop
 |some v,some u=>RelV v u
 |none,none=>True
 |_,_=>False
def KV{κ:Type}:List (κ×V)->List (κ×Value)->Prop:=Paired fun(p:κ×V) (q:κ×Value)=>p.1=q.1/\RelV p.2 q.2
def kV:Key->V
 | .inl i=>.int i
 | .inr x=>.str x
abbrev qbv:=Option Key
def oV:qbv->V
 |none=>.non
 |some k=>kV k
def qxg:Option Key->Value->Bool
 |none,.none=>true
 |none,_=>false
 |some k,v=>qeY k v
def okH(w:World):Option Key->Int
 |none=>0xFCA86420
 |some k=>qAN w k
theorem qaK:∀ {k:Option Key} {v:Value},qxg k v=true->(k=none/\v=Value.none)∨∃ j,k=some j/\qeY j v=true
 |none,v,h=>by cases v<;>first|exact .inl ⟨rfl,rfl⟩|(simp[qxg]at h)
 |some k,v,h=>.inr ⟨k,rfl,h⟩
theorem qfd{k:Key}:qeY k Value.none=false:=by cases k<;>rfl
section
variable {prog:Program}{w:World}{A:Around}{E:Value->Shared->Prop}{s:Shared}
theorem qmC{Q:Int->Shared->Prop}(h:Q 0xFCA86420 { s with toks:=s.toks+1 }):wpAny (model prog w) A (PySem.pyHash .none) Q E s:=by
 have hT:s.TypeIs .none "NoneType":=rfl;unfold PySem.pyHash;have hv:[Value.none].any Value.onHeap=false:=rfl;refine wpAny_bind ?_;rw[cRoomFor,if_neg (by rw[hv];exact wan)];refine wpAny_pure ?_
 refine wpAny_bind (wpAny_specialOf hT F.slot_NoneType_hash.lookup ?_);show wpAny _ _ (if(some (Value.builtin "NoneType.__hash__")==some Value.none)=true then _ else _) Q E s
 rw[if_neg (by rw[beq_builtin_none];exact wan)]
 refine wpAny_bind (wpAny_specialOf hT F.slot_NoneType_hash.lookup ?_);show wpAny _ _ (callSpecialIfBoundUnlessNone? .none "__hash__" _ >>= _) Q E s;refine wpAny_bind (wpAny_callSpecialIfBoundUnlessNone?_slot hT F.slot_NoneType_hash
  (wpAny_call_entry F.slot_NoneType_hash hT F.entry_NoneType_hash
   (show wpAny _ _ (do ret (<-mkInt 0xFCA86420)) _ _ s from wpAny_ret_mkInt ?_) (F.args_NoneType_hash_1 _)))
 show wpAny _ _ (if(decide (-(2:Int) ^ 63<=0xFCA86420)&&decide ((0xFCA86420:Int)<2 ^ 63))=true then _ else _) Q E _
 rw[if_pos (by decide)]
 exact wpAny_pure h
end
noncomputable def optKind (prog:Program)(w:World):PySem.KeyKind prog w (Option Key) where
 is:=qxg
 hash:=okH w
 inj:=fun v a b ha hb=>by
  rcases qaK ha with⟨rfl,rfl⟩|⟨j,rfl,hj⟩
  · rcases qaK hb with⟨rfl,_⟩|⟨i,rfl,hi⟩
    · rfl
    · rw[qfd]at hi;cases hi
  · rcases qaK hb with⟨rfl,rfl⟩|⟨i,rfl,hi⟩
    · rw[qfd]at hj;cases hj
    · rw[(qak prog w).inj v j i hj hi]
 byValue:=fun k v h=>by
  rcases qaK h with⟨rfl,rfl⟩|⟨j,rfl,hj⟩
  · rfl
  · exact(qak prog w).byValue j v hj
 pyHash:=fun hv h=>by
  rcases qaK hv with⟨rfl,rfl⟩|⟨j,rfl,hj⟩
  · exact qmC h
  · exact(qak prog w).pyHash hj h
 eqBool:=fun {A E s a b u v Q} hu hv h=>by
  rcases qaK hu with⟨rfl,rfl⟩|⟨i,rfl,hi⟩
  · rcases qaK hv with⟨rfl,rfl⟩|⟨j,rfl,hj⟩
    · exact SeqAt.EqAt.same _ _ _ _ _ (by simpa using h)
    · have e:decide ((none:Option Key)=some j)=false:=decide_eq_false (fun q=>nomatch q)
      rw[e]at h;rcases qap hj with⟨k,t,rfl,rfl⟩|⟨x,t,rfl,rfl⟩
      · exact SeqAt.EqAt.none_int k t _ _ _ _ h
      · exact SeqAt.EqAt.none_str x t _ _ _ _ h
  · rcases qaK hv with⟨rfl,rfl⟩|⟨j,rfl,hj⟩
    · have e:decide ((some i:Option Key)=none)=false:=decide_eq_false (fun q=>nomatch q)
      rw[e]at h;rcases qap hi with⟨k,t,rfl,rfl⟩|⟨x,t,rfl,rfl⟩
      · exact SeqAt.EqAt.int_none k t _ _ _ _ h
      · exact SeqAt.EqAt.str_none x t _ _ _ _ h
    · have e:decide (some i=some j)=decide (i=j):=by
       by_cases q:i=j
       · subst q;simp
       · rw[decide_eq_false q,decide_eq_false fun z=>q (Option.some.inj z)]
      rw[e]at h;exact(qak prog w).eqBool hi hj h
 «strs»:=fun k x t v h=>by
  rcases qaK h with⟨rfl,e⟩|⟨j,rfl,hj⟩
  · cases e
  · exact(qak prog w).strs j x t v hj
inductive HO where
 |lst (xs:List V)
 |tup (xs:List V)
 |dK (kvs:List (Key×V))|dT (kvs:List (List qbv×V))
 |set (S:Int->Bool) (n:Nat)
 |ins (C dx:Addr) (fs:List (Str×V))
 |own (x:Addr)
 |xd (fs:List (Str×V))
 |met (f x:Addr)
 |rng (lo hi:Int)
 |frz (o:Obj) (u:HO)
 |tbl (ps:Array Value)
 |ext (φ:Heap->Prop)
abbrev Hp:=Addr->Option HO
def upd(H:Hp)(a:Addr)(o:HO):Hp:=fun b=>if b=a then some o else H b
theorem qaj{H:Hp}{a:Addr}{o:HO}:upd H a o a=some o:=by unfold upd;rw[if_pos rfl]
theorem qae{H:Hp}{a b:Addr}{o:HO}(h:b≠a):upd H a o b=H b:=by unfold upd;rw[if_neg h]
theorem qkI{H:Hp}{a:Addr}{o u:HO}:upd (upd H a o) a u=upd H a u:=by
 funext b;unfold upd;split<;>rfl
theorem qeQ{H:Hp}{a b:Addr}{o u:HO}(h:H a=some o)(h':H b=some u)(d:o≠u):a≠b:=by
 intro e;subst e;rw[h]at h';exact d (Option.some.inj h')
theorem qah{H:Hp}{a b:Addr}{o:HO}(h:H a=some o)(h':H b=none):a≠b:=by
 intro e;subst e;rw[h]at h';cases h'
section
variable(P:Program)(w:World)
noncomputable def ObjOk (H:Hp)(h:Heap)(a:Addr):HO->Prop
 | .lst xs=>xs.length<=sizeLine/\∃ (its:List Value) (n:Nat),Vals xs its/\h.get? a=some { cls:=.type "list",data:=.seq its.toArray n }
 | .tup xs=>xs.length<=sizeLine/\∃ its:List Value,Vals xs its/\IsTup h a its.toArray
 | .dK kvs=>kvs.length<=sizeLine/\(a==sysModules)=false/\∃ vs,KV kvs vs/\h.DictOf (qak P w) a vs
 | .dT kvs=>kvs.length<=sizeLine/\(a==sysModules)=false/\∃ xs:List (List qbv×Addr×Value),
  Paired (fun(p:List qbv×V) (q:List qbv×Addr×Value)=>p.1=q.1/\H q.2.1=some (.tup (p.1.map oV))/\RelV p.2 q.2.2) kvs xs/\
  ∃ o es ep,h.get? a=some o/\o.ExactDict/\o.data= .dict es ep/\es.toList=xs.map (entryOfKey (tupleKind (optKind P w)))/\(xs.map (·.1)).Nodup
 | .set S n=>h.SetOf (intKind P w) a S n
 | .ins C dx fs=>H dx=some (.own a)/\fs.length<=1000/\dx≠a/\h.get? a=some (waL C dx)/\
  ∃ mA,h.Ns1 dx mA/\(∀ f,RelO (fs.lookup f) (mA f))/\PySem.Within mA (fs.map (·.1))
 | .own _=>∃ o,h.get? a=some o
 | .xd fs=>∃ mA,h.Ns1 a mA/\∀ f,RelO (fs.lookup f) (mA f)
 | .rng lo hi=>∃ t u v,h.get? a=some { cls:=.type "range",data:=.fields #[.int lo t,.int hi u,.int 1 v] }
 | .frz o u=>h.get? a=some o/\ObjOk H h a u
 | .tbl ps=>h.get? a=some { cls:=.none,data:=.fields ps }
 | .met f x=>h.get? a=some (PySem.W.methodObj (.ref f) (.ref x))
 | .ext φ=>φ h/\(∃ o,h.get? a=some o)/\∀ h1 h2:Heap,φ h1->(∀ o,h1.get? a=some o->h2.get? a=some o)->φ h2
def HOk(H:Hp)(h:Heap):Prop:=∀ a o,H a=some o->ObjOk P w H h a o
end
section
variable {P:Program}{w:World}{H H':Hp}{h h':Heap}{a:Addr}{o:HO}
theorem ObjOk.lt(x:ObjOk P w H h a o):a<h.objs.size:=by
 cases o with
 |lst xs=>obtain⟨_,_,_,_,e⟩:=x;exact wae e
 |tup xs=>obtain⟨_,_,_,p⟩:=x;exact p.lt
 |dK kvs=>obtain⟨_,_,_,_,o,_,_,e,_⟩:=x;exact wae e
 |dT kvs=>obtain⟨_,_,_,_,o,_,_,e,_⟩:=x;exact wae e
 |set S n=>obtain⟨o,_,_,_,e,_⟩:=x;exact wae e
 |ins C dx fs=>obtain⟨_,_,_,e,_⟩:=x;exact wae e
 |own y=>obtain⟨_,e⟩:=x;exact wae e
 |xd fs=>obtain⟨_,⟨_,_,_,e,_⟩,_⟩:=x;exact wae e
 |rng lo hi=>obtain⟨_,_,_,e⟩:=x;exact wae e
 |frz ob u=>obtain⟨e,_⟩:=x;exact wae e
 |tbl ps=>exact wae (show h.get? a=some _ from x)
 |met f y=>exact wae (show h.get? a=some _ from x)
 |ext φ=>obtain⟨_,⟨_,e⟩,_⟩:=x;exact wae e
theorem Paired.mapP{α β:Type}{F G:α->β->Prop}:∀ {l₁:List α} {l₂:List β},Paired F l₁ l₂->(∀ a b,F a b->G a b)->Paired G l₁ l₂
 |_,_,.nil,_=>.nil
 |_,_,.cons r t,f=>.cons (f _ _ r) (Paired.mapP t f)
theorem ObjOk.stay(x:ObjOk P w H h a o)(k:∀ b u,(b=a∨H b=some (.own a))->h.get? b=some u->h'.get? b=some u)
 (ho:∀ b,H b=some (.own a)->H' b=some (.own a)) (ht:∀ b xs,H b=some (.tup xs)->H' b=some (.tup xs)):ObjOk P w H' h' a o:=by
 induction o with
 |lst xs=>obtain⟨z,its,n,r,e⟩:=x;exact⟨z,its,n,r,k _ _ (.inl rfl) e⟩
 |tup xs=>obtain⟨z,its,r,ob,e,c⟩:=x;exact⟨z,its,r,ob,k _ _ (.inl rfl) e,c⟩
 |dK kvs=>obtain⟨z,y,vs,r,ob,es,ep,e,c⟩:=x;exact⟨z,y,vs,r,ob,es,ep,k _ _ (.inl rfl) e,c⟩
 |dT kvs=>
  obtain⟨z,y,xs,r,ob,es,ep,e,c⟩:=x;exact⟨z,y,xs,Paired.mapP r fun p q z=>⟨z.1,ht _ _ z.2.1,z.2.2⟩,ob,es,ep,k _ _ (.inl rfl) e,c⟩
 |set S n=>obtain⟨ob,es,ep,t,e,c⟩:=x;exact⟨ob,es,ep,t,k _ _ (.inl rfl) e,c⟩
 |ins C dx fs=>
  obtain⟨d,z,ne,e,mA,⟨od,es,ep,e2,c⟩,r⟩:=x;exact⟨ho _ d,z,ne,k _ _ (.inl rfl) e,mA,⟨od,es,ep,k _ _ (.inr d) e2,c⟩,r⟩
 |own y=>obtain⟨ob,e⟩:=x;exact⟨ob,k _ _ (.inl rfl) e⟩
 |xd fs=>obtain⟨mA,⟨od,es,ep,e,c⟩,r⟩:=x;exact⟨mA,⟨od,es,ep,k _ _ (.inl rfl) e,c⟩,r⟩
 |rng lo hi=>obtain⟨t,u,v,e⟩:=x;exact⟨t,u,v,k _ _ (.inl rfl) e⟩
 |frz ob u ih=>obtain⟨e,q⟩:=x;exact⟨k _ _ (.inl rfl) e,ih q⟩
 |tbl ps=>
  have e:h.get? a=some { cls:=.none,data:=.fields ps }:=x;show h'.get? a=some { cls:=.none,data:=.fields ps };exact k a _ (.inl rfl) e
 |met f y=>
  have e:h.get? a=some (PySem.W.methodObj (.ref f) (.ref y)):=x;show h'.get? a=some (PySem.W.methodObj (.ref f) (.ref y));exact k a _ (.inl rfl) e
 |ext φ=>obtain⟨p,⟨o,e⟩,st⟩:=x;exact⟨st _ _ p fun o q=>k _ _ (.inl rfl) q,⟨o,k _ _ (.inl rfl) e⟩,st⟩
theorem HOk.lt(x:HOk P w H h)(e:H a=some o):a<h.objs.size:=(x a o e).lt
theorem HOk.fresh(x:HOk P w H h)(e:h.objs.size<=a):H a=none:=by
 cases q:H a with
 |none=>rfl
 |some u=>exact absurd (waj (x.lt q) e) (waM _)
theorem HOk.kept(x:HOk P w H h)(k:∀ b u,h.get? b=some u->h'.get? b=some u):HOk P w H h':=fun a o e=>
 (x a o e).stay (fun b u _ q=>k b u q) (fun _ q=>q) fun _ _ q=>q
theorem HOk.laid(x:HOk P w H h)(k:∀ b u,h.get? b=some u->h'.get? b=some u)(hp:h.objs.size<=a)(new:ObjOk P w (upd H a o) h' a o):HOk P w (upd H a o) h':=fun b u e=>by
 have hn:=x.fresh hp
 by_cases hb:b=a
 · subst hb;rw[qaj]at e;cases e;exact new
 · rw[qae hb]at e
   exact(x b u e).stay (fun c v _ q=>k c v q) (fun c q=>by rw[qae (qah q hn)];exact q) fun c xs q=>by rw[qae (qah q hn)];exact q
end
def Rd(H:Hp)(a:Addr)(u:HO):Prop:=H a=some u∨∃ o,H a=some (.frz o u)
theorem Rd.of{H:Hp}{a:Addr}{u:HO}(h:H a=some u):Rd H a u:=.inl h
theorem Rd.ok{P:Program}{w:World}{H:Hp}{h:Heap}{a:Addr}{u:HO}(r:Rd H a u)(x:HOk P w H h):ObjOk P w H h a u:=by
 rcases r with r|⟨o,r⟩
 · exact x a u r
 · obtain⟨_,q⟩:=x a _ r
   exact q
noncomputable def Mut:Option HO->Prop
 |some (.lst _)=>True
 |some (.dK _)=>True
 |some (.dT _)=>True
 |some (.set _ _)=>True
 |some (.ins _ _ _)=>True
 |some (.ext _)=>True
 |_=>False
section
variable {P:Program}{w:World}{H:Hp}{h h':Heap}{x e:Addr}{o':HO}
theorem HOk.write(ok:HOk P w H h)(mu:Mut (H x))(he:e=x∨H e=some (.own x))(k:∀ b u,b≠e->h.get? b=some u->h'.get? b=some u)(heo:∃ u,h'.get? e=some u)
 (new:ObjOk P w (upd H x o') h' x o'):HOk P w (upd H x o') h':=fun b u q=>by
 have nown:∀ c y,H c=some (.own y)->c≠x:=fun c y r z=>by subst z;rw[r]at mu;exact mu
 have ntup:∀ c xs,H c=some (.tup xs)->c≠x:=fun c xs r z=>by subst z;rw[r]at mu;exact mu
 by_cases hb:b=x
 · subst hb;rw[qaj]at q;cases q;exact new
 · rw[qae hb]at q
   by_cases hbe:b=e
   · have q':H b=some (.own x):=by
      rcases he with z|z
      · exact absurd (hbe.trans z) hb
      · rw[hbe];exact z
     rw[q]at q';cases q';obtain⟨v,hv⟩:=heo;exact⟨v,by rw[hbe];exact hv⟩
   · refine(ok b u q).stay (fun c v hc r=>k c v ?_ r) (fun c r=>by rw[qae (nown c b r)];exact r) fun c xs r=>by rw[qae (ntup c xs r)];exact r
     rcases hc with rfl|hc
     · exact hbe
     · rintro rfl
       rcases he with z|z
       · exact nown c b hc z
       · rw[hc]at z;cases z;exact hb rfl
end
structure Un(fs ex:List Addr)(H H':Hp)(h h':Heap):Prop where
 keep:∀ b o,h.get? b=some o->H b=none->b∉fs->b∉ex->h'.get? b=some o
 slot:∀ b o,h.get? b=some o->H b=none->b∈fs->b∉ex->∃ sl,h'.get? b=some { o with slots:=sl }
 free:∀ b o,h.get? b=some o->H b=none->b∉ex->H' b=none
 there:∀ b o,h.get? b=some o->b∉ex->∃ o',h'.get? b=some o'
 tups:∀ b xs,H b=some (.tup xs)->H' b=some (.tup xs)
 frzs:∀ b o u,H b=some (.frz o u)->H' b=some (.frz o u)
 tbls:∀ b ps,H b=some (.tbl ps)->∃ more,H' b=some (.tbl (ps++more))
section
variable {fs fs' ex ex':List Addr}{H H1 H2:Hp}{h h1 h2 h':Heap}{a x e:Addr}{o:HO}
theorem Un.any(u:Un fs ex H H1 h h1){b:Addr}{ob:Obj}(q:h.get? b=some ob)(n:H b=none)(hx:b∉ex):∃ sl,h1.get? b=some { ob with slots:=sl }:=by
 by_cases hb:b∈fs
 · exact u.slot b ob q n hb hx
 · exact⟨ob.slots,u.keep b ob q n hb hx⟩
theorem Un.trans(a:Un fs ex H H1 h h1)(b:Un fs ex H1 H2 h1 h2):Un fs ex H H2 h h2 where
 keep:=fun c ob q n hc hx=>b.keep c ob (a.keep c ob q n hc hx) (a.free c ob q n hx) hc hx
 slot:=fun c ob q n hc hx=>by
  obtain⟨sl,e1⟩:=a.slot c ob q n hc hx;obtain⟨sl',e2⟩:=b.slot c _ e1 (a.free c ob q n hx) hc hx;exact⟨sl',e2⟩
 free:=fun c ob q n hx=>by
  obtain⟨o',e1⟩:=a.there c ob q hx;exact b.free c o' e1 (a.free c ob q n hx) hx
 there:=fun c ob q hx=>by
  obtain⟨o',e1⟩:=a.there c ob q hx;exact b.there c o' e1 hx
 tups:=fun c xs q=>b.tups c xs (a.tups c xs q)
 frzs:=fun c ob xs q=>b.frzs c ob xs (a.frzs c ob xs q)
 tbls:=fun c ps q=>by
  obtain⟨m1,e1⟩:=a.tbls c ps q;obtain⟨m2,e2⟩:=b.tbls c _ e1;exact⟨m1++m2,by rw[e2,Array.append_assoc]⟩
theorem Un.kept(k:∀ b u,h.get? b=some u->h'.get? b=some u):Un fs ex H H h h':=
 ⟨fun b ob q _ _ _=>k b ob q,fun b ob q _ _ _=>⟨ob.slots,k b ob q⟩,fun _ _ _ n _=>n,fun b ob q _=>⟨ob,k b ob q⟩,fun _ _ q=>q,fun _ _ _ q=>q,fun _ ps q=>⟨#[],by rw[q];simp⟩⟩
theorem Un.refl:Un fs ex H H h h:=Un.kept fun _ _ q=>q
theorem Un.laid(k:∀ b u,h.get? b=some u->h'.get? b=some u)(hp:h.objs.size<=a)(hn:H a=none):Un fs ex H (upd H a o) h h' where
 keep:=fun b u q _ _ _=>k b u q
 slot:=fun b u q _ _ _=>⟨u.slots,k b u q⟩
 free:=fun b u q n _=>by rw[qae (waq (waj (wae q) hp))];exact n
 there:=fun b u q _=>⟨u,k b u q⟩
 tups:=fun b xs q=>by rw[qae (qah q hn)];exact q
 frzs:=fun b u xs q=>by rw[qae (qah q hn)];exact q
 tbls:=fun b ps q=>⟨#[],by rw[qae (qah q hn),q];simp⟩
theorem Un.write(mu:Mut (H x))(he:e=x∨H e=some (.own x))(k:∀ b u,b≠e->h.get? b=some u->h'.get? b=some u)(heo:∃ u,h'.get? e=some u):Un fs ex H (upd H x o) h h':=by
 have hx:∀ b,H b=none->b≠x:=fun b n z=>by subst z;rw[n]at mu;exact mu
 have hb:∀ b,H b=none->b≠e:=fun b n z=>by
  subst z;rcases he with r|r
  · exact hx b n r
  · rw[n]at r;cases r
 have hm:∀ b u,H b=some u->¬Mut (some u)->b≠x:=fun b u q nm z=>by subst z;rw[q]at mu;exact nm mu
 refine⟨fun b u q n _ _=>k b u (hb b n) q,fun b u q n _ _=>⟨u.slots,k b u (hb b n) q⟩,fun b u q n _=>by rw[qae (hx b n)];exact n,fun b u q _=>?_,
  fun b xs q=>by rw[qae (hm b _ q fun z=>z)];exact q,fun b u xs q=>by rw[qae (hm b _ q fun z=>z)];exact q,fun b ps q=>⟨#[],by rw[qae (hm b _ q fun z=>z),q];simp⟩⟩
 by_cases hbe:b=e
 · subst hbe;exact heo
 · exact⟨u,k b u hbe q⟩
theorem Un.mono(u:Un fs ex H H1 h h1)(hs:∀ b∈fs,b∈fs')(hx:∀ b∈ex,b∈ex'):Un fs' ex' H H1 h h1:=
 ⟨fun b ob q n hb he=>u.keep b ob q n (fun z=>hb (hs b z)) fun z=>he (hx b z),fun _ _ q n _ he=>u.any q n fun z=>he (hx _ z),fun b ob q n he=>u.free b ob q n fun z=>he (hx b z),fun b ob q he=>u.there b ob q fun z=>he (hx b z),u.tups,u.frzs,u.tbls⟩
end
def trk(h:Heap)(H:Hp):List Addr:=(List.range h.objs.size).filter fun a=>(H a).isSome
def qoq(h:Heap)(H:Hp):Heap:=PySem.W.hideAll h (trk h H)
theorem qmz(h:Heap)(H:Hp):(qoq h H).objs.size=h.objs.size:=PySem.W.hideAll_size _ _
theorem qop{h:Heap}{H:Hp}{b:Addr}{o:Obj}(e:h.get? b=some o)(n:H b=none):(qoq h H).get? b=some o:=
 PySem.W.hideAll_get _ e fun hm=>by
  have q:(H b).isSome=true:=(List.mem_filter.mp hm).2;rw[n]at q;simp at q
theorem qqW{h:Heap}{H:Hp}{b:Addr}{o:Obj}(e:(qoq h H).get? b=some o):h.get? b=some o/\H b=none:=by
 have e':h.get? b=some o:=PySem.W.of_hideAll (trk h H) e;refine⟨e',?_⟩;cases q:H b with
 |none=>rfl
 |some x=>
  have hm:b∈trk h H:=List.mem_filter.mpr ⟨wa1.mpr (wae e'),by simp[q]⟩
  have z:(qoq h H).get? b=none:=PySem.W.hideAll_none (trk h H) hm;rw[z]at e;cases e
noncomputable def qr5 (g h:Heap)(L:Addr):List (Addr×Obj):=(List.range h.objs.size).filterMap fun a=>if a=L∨(g.get? a).isSome=true then none else(h.get? a).map fun o=>(a,o)
def rest(g h:Heap)(L d:Addr):List (Addr×Obj):=(qr5 g h L).filter fun p=>decide (p.1≠d)
structure Mod(K:Frg)(mg:Str->Option Value)(base:Heap):Prop where
 kin:K.In base
 glob:base.Ns mainGlobals mg
 blt:∃ mb,base.Ns builtinsNs mb/\∀ x:Str,x≠"__name__"->mb x=bootBuiltins x
 nolimit:base.NoLimit
structure Cx where
 prog:Program
 w:World
 K:Frg
 mg:Str->Option Value
 base:Heap
 A:Around
 N:List Str
 s₀:Shared
 H₀:Hp
 env:Env
 outer:List Env
 stack:List Env
 ex:List Addr
 fn:Str->Bool
 calm:Bool
 pn:List (Addr×Obj)
 xe:Value->Shared->Prop
def frs(l:List Env):List Addr:=l.filterMap (·.frame)
abbrev Cx.fs(X:Cx):List Addr:=frs X.outer
def Vis(sc:Scope)(x:Str):Prop:=sc.names.lookup x=some .local∨sc.names.lookup x=some .cell∨sc.names.lookup x=some .free
def Loc(sc:Scope)(x:Str):Prop:=sc.names.lookup x=some .local∨sc.names.lookup x=some .cell
def Look(env:Env)(h:Heap)(m:Str->Option Value)(x:Str)(u:Value):Prop:=
 (env.kindOf x=some .local/\m x=some u)∨((env.kindOf x=some .cell∨env.kindOf x=some .free)/\∃ c,env.cells.lookup x=some c/\h.IsCell c (some u))
structure Cx.Ok(X:Cx):Prop where
 mod:Mod X.K X.mg X.base
 kind:X.env.scope.kind= .function
 glob:X.env.globals=mainGlobals
 blt:X.env.builtins=builtinsNs
 above:X.s₀.heap.objs.size<=X.env.locals
 inj:∀ x y c,X.env.cells.lookup x=some c->X.env.cells.lookup y=some c->x=y
 has:∀ x,(X.env.kindOf x=some .cell∨X.env.kindOf x=some .free)->∃ c,X.env.cells.lookup x=some c
 cab:∀ x c,X.fn x=true->X.env.cells.lookup x=some c->X.s₀.heap.objs.size<=c
 hd:X.calm=true->X.A.handled=none
 frames:X.A.frames=some X.stack
 stk:X.stack=X.outer∨(X.stack=X.env::X.outer/\X.env.frame=some X.env.locals)
 exf:∀ b∈X.ex,b≠X.env.locals/\∀ x c,X.env.cells.lookup x=some c->c≠b
 bs:∀ b o,X.base.get? b=some o->X.s₀.heap.get? b=some o/\X.H₀ b=none
 bsz:X.base.objs.size<=X.s₀.heap.objs.size
 noex:∀ b o,X.base.get? b=some o->b∉X.ex
 exfs:∀ b∈X.ex,b∉X.fs
 funs:X.s₀.heap.FunFrames X.base X.outer
 frf:∀ b∈X.fs,X.H₀ b=none
structure Inv(X:Cx)(pins:List (Addr×Obj))(σ:List (Option V))(H:Hp)(s:Shared):Prop where
 ok:X.Ok
 os:s.os=X.s₀.os
 bare:AllBare s.gens
 base:Un X.fs X.ex X.H₀ H X.s₀.heap s.heap
 loc:∃ m,s.heap.Ns X.env.locals m/\∀ (i:Nat) (x:Str) (v:V),X.N[i]? =some x->σ[i]? =some (some v)->Vis X.env.scope x->∃ u,RelV v u/\Look X.env s.heap m x u
 cell:∀ x c,X.env.cells.lookup x=some c->∃ v,s.heap.IsCell c v
 free:H X.env.locals=none
 freeC:∀ x c,X.env.cells.lookup x=some c->H c=none
 pin:∀ p∈X.pn++pins,s.heap.get? p.1=some p.2/\H p.1=none/\p.1≠X.env.locals/\p.1∉X.fs/\∀ v,p.2.data≠.cell v
 hok:HOk X.prog X.w H s.heap
 len:σ.length=X.N.length
section
variable {X:Cx}{pins:List (Addr×Obj)}{σ:List (Option V)}{H H':Hp}{s:Shared}{h':Heap}
theorem Cx.Ok.nofr(ok:X.Ok){b:Addr}{o:Obj}(e:X.base.get? b=some o):b∉X.fs:=fun hb=>by
 have:=(ok.funs.mem hb).1;rw[e]at this;cases this
theorem Inv.bs(I:Inv X pins σ H s):∀ b o,X.base.get? b=some o->s.heap.get? b=some o/\H b=none:=fun b o e=>
 ⟨I.base.keep b o (I.ok.bs b o e).1 (I.ok.bs b o e).2 (I.ok.nofr e) (I.ok.noex b o e),I.base.free b o (I.ok.bs b o e).1 (I.ok.bs b o e).2 (I.ok.noex b o e)⟩
theorem Inv.bk(I:Inv X pins σ H s):∀ b o,X.base.get? b=some o->s.heap.get? b=some o:=fun b o e=>(I.bs b o e).1
theorem Inv.mod(I:Inv X pins σ H s):Mod X.K X.mg X.base:=I.ok.mod
theorem Inv.kIn(I:Inv X pins σ H s):X.K.In s.heap:=I.ok.mod.kin.keeps I.bk
theorem Inv.nolimit(I:Inv X pins σ H s):s.heap.NoLimit:=I.ok.mod.nolimit.keeps I.bk
theorem Inv.fr(I:Inv X pins σ H s):∃ m,Fr X.base X.env.locals s.heap m:=
 let⟨m,hn,_⟩:=I.loc
 ⟨m,hn,I.bk,wal I.ok.bsz I.ok.above⟩
theorem Inv.lt(I:Inv X pins σ H s):X.env.locals<s.heap.objs.size:=let⟨_,hn,_⟩:=I.loc;hn.lt
theorem Inv.sz(I:Inv X pins σ H s):X.s₀.heap.objs.size<=s.heap.objs.size:=wal I.ok.above (waU I.lt)
theorem Inv.nofs(I:Inv X pins σ H s){a:Addr}(h:s.heap.objs.size<=a):a∉X.fs:=fun hb=>by
 obtain⟨_,o,ho,_⟩:=I.ok.funs.mem hb;exact absurd (waj (wae ho) (wal I.sz h)) (waM _)
theorem Inv.cne(I:Inv X pins σ H s):∀ x c,X.env.cells.lookup x=some c->c≠X.env.locals:=fun x c e z=>by
 obtain⟨v,o,ho,hd⟩:=I.cell x c e;obtain⟨m,⟨o',es,ep,ho',hd',_⟩,_⟩:=I.loc;rw[z,ho']at ho;cases ho;rw[hd']at hd;cases hd
theorem Inv.funs(I:Inv X pins σ H s):s.heap.FunFrames X.base X.outer:=by
 have all:∀ (l:List Env),(∀ b∈frs l,b∈X.fs)->X.s₀.heap.FunFrames X.base l->s.heap.FunFrames X.base l:=by
  intro l
  induction l with
  |nil=>intro _ _;trivial
  |cons env r ih=>
   intro hs hl;obtain⟨hk,⟨L,o,hf,hn,ho,hd⟩,hr⟩:=hl;have hL:L∈X.fs:=hs L (by unfold frs;rw[List.filterMap_cons,hf];exact waw)
   obtain⟨sl,e⟩:=I.base.slot L o ho (I.ok.frf L hL) hL fun z=>I.ok.exfs L z hL
   exact⟨hk,⟨L,_,hf,hn,e,hd⟩,ih (fun b hb=>hs b (by unfold frs;rw[List.filterMap_cons,hf];exact wap _ hb)) hr⟩
 exact all X.outer (fun _ hb=>hb) I.ok.funs
theorem Inv.stack(I:Inv X pins σ H s):s.heap.FunFrames X.base X.stack:=by
 rcases I.ok.stk with e|⟨e,hf⟩
 · rw[e];exact I.funs
 · rw[e]
   obtain⟨m,hn,_⟩:=I.loc;refine .cons (by rw[I.ok.kind];decide) hf hn ?_ I.funs
   exact Heap.get?_none_of_le (wal I.ok.bsz I.ok.above)
theorem Inv.stkSub(I:Inv X pins σ H s):∀ b∈frs X.stack,b∈X.env.locals::X.fs:=fun b hb=>by
 rcases I.ok.stk with e|⟨e,hf⟩
 · rw[e]at hb;exact wap _ hb
 · rw[e]at hb
   unfold frs at hb;rw[List.filterMap_cons,hf]at hb;exact hb
theorem Inv.stkFree(I:Inv X pins σ H s):∀ b∈frs X.stack,H b=none:=fun b hb=>by
 rcases was.mp (I.stkSub b hb)with e|hb
 · rw[e];exact I.free
 · obtain⟨_,o,ho,_⟩:=I.ok.funs.mem hb
   exact I.base.free b o ho (I.ok.frf b hb) fun z=>I.ok.exfs b z hb
theorem Inv.step{g':Array GenState}{t':Nat}{d':Drawn}{ch:List Addr}(I:Inv X pins σ H s)
 (hch:∀ b∈ch,(b∈X.ex∨X.s₀.heap.objs.size<=b)/\b≠X.env.locals/\(∀ x c,X.env.cells.lookup x=some c->c≠b)/\∀ p∈X.pn++pins,p.1≠b)
 (keep:∀ b o,b≠X.env.locals->b∉X.fs->b∉ch->s.heap.get? b=some o->H b=none->h'.get? b=some o)
 (slot:∀ b o,b≠X.env.locals->b∈X.fs->b∉ch->s.heap.get? b=some o->H b=none->∃ sl,h'.get? b=some { o with slots:=sl }) (free:∀ b o,b∉ch->s.heap.get? b=some o->H b=none->H' b=none)
 (there:∀ b o,b∉ch->s.heap.get? b=some o->∃ o',h'.get? b=some o')
 (tups:∀ b xs,H b=some (.tup xs)->H' b=some (.tup xs)) (frzs:∀ b o u,H b=some (.frz o u)->H' b=some (.frz o u)) (tbls:∀ b ps,H b=some (.tbl ps)->∃ more,H' b=some (.tbl (ps++more)))
 (ns:∀ m,s.heap.Ns X.env.locals m->h'.Ns X.env.locals m) (hok:HOk X.prog X.w H' h') (hg:AllBare g'):
 Inv X pins σ H' { s with heap:=h',gens:=g',drawn:=d',toks:=t' }:=by
 have neL:∀ b o,X.s₀.heap.get? b=some o->b≠X.env.locals:=fun b o e=>waq (waj (wae e) I.ok.above)
 have neC:∀ b o,X.s₀.heap.get? b=some o->b∉X.ex->b∉ch:=fun b o e hx hb=>by
  rcases(hch b hb).1 with z|z
  · exact hx z
  · exact absurd (waj (wae e) z) (waM _)
 have cellK:∀ x c,X.env.cells.lookup x=some c->∀ v,s.heap.IsCell c v->h'.IsCell c v:=fun x c e v ⟨o,ho,hd⟩=>by
  have nch:c∉ch:=fun z=>(hch c z).2.2.1 x c e rfl
  by_cases hc:c∈X.fs
  · obtain⟨sl,q⟩:=slot c o (I.cne x c e) hc nch ho (I.freeC x c e)
    exact⟨_,q,hd⟩
  · exact⟨o,keep c o (I.cne x c e) hc nch ho (I.freeC x c e),hd⟩
 refine⟨I.ok,I.os,hg,⟨fun b o e n hb hx=>?_,fun b o e n hb hx=>?_,fun b o e n hx=>?_,fun b o e hx=>?_,fun b xs e=>tups b xs (I.base.tups b xs e),fun b o xs e=>frzs b o xs (I.base.frzs b o xs e),fun b ps e=>?_⟩,?_,fun x c e=>?_,?_,fun x c e=>?_,fun p hp=>?_,hok,I.len⟩
 · exact keep b o (neL b o e) hb (neC b o e hx) (I.base.keep b o e n hb hx) (I.base.free b o e n hx)
 · obtain⟨sl,e1⟩:=I.base.slot b o e n hb hx
   obtain⟨sl',e2⟩:=slot b _ (neL b o e) hb (neC b o e hx) e1 (I.base.free b o e n hx);exact⟨sl',e2⟩
 · obtain⟨o',e1⟩:=I.base.there b o e hx
   exact free b o' (neC b o e hx) e1 (I.base.free b o e n hx)
 · obtain⟨o',e1⟩:=I.base.there b o e hx
   exact there b o' (neC b o e hx) e1
 · obtain⟨m1,e1⟩:=I.base.tbls b ps e
   obtain⟨m2,e2⟩:=tbls b _ e1;exact⟨m1++m2,by rw[e2,Array.append_assoc]⟩
 · obtain⟨m,hn,hl⟩:=I.loc
   refine⟨m,ns m hn,fun i x v e1 e2 e3=>?_⟩
   obtain⟨u,r,l⟩:=hl i x v e1 e2 e3;refine⟨u,r,?_⟩;rcases l with l|⟨k,c,e,z⟩
   · exact .inl l
   · exact .inr ⟨k,c,e,cellK x c e _ z⟩
 · obtain⟨v,z⟩:=I.cell x c e
   exact⟨v,cellK x c e v z⟩
 · obtain⟨m,⟨o,_,_,ho,_⟩,_⟩:=I.loc
   exact free _ o (fun z=>(hch _ z).2.1 rfl) ho I.free
 · obtain⟨v,o,ho,hd⟩:=I.cell x c e
   exact free c o (fun z=>(hch c z).2.2.1 x c e rfl) ho (I.freeC x c e)
 · obtain⟨e,n,ne,nf,d⟩:=I.pin p hp
   have nch:p.1∉ch:=fun z=>(hch p.1 z).2.2.2 p hp rfl
   exact⟨keep p.1 p.2 ne nf nch e n,free p.1 p.2 nch e n,ne,nf,d⟩
theorem Inv.un{t':Nat}(I:Inv X pins σ H s)(u:Un X.fs [] H H' s.heap h')(hok:HOk X.prog X.w H' h'):Inv X pins σ H' { s with heap:=h',toks:=t' }:=by
 obtain⟨m,⟨o,es,ep,ho,r⟩,_⟩:=id I.loc;obtain⟨sl,hL⟩:=u.any ho I.free (by simp)
 exact I.step (g':=s.gens) (d':=s.drawn) (ch:=[]) (fun _ z=>nomatch z) (fun b o _ hb _ e n=>u.keep b o e n hb (by simp)) (fun b o _ hb _ e n=>u.slot b o e n hb (by simp)) (fun b o _ e n=>u.free b o e n (by simp)) (fun b o _ e=>u.there b o e (by simp)) u.tups u.frzs u.tbls (fun m' hm=>by
  obtain⟨o',es',ep',ho',r'⟩:=hm;rw[ho]at ho';cases ho';exact⟨_,es',ep',hL,r'⟩) hok I.bare
theorem Inv.call{g':Array GenState}{t':Nat}{d':Drawn}{ch:List Addr}(I:Inv X pins σ H s)(u:Un (frs X.stack) ch H H' s.heap h')(hok:HOk X.prog X.w H' h')(hg:AllBare g')
 (hch:∀ b∈ch,(b∈X.ex∨X.s₀.heap.objs.size<=b)/\b≠X.env.locals/\(∀ x c,X.env.cells.lookup x=some c->c≠b)/\∀ p∈X.pn++pins,p.1≠b):
 Inv X pins σ H' { s with heap:=h',gens:=g',drawn:=d',toks:=t' }:=by
 obtain⟨m,⟨o,es,ep,ho,r⟩,_⟩:=id I.loc;obtain⟨sl,hL⟩:=u.any ho I.free fun z=>(hch _ z).2.1 rfl
 exact I.step (ch:=ch) hch (fun b o hL hb hc e n=>u.keep b o e n (fun z=>(was.mp (I.stkSub b z)).elim hL hb) hc) (fun b o _ _ hc e n=>u.any e n hc) (fun b o hc e n=>u.free b o e n hc) (fun b o hc e=>u.there b o e hc) u.tups u.frzs u.tbls (fun m' hm=>by
  obtain⟨o',es',ep',ho',r'⟩:=hm;rw[ho]at ho';cases ho';exact⟨_,es',ep',hL,r'⟩) hok hg
theorem Inv.turned{t':Nat}{it:Addr}(I:Inv X pins σ H s)(k:∀ b o,b≠it->s.heap.get? b=some o->h'.get? b=some o)(hn:H it=none)(hL:it≠X.env.locals)
 (h1:it∈X.ex∨X.s₀.heap.objs.size<=it) (h2:∀ x c,X.env.cells.lookup x=some c->c≠it) (h3:∀ p∈X.pn++pins,p.1≠it):Inv X pins σ H { s with heap:=h',toks:=t' }:=by
 have nit:∀ b u,H b=some u->b≠it:=fun b u e z=>by rw[z,hn]at e;cases e
 refine I.step (g':=s.gens) (d':=s.drawn) (ch:=[it]) (fun b hb=>?_) (fun b o _ _ hc e _=>k b o (fun z=>hc (by simp[z])) e) (fun b o _ _ hc e _=>⟨o.slots,k b o (fun z=>hc (by simp[z])) e⟩) (fun _ _ _ _ n=>n)
  (fun b o hc e=>⟨o,k b o (fun z=>hc (by simp[z])) e⟩) (fun _ _ e=>e) (fun _ _ _ e=>e) (fun b ps e=>⟨#[],by rw[e];simp⟩) (fun m hm=>?_) (fun b u e=>?_) I.bare
 · have e:b=it:=by simpa using hb
   subst e;exact⟨h1,hL,h2,h3⟩
 · obtain⟨o,es,ep,ho,r⟩:=hm
   exact⟨o,es,ep,k _ o (Ne.symm hL) ho,r⟩
 · refine(I.hok b u e).stay (fun c v hc q=>k c v ?_ q) (fun _ q=>q) fun _ _ q=>q
   rcases hc with z|z
   · rw[z];exact nit b u e
   · exact nit c _ z
theorem Inv.tok(I:Inv X pins σ H s)(t:Nat):Inv X pins σ H { s with toks:=t }:=I.un (h':=s.heap) (t':=t) Un.refl I.hok
theorem Inv.kept{t':Nat}(I:Inv X pins σ H s)(k:∀ b u,s.heap.get? b=some u->h'.get? b=some u):Inv X pins σ H { s with heap:=h',toks:=t' }:=I.un (Un.kept k) (I.hok.kept k)
theorem Inv.laid{a:Addr}{o:HO}{t':Nat}(I:Inv X pins σ H s)(k:∀ b u,s.heap.get? b=some u->h'.get? b=some u)(hp:s.heap.objs.size<=a)(new:ObjOk X.prog X.w (upd H a o) h' a o):
 Inv X pins σ (upd H a o) { s with heap:=h',toks:=t' }:=I.un (Un.laid k hp (I.hok.fresh hp)) (I.hok.laid k hp new)
theorem Inv.write{x e:Addr}{o:HO}{t':Nat}(I:Inv X pins σ H s)(mu:Mut (H x))(he:e=x∨H e=some (.own x))(k:∀ b u,b≠e->s.heap.get? b=some u->h'.get? b=some u)(heo:∃ u,h'.get? e=some u)
 (new:ObjOk X.prog X.w (upd H x o) h' x o):Inv X pins σ (upd H x o) { s with heap:=h',toks:=t' }:=I.un (Un.write mu he k heo) (I.hok.write mu he k heo new)
theorem Inv.pins_of{pins':List (Addr×Obj)}(I:Inv X pins σ H s)(h:∀ p∈pins',s.heap.get? p.1=some p.2/\H p.1=none/\p.1≠X.env.locals/\p.1∉X.fs/\∀ v,p.2.data≠.cell v):Inv X pins' σ H s:=
 ⟨I.ok,I.os,I.bare,I.base,I.loc,I.cell,I.free,I.freeC,fun p hp=>(wax.mp hp).elim (fun z=>I.pin p (List.mem_append_left _ z)) (h p),I.hok,I.len⟩
theorem qjk{N:List Str}(hN:N.Nodup){i j:Nat}{x:Str}(a:N[i]? =some x)(b:N[j]? =some x):i=j:=by
 obtain⟨h1,e1⟩:=List.getElem?_eq_some_iff.mp a;obtain⟨h2,e2⟩:=List.getElem?_eq_some_iff.mp b;exact(List.getElem_inj hN).mp (e1.trans e2.symm)
theorem qgh{M:Model}{A:Around}{E:Value->Shared->Prop}{i:Nat}{x:Str}{v:V}{u:Value}{Q:Unit->Shared->Prop}(I:Inv X pins σ H s)(hN:X.N.Nodup)(hi:X.N[i]? =some x)(hx:Loc X.env.scope x)(r:RelV v u)
 (h:∀ s',Inv X pins (σ.set i (some v)) H s'->(∃ a,Heap.SameBut a s.heap s'.heap/\(a=X.env.locals∨X.env.cells.lookup x=some a))->Q () s') (hf:X.fn x=true∨X.env.scope.names.lookup x=some .local:=by first|exact .inl rfl|exact .inr rfl|assumption):wpAny M A (storeName X.env x u) Q E s:=by
 obtain⟨m,hn,hl⟩:=id I.loc;have hcls:(X.env.scope.kind== .class||(X.env.scope.kind== .module&&X.env.locals != X.env.globals))=false:=by rw[I.ok.kind];rfl
 have hiσ:i<σ.length:=by rw[I.len];exact(List.getElem?_eq_some_iff.mp hi).1
 have cne:=I.cne;have tracked:∀ {a:Addr} {h':Heap},(∃ o,s.heap.get? a=some o/\H a=none)->Heap.SameBut a s.heap h'->HOk X.prog X.w H h':=fun {a h'} ha hs b ob e=>by
  obtain⟨_,_,hfree⟩:=ha;refine(I.hok b ob e).stay (fun c w' hc q=>(hs.2 c ?_).trans q) (fun _ q=>q) fun _ _ q=>q
  rintro rfl;rcases hc with rfl|hc
  · rw[hfree]at e;cases e
  · rw[hfree]at hc;cases hc
 rcases hx with hk|hk
 · refine wpAny_storeName_local hk hn (fun h' hn' hs=>?_) hcls
   obtain⟨oL,_,_,hoL,_⟩:=id hn;refine h _ ⟨I.ok,I.os,I.bare,⟨fun b o e n hb hx=>?_,fun b o e n hb hx=>?_,I.base.free,fun b o e hx=>?_,I.base.tups,I.base.frzs,I.base.tbls⟩,⟨_,hn',fun j y v' e1 e2 e3=>?_⟩,fun y c e=>?_,I.free,I.freeC,fun p hp=>?_,tracked ⟨oL,hoL,I.free⟩ hs,by simpa using I.len⟩ ⟨_,hs,.inl rfl⟩
   · exact(hs.2 b (waq (waj (wae e) I.ok.above))).trans (I.base.keep b o e n hb hx)
   · obtain⟨sl,e1⟩:=I.base.slot b o e n hb hx
     exact⟨sl,(hs.2 b (waq (waj (wae e) I.ok.above))).trans e1⟩
   · obtain⟨o',e1⟩:=I.base.there b o e hx
     exact⟨o',(hs.2 b (waq (waj (wae e) I.ok.above))).trans e1⟩
   · by_cases hj:j=i
     · subst hj
       rw[hi]at e1;cases e1;rw[List.getElem?_set_self hiσ]at e2;cases e2;exact⟨u,r,.inl ⟨hk,by simp⟩⟩
     · rw[List.getElem?_set_ne (Ne.symm hj)]at e2
       obtain⟨u',r',q⟩:=hl j y v' e1 e2 e3;refine⟨u',r',?_⟩;rcases q with⟨k,e⟩|⟨k,c,e,z⟩
       · refine .inl ⟨k,?_⟩
         have:y≠x:=fun e=>hj (qjk hN e1 (e ▸ hi))
         simp[this,e]
       · exact .inr ⟨k,c,e,z.sameBut hs (cne y c e)⟩
   · obtain⟨w',z⟩:=I.cell y c e
     exact⟨w',z.sameBut hs (cne y c e)⟩
   · obtain⟨e,n,ne,nf,d⟩:=I.pin p hp
     exact⟨(hs.2 p.1 ne).trans e,n,ne,nf,d⟩
 · have hfn:X.fn x=true:=by
    rcases hf with z|z
    · exact z
    · rw[z]at hk;cases hk
   obtain⟨c,hc⟩:=I.ok.has x (.inl hk);obtain⟨w',z⟩:=I.cell x c hc;refine wpAny_storeName_cell I.ok.kind hk hc z (fun h' hc' hs=>?_)
   obtain⟨oc,hoc,hocd⟩:=id z;refine h { s with heap:=h' } ⟨I.ok,I.os,I.bare,⟨fun b o e n hb hx=>?_,fun b o e n hb hx=>?_,I.base.free,fun b o e hx=>?_,I.base.tups,I.base.frzs,I.base.tbls⟩,⟨m,hn.sameBut hs (Ne.symm (cne x c hc)),fun j y v' e1 e2 e3=>?_⟩,fun y c' e=>?_,I.free,I.freeC,fun p hp=>?_,tracked ⟨oc,hoc,I.freeC x c hc⟩ hs,by simpa using I.len⟩ ⟨c,hs,.inr hc⟩
   · exact(hs.2 b (waq (waj (wae e) (I.ok.cab x c hfn hc)))).trans (I.base.keep b o e n hb hx)
   · obtain⟨sl,e1⟩:=I.base.slot b o e n hb hx
     exact⟨sl,(hs.2 b (waq (waj (wae e) (I.ok.cab x c hfn hc)))).trans e1⟩
   · obtain⟨o',e1⟩:=I.base.there b o e hx
     exact⟨o',(hs.2 b (waq (waj (wae e) (I.ok.cab x c hfn hc)))).trans e1⟩
   · by_cases hj:j=i
     · subst hj
       rw[hi]at e1;cases e1;rw[List.getElem?_set_self hiσ]at e2;cases e2;exact⟨u,r,.inr ⟨.inl hk,c,hc,hc'⟩⟩
     · rw[List.getElem?_set_ne (Ne.symm hj)]at e2
       obtain⟨u',r',q⟩:=hl j y v' e1 e2 e3;refine⟨u',r',?_⟩;rcases q with q|⟨k,c',e,z'⟩
       · exact .inl q
       · refine .inr ⟨k,c',e,z'.sameBut hs ?_⟩
         rintro rfl;exact hj (qjk hN e1 (I.ok.inj _ _ _ e hc ▸ hi))
   · by_cases hcc:c'=c
     · subst hcc;exact⟨_,hc'⟩
     · obtain⟨w2,z2⟩:=I.cell y c' e
       exact⟨w2,z2.sameBut hs hcc⟩
   · obtain⟨e,n,ne,nf,d⟩:=I.pin p hp
     refine⟨(hs.2 p.1 ?_).trans e,n,ne,nf,d⟩;intro q;rw[q,hoc]at e;have q':oc=p.2:=Option.some.inj e;exact d w' (by rw[<-q'];exact hocd)
theorem qdO{M:Model}{A:Around}{E:Value->Shared->Prop}{i:Nat}{x:Str}{v:V}{u:Value}{Q:Unit->Shared->Prop}(I:Inv X pins σ H s)(hN:X.N.Nodup)(hi:X.N[i]? =some x)(hx:Loc X.env.scope x)(r:RelV v u)
 (h:∀ s',Inv X pins (σ.set i (some v)) H s'->Q () s') (hf:X.fn x=true∨X.env.scope.names.lookup x=some .local:=by first|exact .inl rfl|exact .inr rfl|assumption):wpAny M A (storeName X.env x u) Q E s:=
 qgh I hN hi hx r (fun s' I' _=>h s' I') hf
theorem Inv.call'{s':Shared}{ch:List Addr}(I:Inv X pins σ H s)(ho:s'.os=s.os)(u:Un (frs X.stack) ch H H' s.heap s'.heap)(hok:HOk X.prog X.w H' s'.heap)(hg:AllBare s'.gens)
 (hch:∀ b∈ch,(b∈X.ex∨X.s₀.heap.objs.size<=b)/\b≠X.env.locals/\(∀ x c,X.env.cells.lookup x=some c->c≠b)/\∀ p∈X.pn++pins,p.1≠b):Inv X pins σ H' s':=by
 obtain⟨h',g',d',t',o'⟩:=s';have e:o'=s.os:=ho;subst e;exact I.call (g':=g') (t':=t') (d':=d') u hok hg hch
end
abbrev XK:=Value->Option Addr->Hp->Prop
abbrev St:=List (Option V)
abbrev VK:=V->Hp->Prop
abbrev TE:=St->Hp->VK->Prop
abbrev TT:=St->Hp->(Bool->Hp->Prop)->Prop
abbrev TA:=St->Hp->(List V->Hp->Prop)->Prop
structure Ends where
 nx:St->Hp->Prop
 rt:VK
 bk:St->Hp->Prop:=fun _ _=>False
 ct:St->Hp->Prop:=fun _ _=>False
abbrev TS:=Ends->St->Hp->Prop
def EP(X:Cx)(pins:List (Addr×Obj))(σ:St)(Q:VK)(u:Value)(s':Shared):Prop:=∃ v H',Inv X pins σ H' s'/\RelV v u/\Q v H'
def TP(X:Cx)(pins:List (Addr×Obj))(σ:St)(Q:Bool->Hp->Prop)(b:Bool)(s':Shared):Prop:=∃ H',Inv X pins σ H' s'/\Q b H'
def AP(X:Cx)(pins:List (Addr×Obj))(σ:St)(Q:List V->Hp->Prop)(us:List Value)(s':Shared):Prop:=∃ vs H',Inv X pins σ H' s'/\Vals vs us/\Q vs H'
def SP(X:Cx)(pins:List (Addr×Obj))(D:Ends)(f:Flow)(s':Shared):Prop:=
 match f with
 | .next=>∃ σ' H',Inv X pins σ' H' s'/\D.nx σ' H'
 | .brk=>∃ σ' H',Inv X pins σ' H' s'/\D.bk σ' H'
 | .cont=>∃ σ' H',Inv X pins σ' H' s'/\D.ct σ' H'
 | .ret u=>∃ v σ' H',Inv X pins σ' H' s'/\RelV v u/\D.rt v H'
def PE(X:Cx)(e:Expr)(t:TE):Prop:=
 ∀ (pins:List (Addr×Obj)) (s:Shared) (σ:St) (H:Hp) (Q:VK),Inv X pins σ H s->t σ H Q->wpAny (model X.prog X.w) X.A (eval e X.env) (EP X pins σ Q) X.xe s
def PT(X:Cx)(e:Expr)(t:TT):Prop:=
 ∀ (pins:List (Addr×Obj)) (s:Shared) (σ:St) (H:Hp) (Q:Bool->Hp->Prop),Inv X pins σ H s->t σ H Q->wpAny (model X.prog X.w) X.A (isTrue e X.env (eval e X.env)) (TP X pins σ Q) X.xe s
def PW(X:Cx)(e:Expr)(t:TT):Prop:=
 ∀ (whole:Sem Value) (pins:List (Addr×Obj)) (s:Shared) (σ:St) (H:Hp) (Q:Bool->Hp->Prop),Inv X pins σ H s->t σ H Q->wpAny (model X.prog X.w) X.A (isTrue e X.env whole) (TP X pins σ Q) X.xe s
theorem PW.pt{X:Cx}{e:Expr}{t:TT}(h:PW X e t):PT X e t:=h _
def PA(X:Cx)(es:List Expr)(t:TA):Prop:=
 ∀ (pos:Pos) (pins:List (Addr×Obj)) (s:Shared) (σ:St) (H:Hp) (Q:List V->Hp->Prop),Inv X pins σ H s->t σ H Q->wpAny (model X.prog X.w) X.A (spliced (backTo pos (starEach es X.env))) (AP X pins σ Q) X.xe s
def PS(X:Cx)(st:Stmt)(t:TS):Prop:=
 ∀ (pins:List (Addr×Obj)) (s:Shared) (σ:St) (H:Hp) (D:Ends),Inv X pins σ H s->t D σ H->wpAny (model X.prog X.w) X.A (exec st X.env) (SP X pins D) X.xe s
def PSs(X:Cx)(st:List Stmt)(t:TS):Prop:=
 ∀ (pins:List (Addr×Obj)) (s:Shared) (σ:St) (H:Hp) (D:Ends),Inv X pins σ H s->t D σ H->wpAny (model X.prog X.w) X.A (execs st X.env) (SP X pins D) X.xe s
theorem thn{α:Type}{t:Sem α}{Q Q':α->Shared->Prop}{M:Model}{A:Around}{E:Value->Shared->Prop}{s:Shared}(h:wpAny M A t Q E s)(hQ:∀ a s,Q a s->Q' a s):wpAny M A t Q' E s:=wpAny_mono h hQ fun _ _ x=>x
section
variable {X:Cx}
def qCn(i:Nat):TE:=fun σ H Q=>∃ v,σ[i]? =some (some v)/\Q v H
def tC(v:V):TE:=fun _ H Q=>Q v H
theorem qtG{i:Nat}{x:Str}{pos:Pos}(hN:X.N[i]? =some x)(hv:Vis X.env.scope x)(hd:(x==("__debug__":Str))=false:=by decide)(hcd:(x==("__classdict__":Str))=false:=by decide):PE X (.Name x pos) (qCn i):=by
 intro pins s σ H Q I h;obtain⟨v,e,h⟩:=h;obtain⟨m,hn,hl⟩:=I.loc;obtain⟨u,r,l⟩:=hl i x v hN e hv;have fin:EP X pins σ Q u s:=⟨v,H,I,r,h⟩;rcases l with⟨hk,hm⟩|⟨hk,c,hc,hcell⟩
 · exact wpAny_Name (wpAny_loadName_local I.ok.kind hk hn hm fin) hd
 · rcases hk with hk|hk
   · exact wpAny_Name (wpAny_loadName_cell I.ok.kind hk hc hcell fin) hd
   · exact wpAny_Name (wpAny_loadName_free I.ok.kind hk hc hcell fin hcd) hd
theorem qpk{i j pos}:PE X (.Constant (.int i) j pos) (tC (.int i)):=fun _ _ _ H _ I h=>wpAny_Constant_int ⟨.int i,H,I.tok _,⟨_,rfl⟩,h⟩
theorem qxa{b j pos}:PE X (.Constant (.bool b) j pos) (tC (.bl b)):=fun _ _ _ H _ I h=>Constant_bool ⟨.bl b,H,I,rfl,h⟩
theorem qtK{j pos}:PE X (.Constant .none j pos) (tC .non):=fun _ _ _ H _ I h=>Constant_none ⟨.non,H,I,rfl,h⟩
theorem qpi{x j pos}:PE X (.Constant (.str x) j pos) (tC (.str x)):=fun _ _ _ H _ I h=>Calls.Constant_str ⟨.str x,H,I.tok _,⟨_,rfl⟩,h⟩
def Gl(X:Cx)(x:Str):Prop:=X.env.kindOf x=some .globalImplicit
theorem qci{E:Value->Shared->Prop}{pins:List (Addr×Obj)}{s:Shared}{σ:St}{H:Hp}{x:Str}{u:Value}{pos:Pos}{Q:Value->Shared->Prop}(I:Inv X pins σ H s)(hg:Gl X x)(hm:X.mg x=some u)(h:Q u s)
 (hd:(x==("__debug__":Str))=false:=by decide):wpAny (model X.prog X.w) X.A (eval (.Name x pos) X.env) Q E s:=
 Calls.Name_function_global I.ok.kind hg (Calls.loadGlobal_global (by rw[I.ok.glob];exact I.mod.glob.keeps I.bk) hm h) hd
theorem qdh{E:Value->Shared->Prop}{pins:List (Addr×Obj)}{s:Shared}{σ:St}{H:Hp}{x:Str}{u:Value}{pos:Pos}{Q:Value->Shared->Prop}(I:Inv X pins σ H s)(hg:Gl X x)(hm:X.mg x=none)(hv:bootBuiltins x=some u)(h:Q u s)
 (hn:x≠"__name__":=by decide) (hd:(x==("__debug__":Str))=false:=by decide):wpAny (model X.prog X.w) X.A (eval (.Name x pos) X.env) Q E s:=by
 obtain⟨mb,h1,h2⟩:=I.mod.blt;exact Calls.Name_function_global I.ok.kind hg (Calls.loadGlobal_builtin (by rw[I.ok.glob];exact I.mod.glob.keeps I.bk) hm (by rw[I.ok.blt];exact h1.keeps I.bk) ((h2 x hn).trans hv) h) hd
theorem qqK{x:Str}{v:V}{u:Value}{pos:Pos}(hg:Gl X x)(hm:X.mg x=some u)(r:RelV v u)(hd:(x==("__debug__":Str))=false:=by decide):PE X (.Name x pos) (tC v):=
 fun _ _ _ H _ I h=>qci I hg hm ⟨v,H,I,r,h⟩ hd
theorem qqN{x:Str}{v:V}{u:Value}{pos:Pos}(hg:Gl X x)(hm:X.mg x=none)(hv:bootBuiltins x=some u)(r:RelV v u)(hn:x≠"__name__":=by decide)(hd:(x==("__debug__":Str))=false:=by decide):PE X (.Name x pos) (tC v):=
 fun _ _ _ H _ I h=>qdh I hg hm hv ⟨v,H,I,r,h⟩ hn hd
variable {a b:Expr}{ta tb:TE}{pos:Pos}
def PC(X:Cx)(op:CmpOp)(a b:Expr)(t:TE):Prop:=
 ∀ (pins:List (Addr×Obj)) (s:Shared) (σ:St) (H:Hp) (Q:VK),Inv X pins σ H s->t σ H Q->
  wpAny (model X.prog X.w) X.A (eval a X.env) (fun v s₁=>wpAny (model X.prog X.w) X.A (eval b X.env) (fun u s₂=>wpAny (model X.prog X.w) X.A (compareOp op v u) (EP X pins σ Q) X.xe s₂) X.xe s₁) X.xe s
theorem qjl(b:Expr){op:CmpOp}(h:op≠.In)(h2:op≠.NotIn):behindInMarks op b=false:=by
 have e1:(op==CmpOp.In)=false:=by cases op<;>first|rfl|exact absurd rfl h
 have e2:(op==CmpOp.NotIn)=false:=by cases op<;>first|rfl|exact absurd rfl h2
 cases b<;>simp[behindInMarks,e1,e2]
def tB(t:TE):TT:=fun σ H Q=>t σ H fun x H1=>∃ c,x= .bl c/\Q c H1
theorem qpl{op:CmpOp}{t:TE}(h:PC X op a b t)(h1:behindInMarks op b=false:=by first|exact qjl _ (by decide) (by decide)|rfl):PE X (.Compare a [op] [b] pos) t:=fun pins s σ H Q I hw=>wpAny_Compare1 (h pins s σ H Q I hw) h1
theorem qlA{op:CmpOp}{t:TE}(h:PC X op a b t)(h1:behindInMarks op b=false:=by first|exact qjl _ (by decide) (by decide)|rfl):PT X (.Compare a [op] [b] pos) (tB t):=by
 intro pins s σ H Q I hw;refine wpAny_isTrue_Compare1 (thn (h pins s σ H _ I hw) fun v s1 h1=>thn h1 fun u s2 h2=>thn h2 fun c s3 ⟨x,H1,I1,r1,q1⟩=>?_) h1
 obtain⟨d,rfl,q⟩:=q1;cases r1;exact wpAny_truthy_bool ⟨H1,I1,q⟩
theorem qtt{e:Expr}{t:TE}(h:PE X e t)(he:∀ whole,isTrue e X.env whole=(do let v<-whole;standAt e.pos;holding [v] (truthy v)):=by intro _;rfl):PT X e (tB t):=by
 intro pins s σ H Q I hw;refine isTrue_plain (thn (h pins s σ H _ I hw) fun v s1 ⟨x,H1,I1,r1,q1⟩=>?_) (he _)
 obtain⟨d,rfl,q⟩:=q1;cases r1;exact wpAny_truthy_bool ⟨H1,I1,q⟩
variable {tA tB':TT}{rest:List Expr}
def qCz(t u:TT):TT:=fun σ H Q=>t σ H fun c H1=>if c=true then u σ H1 Q else Q false H1
def tOr(t u:TT):TT:=fun σ H Q=>t σ H fun c H1=>if c=true then Q true H1 else u σ H1 Q
def qCt(t:TT):TT:=fun σ H Q=>t σ H fun c H1=>Q (!c) H1
theorem qqy(ha:PT X a tA):PW X (.BoolOp .And [a] pos) tA:=by
 intro wh pins s σ H Q I h;refine isTrue_and (thn (ha pins s σ H Q I h) fun c s1 e=>?_)
 cases c with
 |true=>exact isTrue_and_nil e
 |false=>exact e
theorem qtr(ha:PT X a tA):PW X (.BoolOp .Or [a] pos) tA:=by
 intro wh pins s σ H Q I h;refine isTrue_or (thn (ha pins s σ H Q I h) fun c s1 e=>?_)
 cases c with
 |false=>exact isTrue_or_nil e
 |true=>exact e
theorem qts(ha:PT X a tA)(hb:PW X (.BoolOp .And (b::rest) pos) tB'):PW X (.BoolOp .And (a::b::rest) pos) (qCz tA tB'):=by
 intro wh pins s σ H Q I h;refine isTrue_and (thn (ha pins s σ H _ I h) fun c s1 ⟨H1,I1,q1⟩=>?_)
 cases c with
 |true=>exact hb wh pins s1 σ H1 Q I1 q1
 |false=>exact⟨H1,I1,q1⟩
theorem qw0(ha:PT X a tA)(hb:PW X (.BoolOp .Or (b::rest) pos) tB'):PW X (.BoolOp .Or (a::b::rest) pos) (tOr tA tB'):=by
 intro wh pins s σ H Q I h;refine isTrue_or (thn (ha pins s σ H _ I h) fun c s1 ⟨H1,I1,q1⟩=>?_)
 cases c with
 |true=>exact⟨H1,I1,q1⟩
 |false=>exact hb wh pins s1 σ H1 Q I1 q1
theorem qtu(ha:PT X a tA):PT X (.UnaryOp .Not a pos) (qCt tA):=by
 intro pins s σ H Q I h;exact isTrue_not (ha pins s σ H (fun c H1=>Q (!c) H1) I h)
def qwc(ta tb:TE):TE:=fun σ H Q=>ta σ H fun x H1=>∃ c,x= .bl c/\if c=true then tb σ H1 Q else Q (.bl false) H1
def qCs(ta tb:TE):TE:=fun σ H Q=>ta σ H fun x H1=>∃ c,x= .bl c/\if c=true then Q (.bl true) H1 else tb σ H1 Q
def qv2(ta:TE):TE:=fun σ H Q=>ta σ H fun x H1=>∃ c,x= .bl c/\Q (.bl (!c)) H1
theorem qtI{op}{t:TE}(h:PE X a t):PE X (.BoolOp op [a] pos) t:=fun pins s σ H Q I hw=>BoolOp_one (h pins s σ H Q I hw)
theorem qtM(ha:PE X a ta)(hb:PE X (.BoolOp .And (b::rest) pos) tb):PE X (.BoolOp .And (a::b::rest) pos) (qwc ta tb):=by
 intro pins s σ H Q I h;refine BoolOp_and (thn (ha pins s σ H _ I h) fun v s1 ⟨x,H1,I1,r1,q1⟩=>?_)
 obtain⟨c,rfl,q1⟩:=q1;cases r1;refine wpAny_truthy_bool ?_;cases c with
 |true=>exact hb pins s1 σ H1 Q I1 q1
 |false=>exact⟨.bl false,H1,I1,rfl,q1⟩
theorem qw6(ha:PE X a ta)(hb:PE X (.BoolOp .Or (b::rest) pos) tb):PE X (.BoolOp .Or (a::b::rest) pos) (qCs ta tb):=by
 intro pins s σ H Q I h;refine BoolOp_or (thn (ha pins s σ H _ I h) fun v s1 ⟨x,H1,I1,r1,q1⟩=>?_)
 obtain⟨c,rfl,q1⟩:=q1;cases r1;refine wpAny_truthy_bool ?_;cases c with
 |false=>exact hb pins s1 σ H1 Q I1 q1
 |true=>exact⟨.bl true,H1,I1,rfl,q1⟩
theorem qtJ(ha:PE X a ta):PE X (.UnaryOp .Not a pos) (qv2 ta):=by
 intro pins s σ H Q I h;refine UnaryOp_ (thn (ha pins s σ H _ I h) fun v s1 ⟨x,H1,I1,r1,q1⟩=>?_)
 obtain⟨c,rfl,q1⟩:=q1;cases r1;exact not_of (wpAny_truthy_bool ⟨.bl (!c),H1,I1,rfl,q1⟩)
def tIf(t:TT)(ta tb:TE):TE:=fun σ H Q=>t σ H fun c H1=>if c=true then ta σ H1 Q else tb σ H1 Q
theorem qn2{c:Expr}(hc:PT X c tA)(ha:PE X a ta)(hb:PE X b tb):PE X (.IfExp c a b pos) (tIf tA ta tb):=by
 intro pins s σ H Q I h;refine wpAny_IfExp (thn (hc pins s σ H _ I h) fun d s1 ⟨H1,I1,q1⟩=>?_)
 cases d with
 |true=>exact ha pins s1 σ H1 Q I1 q1
 |false=>exact hb pins s1 σ H1 Q I1 q1
end
def SqL(K:Frg)(H:Hp)(a:Addr)(xs:List V):Prop:=
 Rd H a (.lst xs)∨
  ∃ (o:Obj) (its:Array Value) (n:Nat),K.lookup a=some o/\o.cls= .type "list"/\o.dict=none/\o.data= .seq its n/\its.size<=sizeLine/\Vals xs its.toList
def SqT(K:Frg)(H:Hp)(a:Addr)(xs:List V):Prop:=
 Rd H a (.tup xs)∨
  ∃ (o:Obj) (its:Array Value) (n:Nat),K.lookup a=some o/\o.cls= .type "tuple"/\o.data= .seq its n/\its.size<=sizeLine/\Vals xs its.toList
noncomputable def qDV:Value->Option V
 | .none=>some .non
 | .bool b=>some (.bl b)
 | .int i _=>some (.int i)
 | .str x _=>some (.str x)
 | .bytes b _=>some (.byt b)
 | .float b _=>some (.flt b)
 | .ref a=>some (.ref a)
 | .type n=>some (.ty n)
 |_=>none
theorem RelV.abs{x:V}{u:Value}(r:RelV x u):qDV u=some x:=by
 cases x with
 |non=>cases r;rfl
 |bl _=>cases r;rfl
 |int _=>obtain⟨t,rfl⟩:=r;rfl
 |str _=>obtain⟨t,rfl⟩:=r;rfl
 |byt _=>obtain⟨t,rfl⟩:=r;rfl
 |flt _=>obtain⟨t,rfl⟩:=r;rfl
 |ref _=>cases r;rfl
 |ty _=>cases r;rfl
theorem RelV.inj{x y:V}{u:Value}(r:RelV x u)(q:RelV y u):x=y:=Option.some.inj (r.abs.symm.trans q.abs)
theorem Vals.inj:∀ {xs ys:List V} {us:List Value},Vals xs us->Vals ys us->xs=ys
 |_,_,_,.nil,.nil=>rfl
 |_,_,_,.cons r t,.cons r' t'=>by rw[r.inj r',Vals.inj t t']
section
variable {X:Cx}{pins:List (Addr×Obj)}{σ:St}{H:Hp}{s:Shared}{a:Addr}{xs ys:List V}
theorem SqL.of{K:Frg}(h:H a=some (.lst xs)):SqL K H a xs:=.inl (.inl h)
theorem SqT.of{K:Frg}(h:H a=some (.tup xs)):SqT K H a xs:=.inl (.inl h)
theorem Inv.list(I:Inv X pins σ H s)(h:SqL X.K H a xs):∃ its:List Value,Vals xs its/\PlainL s.heap a its.toArray/\xs.length<=sizeLine:=by
 rcases h with h|⟨o,its,n,hk,hc,hd,hs,hz,r⟩
 · obtain⟨z,its,n,r,e⟩:=h.ok I.hok
   exact⟨its,r,⟨_,n,e,rfl,rfl,rfl⟩,z⟩
 · refine⟨its.toList,r,⟨o,n,I.kIn a o hk,hc,hd,by simpa using hs⟩,?_⟩
   have e:=r.length;simp only[Array.length_toList]at e;omega
theorem Inv.tuple(I:Inv X pins σ H s)(h:SqT X.K H a xs):∃ its:List Value,Vals xs its/\IsTup s.heap a its.toArray/\xs.length<=sizeLine:=by
 rcases h with h|⟨o,its,n,hk,hc,hs,hz,r⟩
 · obtain⟨z,its,r,p⟩:=h.ok I.hok
   exact⟨its,r,p,z⟩
 · refine⟨its.toList,r,⟨o,I.kIn a o hk,hc,n,by simpa using hs⟩,?_⟩
   have e:=r.length;simp only[Array.length_toList]at e;omega
theorem Inv.list_inj(I:Inv X pins σ H s)(h:SqL X.K H a xs)(h':SqL X.K H a ys):xs=ys:=by
 obtain⟨its,r,⟨o,n,e,_,_,d⟩,_⟩:=I.list h;obtain⟨its',r',⟨o',n',e',_,_,d'⟩,_⟩:=I.list h';rw[e]at e';cases e';rw[d]at d';injection d' with d1 _
 have:its=its':=by simpa using congrArg Array.toList d1
 subst this;exact r.inj r'
theorem Inv.tuple_inj(I:Inv X pins σ H s)(h:SqT X.K H a xs)(h':SqT X.K H a ys):xs=ys:=by
 obtain⟨its,r,⟨o,e,_,n,d⟩,_⟩:=I.tuple h;obtain⟨its',r',⟨o',e',_,n',d'⟩,_⟩:=I.tuple h';rw[e]at e';cases e';rw[d]at d';injection d' with d1 _
 have:its=its':=by simpa using congrArg Array.toList d1
 subst this;exact r.inj r'
end
abbrev Cx.wish(X:Cx)(E:Value->Shared->Prop):Cx:={ X with xe:=E }
abbrev Cx.nox(X:Cx):Cx:=X.wish fun _ _=>False
theorem Cx.Ok.wish{X:Cx}(ok:X.Ok)(E:Value->Shared->Prop):(X.wish E).Ok:=
 ⟨ok.mod,ok.kind,ok.glob,ok.blt,ok.above,ok.inj,ok.has,ok.cab,ok.hd,ok.frames,ok.stk,ok.exf,ok.bs,ok.bsz,ok.noex,ok.exfs,ok.funs,ok.frf⟩
theorem Cx.Ok.unwish{X:Cx}{E:Value->Shared->Prop}(ok:(X.wish E).Ok):X.Ok:=
 ⟨ok.mod,ok.kind,ok.glob,ok.blt,ok.above,ok.inj,ok.has,ok.cab,ok.hd,ok.frames,ok.stk,ok.exf,ok.bs,ok.bsz,ok.noex,ok.exfs,ok.funs,ok.frf⟩
section
variable {X:Cx}{pins:List (Addr×Obj)}{σ:St}{H:Hp}{s:Shared}{E:Value->Shared->Prop}
theorem Inv.wish(I:Inv X pins σ H s)(E:Value->Shared->Prop):Inv (X.wish E) pins σ H s:=⟨I.ok.wish E,I.os,I.bare,I.base,I.loc,I.cell,I.free,I.freeC,I.pin,I.hok,I.len⟩
theorem Inv.unwish(I:Inv (X.wish E) pins σ H s):Inv X pins σ H s:=⟨I.ok.unwish,I.os,I.bare,I.base,I.loc,I.cell,I.free,I.freeC,I.pin,I.hok,I.len⟩
theorem SP.unwish{D:Ends}{f:Flow}{s':Shared}(h:SP (X.wish E) pins D f s'):SP X pins D f s':=by
 cases f with
 |next=>obtain⟨σ',H',I,q⟩:=h;exact⟨σ',H',I.unwish,q⟩
 |brk=>obtain⟨σ',H',I,q⟩:=h;exact⟨σ',H',I.unwish,q⟩
 |cont=>obtain⟨σ',H',I,q⟩:=h;exact⟨σ',H',I.unwish,q⟩
 |ret u=>obtain⟨v,σ',H',I,r,q⟩:=h;exact⟨v,σ',H',I.unwish,r,q⟩
theorem PE.nox{e:Expr}{t:TE}(h:PE X.nox e t):PE X e t:=fun pins s σ H Q I hw=>
 wpAny_mono (h pins s σ H Q (I.wish _) hw) (fun _ _ ⟨v,H',I',r,q⟩=>⟨v,H',I'.unwish,r,q⟩) fun _ _ z=>False.elim z
theorem PT.nox{e:Expr}{t:TT}(h:PT X.nox e t):PT X e t:=fun pins s σ H Q I hw=>
 wpAny_mono (h pins s σ H Q (I.wish _) hw) (fun _ _ ⟨H',I',q⟩=>⟨H',I'.unwish,q⟩) fun _ _ z=>False.elim z
theorem PSs.nox{st:List Stmt}{t:TS}(h:PSs X.nox st t):PSs X st t:=fun pins s σ H D I hw=>
 wpAny_mono (h pins s σ H D (I.wish _) hw) (fun _ _ q=>q.unwish) fun _ _ z=>False.elim z
end
section
variable {X:Cx}{st:Stmt}{rest:List Stmt}{t u:TS}{e:Expr}{te:TE}{pos:Pos}
def qv3:TS:=fun D σ H=>D.nx σ H
def qCp(t u:TS):TS:=fun D σ H=>t { D with nx:=u D } σ H
theorem qqA:PSs X [] qv3:=fun _ _ σ H _ I h=>wpAny_execs_nil ⟨σ,H,I,h⟩
theorem qnV(h1:PS X st t)(h2:PSs X rest u):PSs X (st::rest) (qCp t u):=by
 intro pins s σ H D I h;refine wpAny_execs_cons (thn (h1 pins s σ H { D with nx:=u D } I h) fun f s1 q=>?_)
 cases f with
 |next=>
  obtain⟨σ',H',I',q⟩:=q;exact h2 pins s1 σ' H' D I' q
 |ret v=>exact q
 |brk=>exact q
 |cont=>exact q
theorem Inv.quiet{pins:List (Addr×Obj)}{σ:St}{H:Hp}{s:Shared}(I:Inv X pins σ H s):interactive X.env=false:=by simp[interactive,I.ok.kind]
def qv7(te:TE):TS:=fun D σ H=>te σ H fun _ H1=>D.nx σ H1
theorem qqB(he:PE X e te)(hs:swapsWith e none pos.line X.env=pure false:=by rfl):PS X (.Expr e pos) (qv7 te):=by
 intro pins s σ H D I h;exact wpAny_Expr_any (thn (he pins s σ H _ I h) fun v s1 ⟨x,H1,I1,r1,q1⟩=>⟨σ,H1,I1,q1⟩) I.quiet hs
def qCq(te:TE):TS:=fun D σ H=>te σ H D.rt
theorem qty(he:PE X e te):PS X (.Return (some e) pos) (qCq te):=by
 intro pins s σ H D I h;exact wpAny_Return_some (thn (he pins s σ H _ I h) fun v s1 ⟨x,H1,I1,r1,q1⟩=>⟨x,σ,H1,I1,r1,q1⟩)
def qCv(c:TT)(t u:TS):TS:=fun D σ H=>c σ H fun b H1=>if b=true then t D σ H1 else u D σ H1
theorem qw2{c:Expr}{a b:List Stmt}{tc:TT}(hc:PT X c tc)(ha:PSs X a t)(hb:PSs X b u):PS X (.If c a b pos) (qCv tc t u):=by
 intro pins s σ H D I h;refine wpAny_If (thn (hc pins s σ H _ I h) fun d s1 ⟨H1,I1,q1⟩=>?_)
 cases d with
 |true=>exact ha pins s1 σ H1 D I1 q1
 |false=>exact hb pins s1 σ H1 D I1 q1
end
abbrev TG:=V->St->Hp->(St->Hp->Prop)->Prop
abbrev TGs:=List V->St->Hp->(St->Hp->Prop)->Prop
def PG(X:Cx)(target:Expr)(t:TG):Prop:=
 ∀ (pins:List (Addr×Obj)) (s:Shared) (σ:St) (H:Hp) (v:V) (u:Value) (Q:St->Hp->Prop),Inv X pins σ H s->RelV v u->t v σ H Q->
  wpAny (model X.prog X.w) X.A (assign target X.env u) (fun _ s'=>∃ σ' H',Inv X pins σ' H' s'/\Q σ' H') X.xe s
def PGs(X:Cx)(ts:List Expr)(t:TGs):Prop:=
 ∀ (pins:List (Addr×Obj)) (s:Shared) (σ:St) (H:Hp) (vs:List V) (us:List Value) (Q:St->Hp->Prop),Inv X pins σ H s->Vals vs us->t vs σ H Q->
  wpAny (model X.prog X.w) X.A (assignInOrder ((assignEach ts X.env).map (·.2)) us) (fun _ s'=>∃ σ' H',Inv X pins σ' H' s'/\Q σ' H') X.xe s
abbrev qvN:=V->V->V->Hp->(Hp->Prop)->Prop
def qvO(X:Cx)(t:qvN):Prop:=
 ∀ (pins:List (Addr×Obj)) (s:Shared) (σ:St) (H:Hp) (o i v:V) (ov iv u:Value) (Q:Hp->Prop),Inv X pins σ H s->RelV o ov->RelV i iv->RelV v u->t o i v H Q->
  wpAny (model X.prog X.w) X.A (setItem ov iv u) (fun _ s'=>∃ H',Inv X pins σ H' s'/\Q H') X.xe s
section
variable {X:Cx}{pos:Pos}
def qrA(i:Nat):TG:=fun v σ H Q=>Q (σ.set i (some v)) H
theorem qfH{i:Nat}{x:Str}(hN:X.N.Nodup)(hi:X.N[i]? =some x)(hx:Loc X.env.scope x)(hf:X.fn x=true∨X.env.scope.names.lookup x=some .local:=by first|exact .inl rfl|exact .inr rfl|assumption):PG X (.Name x pos) (qrA i):=by
 intro pins s σ H v u Q I r h;exact wpAny_assign_Name (qdO I hN hi hx r (fun s' I'=>⟨_,H,I',h⟩) hf)
def qAQ:TGs:=fun vs σ H Q=>vs= []/\Q σ H
def quJ(t:TG)(u:TGs):TGs:=fun vs σ H Q=>∃ v r,vs=v::r/\t v σ H fun σ' H'=>u r σ' H' Q
theorem qlF:PGs X [] qAQ:=by
 intro pins s σ H vs us Q I r h;obtain⟨e,h⟩:=h;subst e;cases r;exact assignInOrder_nil ⟨σ,H,I,h⟩
theorem qje{e:Expr}{es:List Expr}{t:TG}{u:TGs}(h1:PG X e t)(h2:PGs X es u)
 (hs:(assignEach (e::es) X.env).map (·.2)=assign e X.env::(assignEach es X.env).map (·.2):=by rfl):PGs X (e::es) (quJ t u):=by
 intro pins s σ H vs us Q I r h;obtain⟨v,vr,e1,h⟩:=h;subst e1;cases r with
 |cons r rr=>
  rw[hs];refine assignInOrder_cons (thn (h1 pins s σ H _ _ _ I r h) fun _ s1 ⟨σ1,H1,I1,q1⟩=>?_)
  exact h2 pins s1 σ1 H1 _ _ Q I1 rr q1
def qAP(K:Frg)(n:Nat)(t:TGs):TG:=fun v σ H Q=>∃ a xs,v= .ref a/\SqT K H a xs/\xs.length=n/\t xs σ H Q
theorem qph{es:List Expr}{k:Nat}{t:TGs}{n:Nat}(hc:X.calm=true)(h:PGs X es t)
 (hn:(assignEach es X.env).length=n:=by rfl) (hst:(assignEach es X.env).findIdx? (·.1)=none:=by rfl):PG X (.Tuple es k pos) (qAP X.K n t):=by
 intro pins s σ H v u Q I r hw;obtain⟨a,xs,e1,hq,hl,hw⟩:=hw;subst e1;cases r;obtain⟨its,rv,ht,hz⟩:=I.tuple hq;refine assign_Tuple_tuple (I.ok.hd hc) ht (by simp[hn,<-hl,rv.length]) hst fun h' hx=>?_
 have I1:Inv X pins σ H { s with heap:=h' }:=I.kept (t':=s.toks) fun b o e=>hx b o (waq (wae e)) e
 exact h pins _ σ H xs _ Q I1 (by simpa using rv) hw
def qDD(to ti:TE)(t:qvN):TG:=fun v σ H Q=>to σ H fun o H1=>ti σ H1 fun i H2=>t o i v H2 fun H3=>Q σ H3
theorem qtF{o i:Expr}{to ti:TE}{t:qvN}(ho:PE X o to)(hi:PE X i ti)(hs:qvO X t)
 (ha:∀ v,assign (.Subscript o i pos) X.env v=(do
  let ov<-holding [v] (eval o X.env)
  let iv<-holding [v,ov] (eval i X.env)
  standAt pos
  holding [v,ov,iv] (setItem ov iv v)
  release [v,ov,iv] []):=by intro _;rfl):PG X (.Subscript o i pos) (qDD to ti t):=by
 intro pins s σ H v u Q I r h;rw[ha];refine wpAny_bind (wpAny_holding (thn (ho pins s σ H _ I h) fun ov s1 ⟨x,H1,I1,r1,q1⟩=>?_))
 refine wpAny_bind (wpAny_holding (thn (hi pins s1 σ H1 _ I1 q1) fun iv s2 ⟨y,H2,I2,r2,q2⟩=>?_))
 refine wpAny_bind (wpAny_standAt (wpAny_bind (wpAny_holding (thn (hs pins s2 σ H2 x y v ov iv u _ I2 r1 r2 r q2) fun _ s3 ⟨H3,I3,q3⟩=>?_))))
 exact wpAny_release ⟨σ,H3,I3,q3⟩
def qAf(te:TE)(g:TG):TS:=fun D σ H=>te σ H fun x H1=>g x σ H1 D.nx
theorem qtC{tg e:Expr}{te:TE}{g:TG}(he:PE X e te)(hg:PG X tg g)(hs:swapsWithSole [tg] e pos.line X.env=pure false:=by rfl)(hw:swappedStores [tg] e X.env=pure none:=by rfl)
 (h1:(assignEach [tg] X.env).map (·.2)= [assign tg X.env]:=by rfl):PS X (.Assign [tg] e pos) (qAf te g):=by
 intro pins s σ H D I h;refine wpAny_Assign_stores (thn (he pins s σ H _ I h) fun v s1 ⟨x,H1,I1,r1,q1⟩=>?_) hs hw
 rw[h1];exact thn (hg pins s1 σ H1 x v _ I1 r1 q1) fun _ s2 q=>q
theorem qtx{i:Nat}{x:Str}{e:Expr}{te:TE}{pos':Pos}(hN:X.N.Nodup)(hi:X.N[i]? =some x)(hx:Loc X.env.scope x)(he:PE X e te)(hs:swapsWith e (some (.Name x pos')) pos.line X.env=pure false:=by rfl)(hf:X.fn x=true∨X.env.scope.names.lookup x=some .local:=by first|exact .inl rfl|exact .inr rfl|assumption):
 PS X (.Assign [.Name x pos'] e pos) (qAf te (qrA i)):=by
 intro pins s σ H D I h;refine wpAny_Assign_Name (thn (he pins s σ H _ I h) fun v s1 ⟨y,H1,I1,r1,q1⟩=>?_) hs
 exact qdO I1 hN hi hx r1 (fun s2 I2=>⟨_,H1,I2,q1⟩) hf
def qCr(i j:Nat)(ta:TA):TS:=fun D σ H=>ta σ H fun vs H1=>∃ v w,vs= [v,w]/\D.nx ((σ.set i (some v)).set j (some w)) H1
theorem qtz{i j:Nat}{x y:Str}{a b:Expr}{ta:TA}{px py pt:Pos}{kt k2 pt2}(hc:X.calm=true)(hN:X.N.Nodup)(hi:X.N[i]? =some x)(hj:X.N[j]? =some y)(hij:i≠j)
 (hx:X.env.scope.names.lookup x=some .local) (hy:X.env.scope.names.lookup y=some .local) (ha:PA X [a,b] ta)
 (hw:swappedStores [.Tuple [.Name x px,.Name y py] kt pt] (.Tuple [a,b] k2 pt2) X.env=pure (some [x,y]))
 (hs:swapsWithSole [.Tuple [.Name x px,.Name y py] kt pt] (.Tuple [a,b] k2 pt2) pos.line X.env=pure false:=by rfl):
 PS X (.Assign [.Tuple [.Name x px,.Name y py] kt pt] (.Tuple [a,b] k2 pt2) pos) (qCr i j ta):=by
 intro pins s σ H D I h;rw[exec_Assign_arm];refine wpAny_bind (wpAny_standAt ?_);rw[hs];refine wpAny_bind (wpAny_pure ?_);rw[if_neg (by decide)]
 refine wpAny_bind (Tuple_ (thn (ha _ pins s σ H _ I h) fun us s1 ⟨vs,H1,I1,r1,q1⟩=>?_))
 obtain⟨v,w,e1,q1⟩:=q1;subst e1;obtain⟨u1,u2,rfl,rv,rw'⟩:∃ u1 u2,us= [u1,u2]/\RelV v u1/\RelV w u2:=by
  cases r1 with
  |cons p q=>
   cases q with
   |cons p' q'=>
    cases q';exact⟨_,_,rfl,p,p'⟩
 refine wpAny_newObj_type ?_ (by show 2<=sizeLine;decide)
 have I2:Inv X pins σ H1 { s1 with heap:=s1.heap.push { cls:=.type "tuple",data:=.seq [u1,u2].toArray } }:=I1.kept (t':=s1.toks) fun b o e=>Heap.get?_push_of_some _ e
 rw[hw];refine wpAny_bind (wpAny_pure ?_);show wpAny (model X.prog X.w) X.A (do rule "assign.swapped-stores";let items<-unpackItems (.ref s1.heap.objs.size) 2 none;assignInOrder [fun v=>bindName X.env y v,fun v=>bindName X.env x v] items.reverse;pure Flow.next) _ _ _
 refine wpAny_bind (wpAny_rule (wpAny_bind (unpackItems_tuple (items:=#[u1,u2]) (I.ok.hd hc) (IsTup.new s1.heap _) fun h' hx'=>?_)))
 have I3:=I2.kept (h':=h') (t':=s1.toks) fun b o e=>hx' b o (waq (wae e)) e
 show wpAny _ _ (assignInOrder [fun v=>bindName X.env y v,fun v=>bindName X.env x v] [u2,u1] >>= fun _=>pure Flow.next) _ _ _
 refine wpAny_bind (assignInOrder_cons (wpAny_bindName (qdO I3 hN hj (.inl hy) rw' (fun s2 I4=>?_) (.inr hy))))
 refine assignInOrder_cons (wpAny_bindName (qdO I4 hN hi (.inl hx) rv (fun s3 I5=>assignInOrder_nil (wpAny_pure ?_)) (.inr hx)))
 rw[List.set_comm _ _ (Ne.symm hij)]at I5;exact⟨_,H1,I5,q1⟩
noncomputable def qsC (c:TT)(tb:TS):TS:=fun D σ H=>∃ W:Nat->St->Hp->Prop,(∃ m,W m σ H)/\∀ m σ H,W m σ H->
 c σ H fun b H1=>if b=true then ∃ N:St->Hp->Prop,(∀ σ' H',N σ' H'->∃ m',m'<m/\W m' σ' H')/\tb { D with nx:=N,ct:=N,bk:=D.nx } σ H1 else D.nx σ H1
theorem qnW{c:Expr}{body:List Stmt}{tc:TT}{tb:TS}(hp:PassesOwn (model X.prog X.w) X.A X.env X.xe)(hc:PT X c tc)(hb:PSs X body tb):PS X (.While c body [] pos) (qsC tc tb):=by
 intro pins s σ H D I h;obtain⟨W,⟨m0,w0⟩,turn⟩:=h;refine wpAny_While (codeAny_whileLoop (fun n s'=>∃ σ' H',Inv X pins σ' H' s'/\W n σ' H') ?_ m0 ⟨σ,H,I,w0⟩)
 rintro n s1 ⟨σ1,H1,I1,w1⟩;refine wpAny_passesOwn hp (thn (hc pins s1 σ1 H1 _ I1 (turn n σ1 H1 w1)) fun b s2 ⟨H2,I2,q2⟩=>?_)
 cases b with
 |true=>
  obtain⟨N,hN,q2⟩:=q2;rw[if_pos rfl];refine wpAny_passesOwn hp (thn (hb pins s2 σ1 H2 _ I2 q2) fun f s3 q3=>?_)
  cases f with
  |next=>
   obtain⟨σ3,H3,I3,n3⟩:=q3;obtain⟨m',hm,w3⟩:=hN σ3 H3 n3;exact⟨m',hm,σ3,H3,I3,w3⟩
  |cont=>
   obtain⟨σ3,H3,I3,n3⟩:=q3;obtain⟨m',hm,w3⟩:=hN σ3 H3 n3;exact⟨m',hm,σ3,H3,I3,w3⟩
  |brk=>exact q3
  |ret v=>exact q3
 |false=>
  rw[if_neg wan];exact wpAny_execs_nil ⟨σ1,H2,I2,q2⟩
end
structure It where
 go:Nat->Hp->Prop
 yld:Nat->Hp->V->Hp->Prop
 stop:Nat->Hp->Prop
def qo1(X:Cx)(pins:List (Addr×Obj))(H:Hp)(b:Addr):Prop:=
 H b=none/\b≠X.env.locals/\b∉X.fs/\(b∈X.ex∨X.s₀.heap.objs.size<=b)/\(∀ x c,X.env.cells.lookup x=some c->c≠b)/\∀ p∈X.pn++pins,p.1≠b
theorem Inv.fpOk{X:Cx}{pins:List (Addr×Obj)}{σ:St}{H H':Hp}{s:Shared}{b:Addr}(I:Inv X pins σ H s)(hb:s.heap.objs.size<=b)(hn:H' b=none):qo1 X pins H' b:=by
 refine⟨hn,Nat.ne_of_gt (waj I.lt hb),I.nofs hb,.inr (wal I.sz hb),fun x c e z=>?_,fun p hp z=>?_⟩
 · obtain⟨v,q⟩:=I.cell x c e
   exact absurd (waj q.lt (by rw[z];exact hb)) (waM _)
 · exact absurd (waj (wae (I.pin p hp).1) (by rw[z];exact hb)) (waM _)
structure Turn(P:Program)(w:World)(K:Frg)(tg:Expr)(J:It)(fp:List Addr)(it:Addr)(tn:Nat->Heap->Prop):Prop where
 mem:it∈fp
 obj:∀ i h,tn i h->∀ b∈fp,∃ o,h.get? b=some o/\∀ v,o.data≠.cell v
 keep:∀ i h h',tn i h->(∀ b∈fp,∀ o,h.get? b=some o->h'.get? b=some o)->tn i h'
 item:∀ (X:Cx),X.prog=P->X.w=w->X.K=K->X.calm=true->∀ (i:Nat) (pins:List (Addr×Obj)) (s:Shared) (σ:St) (H:Hp) (E:Value->Shared->Prop),Inv X pins σ H s->(∀ b∈fp,qo1 X pins H b)->tn i s.heap->J.go i H->
  wpAny (model P w) X.A (pyNext (.ref it)) (fun r s1=>∃ u,r=some u/\
   wpAny (model P w) X.A (letOwnedTupleGo tg (.ref it) u) (fun _ s2=>∃ x H',Inv X pins σ H' s2/\RelV x u/\J.yld i H x H'/\tn (i+1) s2.heap/\∀ b∈fp,H' b=none) E s1) E s
 done:∀ (X:Cx),X.prog=P->X.w=w->X.K=K->X.calm=true->∀ (i:Nat) (pins:List (Addr×Obj)) (s:Shared) (σ:St) (H:Hp) (E:Value->Shared->Prop),Inv X pins σ H s->(∀ b∈fp,qo1 X pins H b)->tn i s.heap->J.stop i H->
  wpAny (model P w) X.A (pyNext (.ref it)) (fun r s1=>r=none/\Inv X pins σ H s1) E s
 self:∀ (A:Around) (i:Nat) (s:Shared) (Q:Value->Shared->Prop) (E:Value->Shared->Prop),tn i s.heap->Q (.ref it) s->wpAny (model P w) A (pyIter (.ref it)) Q E s
abbrev TI:=St->Hp->(It->Hp->Prop)->Prop
def PIE(X:Cx)(pins:List (Addr×Obj))(σ:St)(tg:Expr)(R:It->Hp->Prop)(itv:Value)(s2:Shared):Prop:=
 ∃ (it:Addr) (fp:List Addr) (tn:Nat->Heap->Prop) (J:It) (H':Hp),itv= .ref it/\Inv X pins σ H' s2/\Turn X.prog X.w X.K tg J fp it tn/\tn 0 s2.heap/\(∀ b∈fp,qo1 X pins H' b)/\R J H'
def PI(X:Cx)(tg iter:Expr)(wi:TI):Prop:=
 ∀ (pins:List (Addr×Obj)) (s:Shared) (σ:St) (H:Hp) (R:It->Hp->Prop),Inv X pins σ H s->wi σ H R->
  wpAny (model X.prog X.w) X.A (eval iter X.env) (fun v s1=>wpAny (model X.prog X.w) X.A (pyIter v) (PIE X pins σ tg R) X.xe s1) X.xe s
theorem qmE{M:Model}{A:Around}{E:Value->Shared->Prop}{s:Shared}{tg:Expr}{it:Addr}{u:Value}{o:Obj}{n:String}{vs:Array Value}{Q:Unit->Shared->Prop}(ho:s.heap.get? it=some o)(hc:o.cls= .type n)(hd:o.data= .fields vs)
 (hn:["enumerate","zip","dict_itemiterator","dict_reverseitemiterator","odict_iterator","itertools.zip_longest","itertools.pairwise"].contains n=false) (hQ:Q () s):wpAny M A (letOwnedTupleGo tg (.ref it) u) Q E s:=by
 unfold letOwnedTupleGo;cases tg<;>first
  |exact wpAny_pure hQ
  |(cases u<;>first
   |exact wpAny_pure hQ
   |(refine wpAny_bind (wpAny_load ho ?_)
     rw[hc,hd];show wpAny M A (if(["enumerate","zip","dict_itemiterator","dict_reverseitemiterator","odict_iterator","itertools.zip_longest","itertools.pairwise"].contains n&&vs[0]? ==some (rawInt _))=true then _ else _) Q E s
     rw[if_neg (by intro h;rw[hn,Bool.false_and]at h;cases h)]
     exact wpAny_pure hQ))
noncomputable def Itl (K:Frg)(a:Addr):It:=
 ⟨fun i H=>∃ xs x,SqL K H a xs/\xs[i]? =some x,fun i H x H'=>H'=H/\∀ xs,SqL K H a xs->xs[i]? =some x,fun i H=>∃ xs,SqL K H a xs/\xs.length<=i⟩
noncomputable def Itt (K:Frg)(a:Addr):It:=
 ⟨fun i H=>∃ xs x,SqT K H a xs/\xs[i]? =some x,fun i H x H'=>H'=H/\∀ xs,SqT K H a xs->xs[i]? =some x,fun i H=>∃ xs,SqT K H a xs/\xs.length<=i⟩
def Itr(lo:Int)(n:Nat):It:=⟨fun i _=>i<n,fun i H x H'=>H'=H/\x= .int (lo+i),fun i _=>n<=i⟩
theorem qkK{P:Program}{w:World}{K:Frg}{tg:Expr}(a it:Addr):Turn P w K tg (Itl K a) [it] it (fun i h=>h.IsListIter it a i) where
 mem:=by simp
 obj:=fun i h st b hb=>by
  have e:b=it:=by simpa using hb
  subst e;obtain⟨o,e,c,d⟩:=st;exact⟨o,e,fun v z=>by rw[d]at z;cases z⟩
 keep:=fun i h h' st k=>st.at fun o e=>k it (by simp) o e
 item:=by
  intro X hP hw hK hc i pins s σ H E I hf st hg;subst hP hw hK;obtain⟨xs,x,hq,hx⟩:=hg;obtain⟨its,rv,p,hz⟩:=I.list hq;obtain⟨u,hu,ru⟩:=rv.get hx;obtain⟨f0,f1,f2,f3,f4,f5⟩:=hf it (by simp)
  refine wpAny_pyNext_list_item st p.isList (x:=u) (by simpa using hu) fun h' st' sb=>?_
  have I1:Inv X pins σ H { s with heap:=h' }:=I.turned (t':=s.toks) (fun b o hb e=>(sb.2 b hb).trans e) f0 f1 f3 f4 f5
  obtain⟨o,e,c,d⟩:=id st';exact⟨u,rfl,qmE (s:={ s with heap:=h' }) e c d (by decide) ⟨x,H,I1,ru,⟨rfl,fun ys hy=>by rw[I.list_inj hy hq];exact hx⟩,st',fun b hb=>(hf b hb).1⟩⟩
 done:=by
  intro X hP hw hK hc i pins s σ H E I hf st hg;subst hP hw hK;obtain⟨xs,hq,hx⟩:=hg;obtain⟨its,rv,p,hz⟩:=I.list hq;obtain⟨f0,f1,f2,f3,f4,f5⟩:=hf it (by simp)
  have hl:=rv.length;exact wpAny_pyNext_list_end (I.ok.hd hc) st p.isList (by simp;omega) fun h' eb=>⟨rfl,I.turned (t':=s.toks) (fun b o hb e=>eb b o hb e) f0 f1 f3 f4 f5⟩
 self:=fun _ _ _ _ _ st h=>wpAny_pyIter_listiter st h
theorem qjF{P:Program}{w:World}{K:Frg}{tg:Expr}(a it:Addr):Turn P w K tg (Itt K a) [it] it (fun i h=>h.IsTupleIter it a i) where
 mem:=by simp
 obj:=fun i h st b hb=>by
  have e:b=it:=by simpa using hb
  subst e;obtain⟨o,e,c,d⟩:=st;exact⟨o,e,fun v z=>by rw[d]at z;cases z⟩
 keep:=fun i h h' st k=>st.at fun o e=>k it (by simp) o e
 item:=by
  intro X hP hw hK hc i pins s σ H E I hf st hg;subst hP hw hK;obtain⟨xs,x,hq,hx⟩:=hg;obtain⟨its,rv,p,hz⟩:=I.tuple hq;obtain⟨u,hu,ru⟩:=rv.get hx;obtain⟨f0,f1,f2,f3,f4,f5⟩:=hf it (by simp)
  refine wpAny_pyNext_tuple_item st (show s.heap.IsTuple a its.toArray from p) (x:=u) (by simpa using hu) fun h' st' sb=>?_
  have I1:Inv X pins σ H { s with heap:=h' }:=I.turned (t':=s.toks) (fun b o hb e=>(sb.2 b hb).trans e) f0 f1 f3 f4 f5
  obtain⟨o,e,c,d⟩:=id st';exact⟨u,rfl,qmE (s:={ s with heap:=h' }) e c d (by decide) ⟨x,H,I1,ru,⟨rfl,fun ys hy=>by rw[I.tuple_inj hy hq];exact hx⟩,st',fun b hb=>(hf b hb).1⟩⟩
 done:=by
  intro X hP hw hK hc i pins s σ H E I hf st hg;subst hP hw hK;obtain⟨xs,hq,hx⟩:=hg;obtain⟨its,rv,p,hz⟩:=I.tuple hq;obtain⟨f0,f1,f2,f3,f4,f5⟩:=hf it (by simp)
  have hl:=rv.length;exact wpAny_pyNext_tuple_end (I.ok.hd hc) st (show s.heap.IsTuple a its.toArray from p) (by simp;omega) fun h' eb=>⟨rfl,I.turned (t':=s.toks) (fun b o hb e=>eb b o hb e) f0 f1 f3 f4 f5⟩
 self:=fun _ _ _ _ _ st h=>wpAny_pyIter_tupleiter st h
theorem qjG{P:Program}{w:World}{K:Frg}{tg:Expr}(it:Addr)(lo:Int)(n:Nat):Turn P w K tg (Itr lo n) [it] it (fun i h=>IsRangeIter h it (lo+(i:Nat)*1) ((n:Int)-(i:Nat)) 1) where
 mem:=by simp
 obj:=fun i h st b hb=>by
  have e:b=it:=by simpa using hb
  subst e;exact⟨_,st,fun v z=>by
   have z':Data.fields _=Data.cell v:=z;cases z'⟩
 keep:=fun i h h' st k=>k it (by simp) _ st
 item:=by
  intro X hP hw hK hc i pins s σ H E I hf st hg;subst hP hw hK;obtain⟨f0,f1,f2,f3,f4,f5⟩:=hf it (by simp)
  have W:=Walks.range (prog:=X.prog) (w:=X.w) (I.ok.hd hc) it lo 1 n;refine W.item i s _ _ hg st fun v h' tk hv st' kk=>?_
  obtain⟨t,rfl⟩:=hv;have I1:Inv X pins σ H { s with heap:=h',toks:=tk }:=I.turned (fun b o hb e=>kk b o (by simpa using hb) e) f0 f1 f3 f4 f5
  refine⟨_,rfl,qmE (s:={ s with heap:=h',toks:=tk }) (n:="range_iterator") st' rfl rfl (by decide) ⟨.int (lo+i),H,I1,⟨t,?_⟩,⟨rfl,rfl⟩,st',fun b hb=>(hf b hb).1⟩⟩
  rw[Int.mul_one]
 done:=by
  intro X hP hw hK hc i pins s σ H E I hf st hg;subst hP hw hK;obtain⟨f0,f1,f2,f3,f4,f5⟩:=hf it (by simp)
  exact wpAny_pyNext_range_end (I.ok.hd hc) st (by have:n<=i:=hg;omega) fun h' eb=>⟨rfl,I.turned (t':=s.toks) (fun b o hb e=>eb b o hb e) f0 f1 f3 f4 f5⟩
 self:=fun _ _ _ _ _ st h=>wpAny_pyIter_rangeiter st h
section
variable {X:Cx}{tg:Expr}
theorem qjb{pins:List (Addr×Obj)}{σ:St}{H:Hp}{s:Shared}{R:It->Hp->Prop}{E:Value->Shared->Prop}{lo hi:Int}{t u v:Tok}{tk:Nat}(I:Inv X pins σ H s)(h1:-(2 ^ 62)<=lo)(h2:lo<2 ^ 62)(h3:-(2 ^ 62)<=hi)(h4:hi<2 ^ 62)
 (q:R (Itr lo (hi-lo).toNat) H):wpAny (model X.prog X.w) X.A (pyIter (.ref s.heap.objs.size)) (PIE X pins σ tg R) E { s with heap:=s.heap.push { cls:=.type "range",data:=.fields #[.int lo t,.int hi u,.int 1 v] },toks:=tk }:=by
 refine wpAny_pyIter_range (IsRange.new ..) (small_one h1 h2 h3 h4) ?_;have I1:Inv X pins σ H { s with heap:=s.heap.push { cls:=.type "range",data:=.fields #[.int lo t,.int hi u,.int 1 v] },toks:=tk }:=I.kept fun b o e=>Heap.get?_push_of_some _ e
 refine⟨(s.heap.push { cls:=.type "range",data:=.fields #[.int lo t,.int hi u,.int 1 v] }).objs.size,[(s.heap.push { cls:=.type "range",data:=.fields #[.int lo t,.int hi u,.int 1 v] }).objs.size],_,_,H,rfl,
  I1.kept (t':=tk) fun b o e=>Heap.get?_push_of_some _ e,qjG _ lo (hi-lo).toNat,?_,fun b hb=>?_,q⟩
 · have e1:lo+((0:Nat):Int)*1=lo:=by simp
   have e2:(((hi-lo).toNat:Nat):Int)-((0:Nat):Int)=Builtin.Range.rangeSize lo hi 1:=by rw[rangeSize_one];split<;>omega
   show IsRangeIter _ _ (lo+((0:Nat):Int)*1) ((((hi-lo).toNat:Nat):Int)-((0:Nat):Int)) 1;rw[e1,e2];exact Heap.get?_push_size _ rfl
 · have e:b=(s.heap.push { cls:=.type "range",data:=.fields #[.int lo t,.int hi u,.int 1 v] }).objs.size:=by simpa using hb
   subst e;exact I1.fpOk (wac _) (I1.hok.fresh (wac _))
def qxF(ta:TA):TI:=fun σ H R=>ta σ H fun vs H1=>∃ j:Int,vs= [.int j]/\-(2 ^ 62)<=j/\j<2 ^ 62/\R (Itr 0 j.toNat) H1
noncomputable def qxE (ta:TA):TI:=fun σ H R=>ta σ H fun vs H1=>∃ i j:Int,vs= [.int i,.int j]/\(-(2 ^ 62)<=i/\i<2 ^ 62/\-(2 ^ 62)<=j/\j<2 ^ 62)/\R (Itr i (j-i).toNat) H1
theorem qlE{a:Expr}{ta:TA}{p pos:Pos}(hg:Gl X "range")(hm:X.mg "range" =none)(ha:PA X [a] ta)(hs:starEach [a] X.env= [(false,eval a X.env)]:=by rfl):PI X tg (.Call (.Name "range" p) [a] [] pos) (qxF ta):=by
 intro pins s σ H R I h;refine Call_ (qdh I hg hm boot_range (waB (thn (ha pos pins s σ H _ I h) fun us s1 ⟨vs,H1,I1,r1,q1⟩=>?_) hs rfl))
 obtain⟨j,e,q1,q2,q⟩:=q1;subst e;cases r1 with
 |cons r rr=>
  cases rr;obtain⟨t,rfl⟩:=r;exact call_range_1 (qjb I1 (by omega) (by omega) q1 q2 (by simpa using q))
theorem qlD{a b:Expr}{ta:TA}{p pos:Pos}(hg:Gl X "range")(hm:X.mg "range" =none)(ha:PA X [a,b] ta)(hs:starEach [a,b] X.env= [(false,eval a X.env),(false,eval b X.env)]:=by rfl)(hs2:starEach [b] X.env= [(false,eval b X.env)]:=by rfl):
 PI X tg (.Call (.Name "range" p) [a,b] [] pos) (qxE ta):=by
 intro pins s σ H R I h;refine Call_ (qdh I hg hm boot_range (waB (thn (ha pos pins s σ H _ I h) fun us s1 ⟨vs,H1,I1,r1,q1⟩=>?_) (by rw[hs,hs2]) (by rw[hs2];rfl)))
 obtain⟨i,j,e,⟨q1,q2,q3,q4⟩,q⟩:=q1;subst e;cases r1 with
 |cons r rr=>
  cases rr with
  |cons r' rr=>
   cases rr;obtain⟨t,rfl⟩:=r;obtain⟨t',rfl⟩:=r';exact call_range_2 (qjb I1 q1 q2 q3 q4 q)
noncomputable def qCw (wi:TI)(g:TG)(tb:TS):TS:=fun D σ H=>wi σ H fun J H1=>∃ W:Nat->Nat->St->Hp->Prop,(∃ m,W 0 m σ H1)/\∀ i m σ H,W i m σ H->
 (J.stop i H/\D.nx σ H)∨(J.go i H/\∃ N:St->Hp->Prop,(∀ σ' H',N σ' H'->∃ m',m'<m/\W (i+1) m' σ' H')/\∀ x H',J.yld i H x H'->g x σ H' fun σ2 H2=>tb { D with nx:=N,ct:=N,bk:=D.nx } σ2 H2)
def qdf(fp:List Addr)(h:Heap):List (Addr×Obj):=fp.filterMap fun b=>(h.get? b).map fun o=>(b,o)
theorem qc1{fp:List Addr}{h:Heap}{b:Addr}{o:Obj}(hb:b∈fp)(e:h.get? b=some o):(b,o)∈qdf fp h:=List.mem_filterMap.mpr ⟨b,hb,by rw[e];rfl⟩
theorem qgQ{fp:List Addr}{h:Heap}{p:Addr×Obj}(hp:p∈qdf fp h):p.1∈fp/\h.get? p.1=some p.2:=by
 obtain⟨b,hb,e⟩:=List.mem_filterMap.mp hp;cases q:h.get? b with
 |none=>rw[q]at e;cases e
 |some o=>
  rw[q]at e;have e':(b,o)=p:=Option.some.inj e;subst e';exact⟨hb,q⟩
theorem Inv.pinned{pins:List (Addr×Obj)}{σ:St}{H:Hp}{s:Shared}{fp:List Addr}(I:Inv X pins σ H s)(hf:∀ b∈fp,qo1 X pins H b)(ho:∀ b∈fp,∃ o,s.heap.get? b=some o/\∀ v,o.data≠.cell v):Inv X (pins++qdf fp s.heap) σ H s:=
 I.pins_of fun p hp=>(wax.mp hp).elim (fun z=>I.pin p (war _ z)) fun z=>by
  obtain⟨hb,e⟩:=qgQ z;obtain⟨f0,f1,f2,_⟩:=hf p.1 hb;obtain⟨o,e',d⟩:=ho p.1 hb;rw[e]at e';cases e';exact⟨e,f0,f1,f2,d⟩
theorem Inv.unpinned{pins pl:List (Addr×Obj)}{σ:St}{H:Hp}{s:Shared}(I:Inv X (pins++pl) σ H s):Inv X pins σ H s:=I.pins_of fun p hp=>I.pin p (war _ (List.mem_append_left _ hp))
theorem qtA{iter:Expr}{body:List Stmt}{wi:TI}{g:TG}{tb:TS}{pos:Pos}(hp:PassesOwn (model X.prog X.w) X.A X.env X.xe)(hc:X.calm=true)(hi:PI X tg iter wi)(hg:PG X tg g)(hb:PSs X body tb)
 (hs:∀ x,foldedSetIterable iter X.env x=pure x:=by intro _;rfl):PS X (.For tg iter body [] pos) (qCw wi g tb):=by
 intro pins s σ H D I h;refine wpAny_For (thn (hi pins s σ H _ I h) fun v s1 h1=>thn h1 fun itv s2 h2=>?_) hs
 obtain⟨it,fp,tn,J,H2,e,I2,T,st2,f2,W,⟨m0,w0⟩,turn⟩:=h2;subst e;have stat:∀ {H':Hp},(∀ b∈fp,H' b=none)->∀ b∈fp,qo1 X pins H' b:=fun hn b hb=>⟨hn b hb,(f2 b hb).2⟩
 refine codeAny_forLoop_any (fun n s'=>∃ i σ' H',Inv X pins σ' H' s'/\tn i s'.heap/\(∀ b∈fp,H' b=none)/\W i n σ' H') ?_ m0 ⟨0,σ,H2,I2,st2,fun b hb=>(f2 b hb).1,w0⟩
 rintro n s3 ⟨i,σ3,H3,I3,st3,fr3,w3⟩;rcases turn i n σ3 H3 w3 with⟨stop,qn⟩|⟨go,N,hN,step⟩
 · refine wpAny_passesOwn hp (thn (T.done X rfl rfl rfl hc i pins s3 σ3 H3 X.xe I3 (stat fr3) st3 stop) fun r s4 ⟨hr,I4⟩=>?_)
   subst hr;exact wpAny_execs_nil ⟨σ3,H3,I4,qn⟩
 · refine wpAny_passesOwn hp (thn (T.item X rfl rfl rfl hc i pins s3 σ3 H3 X.xe I3 (stat fr3) st3 go) fun r s4 ⟨u,hr,h4⟩=>?_)
   subst hr;refine wpAny_passesOwn hp (thn h4 fun _ s5 ⟨x,H5,I5,r5,y5,st5,fr5⟩=>?_)
   have I5':=I5.pinned (stat fr5) (T.obj _ _ st5);refine wpAny_passesOwn hp (thn (hg _ s5 σ3 H5 x u _ I5' r5 (step x H5 y5)) fun _ s6 ⟨σ6,H6,I6,q6⟩=>?_)
   refine wpAny_passesOwn hp (thn (hb _ s6 σ6 H6 _ I6 q6) fun f s7 q7=>?_)
   have again:∀ {σ7:St} {H7:Hp},Inv X (pins++qdf fp s5.heap) σ7 H7 s7->N σ7 H7->∃ m,m<n/\∃ i σ' H',Inv X pins σ' H' s7/\tn i s7.heap/\(∀ b∈fp,H' b=none)/\W i m σ' H':=fun {σ7 H7} I7 n7=>by
    obtain⟨m',hm,w7⟩:=hN σ7 H7 n7;refine⟨m',hm,i+1,σ7,H7,I7.unpinned,T.keep _ _ _ st5 fun b hb o e=>(I7.pin (b,o) (war _ (war _ (qc1 hb e)))).1,fun b hb=>?_,w7⟩
    obtain⟨o,e,d⟩:=T.obj _ _ st5 b hb;exact(I7.pin (b,o) (war _ (war _ (qc1 hb e)))).2.1
   cases f with
   |next=>obtain⟨σ7,H7,I7,n7⟩:=q7;exact again I7 n7
   |cont=>obtain⟨σ7,H7,I7,n7⟩:=q7;exact again I7 n7
   |brk=>obtain⟨σ7,H7,I7,q7⟩:=q7;exact⟨σ7,H7,I7.unpinned,q7⟩
   |ret v=>obtain⟨x7,σ7,H7,I7,r7,q7⟩:=q7;exact⟨x7,σ7,H7,I7.unpinned,r7,q7⟩
end
abbrev R2:=V->V->Hp->VK->Prop
def OpR(X:Cx)(f:Value->Value->Sem Value)(r:R2):Prop:=
 ∀ (pins:List (Addr×Obj)) (s:Shared) (σ:St) (H:Hp) (x y:V) (v u:Value) (Q:VK),Inv X pins σ H s->RelV x v->RelV y u->r x y H Q->
  wpAny (model X.prog X.w) X.A (f v u) (EP X pins σ Q) X.xe s
def UnR(X:Cx)(f:Value->Sem Value)(r:V->Hp->VK->Prop):Prop:=
 ∀ (pins:List (Addr×Obj)) (s:Shared) (σ:St) (H:Hp) (x:V) (v:Value) (Q:VK),Inv X pins σ H s->RelV x v->r x H Q->
  wpAny (model X.prog X.w) X.A (f v) (EP X pins σ Q) X.xe s
def CallR(X:Cx)(f:Value)(r:List V->Hp->VK->Prop):Prop:=
 ∀ (pins:List (Addr×Obj)) (s:Shared) (σ:St) (H:Hp) (xs:List V) (us:List Value) (Q:VK),Inv X pins σ H s->Vals xs us->r xs H Q->
  wpAny (model X.prog X.w) X.A (call f us) (EP X pins σ Q) X.xe s
def tOp(r:R2)(ta tb:TE):TE:=fun σ H Q=>ta σ H fun x H1=>tb σ H1 fun y H2=>r x y H2 Q
def tUn(r:V->Hp->VK->Prop)(ta:TE):TE:=fun σ H Q=>ta σ H fun x H1=>r x H1 Q
def rI(C:Int->Int->Prop)(g:Int->Int->V):R2:=fun x y H Q=>∃ i j,x= .int i/\y= .int j/\C i j/\Q (g i j) H
def rI0(g:Int->Int->V):R2:=fun x y H Q=>∃ i j,x= .int i/\y= .int j/\Q (g i j) H
section
variable {X:Cx}{a b c:Expr}{ta tb tc:TE}{pos:Pos}
theorem qyb(ha:PE X a ta)(hb:PE X b tb){pins:List (Addr×Obj)}{s:Shared}{σ:St}{H:Hp}{R:V->V->Hp->Prop}(I:Inv X pins σ H s)
 (h:ta σ H fun x H1=>tb σ H1 fun y H2=>R x y H2) {Q:Value->Shared->Prop} {f:Value->Value->Sem Value}
 (hf:∀ v u s2 x y H2,Inv X pins σ H2 s2->RelV x v->RelV y u->R x y H2->wpAny (model X.prog X.w) X.A (f v u) Q X.xe s2):
 wpAny (model X.prog X.w) X.A (eval a X.env) (fun v s₁=>wpAny (model X.prog X.w) X.A (eval b X.env) (fun u s₂=>wpAny (model X.prog X.w) X.A (f v u) Q X.xe s₂) X.xe s₁) X.xe s:=by
 refine thn (ha pins s σ H _ I h) fun v s1 ⟨x,H1,I1,r1,q1⟩=>?_
 refine thn (hb pins s1 σ H1 _ I1 q1) fun u s2 ⟨y,H2,I2,r2,q2⟩=>?_
 exact hf v u s2 x y H2 I2 r1 r2 q2
theorem qw7{op:Operator}{r:R2}(ho:OpR X (binaryOp op) r)(ha:PE X a ta)(hb:PE X b tb):PE X (.BinOp a op b pos) (tOp r ta tb):=by
 intro pins s σ H Q I h;exact wpAny_BinOp (qyb ha hb I h fun v u s2 x y H2 I2 rx ry q=>ho pins s2 σ H2 x y v u Q I2 rx ry q)
theorem qw5{op:UnaryOp}{r:V->Hp->VK->Prop}(ho:UnR X (unaryOp op) r)(ha:PE X a ta):PE X (.UnaryOp op a pos) (tUn r ta):=by
 intro pins s σ H Q I h;exact UnaryOp_ (thn (ha pins s σ H _ I h) fun v s1 ⟨x,H1,I1,r1,q1⟩=>ho pins s1 σ H1 x v Q I1 r1 q1)
theorem opI{f:Value->Value->Sem Value}{C:Int->Int->Prop}{g:Int->Int->Int}
 (rule:∀ (i j:Int) (t u:Tok) (s:Shared) (Q:Value->Shared->Prop) (E:Value->Shared->Prop),C i j->Q (.int (g i j) s.toks) { s with toks:=s.toks+1 }->wpAny (model X.prog X.w) X.A (f (.int i t) (.int j u)) Q E s):
 OpR X f (rI C fun i j=>.int (g i j)):=by
 intro pins s σ H x y v u Q I rx ry h;obtain⟨i,j,rfl,rfl,hc,q⟩:=h;obtain⟨t,rfl⟩:=rx;obtain⟨t',rfl⟩:=ry;exact rule i j t t' s _ _ hc ⟨.int (g i j),H,I.tok _,⟨_,rfl⟩,q⟩
theorem qAK{f:Value->Value->Sem Value}{g:Int->Int->Int}
 (rule:∀ (i j:Int) (t u:Tok) (s:Shared) (Q:Value->Shared->Prop) (E:Value->Shared->Prop),Q (.int (g i j) s.toks) { s with toks:=s.toks+1 }->wpAny (model X.prog X.w) X.A (f (.int i t) (.int j u)) Q E s):
 OpR X f (rI0 fun i j=>.int (g i j)):=by
 intro pins s σ H x y v u Q I rx ry h;obtain⟨i,j,rfl,rfl,q⟩:=h;obtain⟨t,rfl⟩:=rx;obtain⟨t',rfl⟩:=ry;exact rule i j t t' s _ _ ⟨.int (g i j),H,I.tok _,⟨_,rfl⟩,q⟩
theorem qvJ{f:Value->Value->Sem Value}{g:Int->Int->Bool}
 (rule:∀ (i j:Int) (t u:Tok) (s:Shared) (Q:Value->Shared->Prop) (E:Value->Shared->Prop),Q (.bool (g i j)) s->wpAny (model X.prog X.w) X.A (f (.int i t) (.int j u)) Q E s):
 OpR X f (rI0 fun i j=>.bl (g i j)):=by
 intro pins s σ H x y v u Q I rx ry h;obtain⟨i,j,rfl,rfl,q⟩:=h;obtain⟨t,rfl⟩:=rx;obtain⟨t',rfl⟩:=ry;exact rule i j t t' s _ _ ⟨.bl (g i j),H,I,rfl,q⟩
def qEa(i j:Int):Prop:=0<j/\j<1073741824
def qD9(i j:Int):Prop:=0<=j/\j<=1000000/\i.natAbs<2 ^ 64
def CMul(i j:Int):Prop:=(-(2 ^ 64)<i/\i<2 ^ 64)∨(-(2 ^ 64)<j/\j<2 ^ 64)
theorem CMul.ok{i j:Int}(h:CMul i j):IntMulOk i j:=by
 rcases h with⟨h1,h2⟩|⟨h1,h2⟩
 · exact .of_left (intBits_le_64 h1 h2)
 · exact .of_right (intBits_le_64 h1 h2)
theorem qtV:OpR X (binaryOp .Add) (rI0 fun i j=>.int (i+j)):=qAK fun _ _ _ _ _ _ _ q=>add_int q
theorem qtP:OpR X (binaryOp .Sub) (rI0 fun i j=>.int (i-j)):=qAK fun _ _ _ _ _ _ _ q=>sub_int q
theorem qtS:OpR X (binaryOp .Mult) (rI CMul fun i j=>.int (i*j)):=opI fun _ _ _ _ _ _ _ hc q=>mul_int q hc.ok
theorem qqS:OpR X (binaryOp .FloorDiv) (rI qEa fun i j=>.int (i / j)):=opI fun i j _ _ _ _ _ hc q=>by
 have h1:(0:Int)<j:=hc.1;have h2:j<1073741824:=hc.2;exact floordiv_int (by omega) (by rw[Int.fdiv_eq_ediv_of_nonneg i (by omega)];exact q) (.inl (PyProof.noPylong_small (by omega)))
theorem qtT:OpR X (binaryOp .Mod) (rI (fun _ j=>0<j) fun i j=>.int (i % j)):=opI fun i j _ _ _ _ _ hc q=>by
 have h1:(0:Int)<j:=hc;exact mod_int' (by omega) (by rw[Int.fmod_eq_emod_of_nonneg i (by omega)];exact q)
theorem qtR:OpR X (binaryOp .Pow) (rI qD9 fun i j=>.int (i ^ j.toNat)):=opI fun _ _ _ _ _ _ _ hc q=>pow_int_small hc.1 hc.2.1 hc.2.2 q
theorem qpK{pins:List (Addr×Obj)}{σ:St}{H:Hp}{s:Shared}{Q:VK}{k k':Bool}(I:Inv X pins σ H s)(q:Q (.bl k) H)(e:k=k'):EP X pins σ Q (.bool k') s:=by
 subst e;exact⟨.bl k,H,I,rfl,q⟩
theorem qxc:OpR X (compareOp .Lt) (rI0 fun i j=>.bl (decide (i<j))):=qvJ fun _ _ _ _ _ _ _ q=>lt_int q
theorem qxd:OpR X (compareOp .LtE) (rI0 fun i j=>.bl (decide (i<=j))):=qvJ fun _ _ _ _ _ _ _ q=>le_int q
theorem qxe:OpR X (compareOp .Gt) (rI0 fun i j=>.bl (decide (j<i))):=qvJ fun _ _ _ _ _ _ _ q=>gt_int q
theorem qxf:OpR X (compareOp .GtE) (rI0 fun i j=>.bl (decide (j<=i))):=qvJ fun _ _ _ _ _ _ _ q=>ge_int q
theorem qtU:OpR X (compareOp .Is) (fun x y H Q=>y= .non/\Q (.bl (decide (x= .non))) H):=by
 intro pins s σ H x y v u Q I rx ry h;obtain⟨rfl,q⟩:=h;cases ry;refine is_none_gen (qpK I q ?_);cases x<;>first
  |(cases rx;rfl)
  |(obtain⟨t,rfl⟩:=rx;rfl)
theorem qqR:OpR X (compareOp .IsNot) (fun x y H Q=>y= .non/\Q (.bl (!decide (x= .non))) H):=by
 intro pins s σ H x y v u Q I rx ry h;obtain⟨rfl,q⟩:=h;cases ry;refine isnot_none_gen (qpK I q ?_);cases x<;>first
  |(cases rx;rfl)
  |(obtain⟨t,rfl⟩:=rx;rfl)
theorem OpR.or{f:Value->Value->Sem Value}{r r':R2}(h:OpR X f r)(h':OpR X f r'):OpR X f (fun x y H Q=>r x y H Q∨r' x y H Q):=by
 intro pins s σ H x y v u Q I rx ry q;rcases q with q|q
 · exact h pins s σ H x y v u Q I rx ry q
 · exact h' pins s σ H x y v u Q I rx ry q
theorem qpp(b:Expr){op:CmpOp}(h:op≠.In:=by decide)(h2:op≠.NotIn:=by decide):behindInMarks op b=false:=by
 have e1:(op==CmpOp.In)=false:=by cases op<;>first|rfl|exact absurd rfl h
 have e2:(op==CmpOp.NotIn)=false:=by cases op<;>first|rfl|exact absurd rfl h2
 cases b<;>simp[behindInMarks,e1,e2]
theorem qlH{op:CmpOp}{r:R2}(ho:OpR X (compareOp op) r)(ha:PE X a ta)(hb:PE X b tb)(hm:behindInMarks op b=false):PE X (.Compare a [op] [b] pos) (tOp r ta tb):=by
 intro pins s σ H Q I h;exact wpAny_Compare1 (qyb ha hb I h fun v u s2 x y H2 I2 rx ry q=>ho pins s2 σ H2 x y v u Q I2 rx ry q) hm
def qsD(t:TE):TT:=fun σ H Q=>t σ H fun x H'=>∃ k,x= .bl k/\Q k H'
theorem qlz{op:CmpOp}{r:R2}(ho:OpR X (compareOp op) r)(ha:PE X a ta)(hb:PE X b tb)(hm:behindInMarks op b=false):PT X (.Compare a [op] [b] pos) (qsD (tOp r ta tb)):=by
 intro pins s σ H Q I h;refine wpAny_isTrue_Compare1 (thn (ha pins s σ H _ I h) fun v s1 ⟨x,H1,I1,r1,q1⟩=>thn (hb pins s1 σ H1 _ I1 q1) fun u s2 ⟨y,H2,I2,r2,q2⟩=>
  thn (ho pins s2 σ H2 x y v u _ I2 r1 r2 q2) fun c s3 ⟨z,H3,I3,r3,k,e,q3⟩=>?_) hm
 subst e;cases r3;exact wpAny_truthy_bool ⟨H3,I3,q3⟩
noncomputable def qkQ (r r':R2)(ta tb tc:TE):TE:=fun σ H Q=>ta σ H fun x H1=>tb σ H1 fun y H2=>r x y H2 fun z H3=>∃ k,z= .bl k/\
 (if k=true then tc σ H3 fun w' H4=>r' y w' H4 Q else Q (.bl false) H3)
theorem qn6{op op':CmpOp}{r r':R2}(ho:OpR X (compareOp op) r)(ho':OpR X (compareOp op') r')(ha:PE X a ta)(hb:PE X b tb)(hc:PE X c tc)
 (hm:lastMarks [op,op'] [b,c]=false:=by with_unfolding_all rfl):PE X (.Compare a [op,op'] [b,c] pos) (qkQ r r' ta tb tc):=by
 intro pins s σ H Q I h;refine Compare_chain (thn (ha pins s σ H _ I h) fun v s1 ⟨x,H1,I1,r1,q1⟩=>chain_link (thn (hb pins s1 σ H1 _ I1 q1) fun u s2 ⟨y,H2,I2,r2,q2⟩=>
  thn (ho pins s2 σ H2 x y v u _ I2 r1 r2 q2) fun d s3 ⟨z,H3,I3,r3,k,e,q3⟩=>?_)) hm
 subst e;cases r3;refine wpAny_truthy_bool ?_;cases k with
 |false=>exact ite_ff ⟨.bl false,H3,I3,rfl,q3⟩
 |true=>exact ite_tt (chain_last (thn (hc pins s3 σ H3 _ I3 q3) fun w' s4 ⟨z',H4,I4,r4,q4⟩=>ho' pins s4 σ H4 y z' u w' Q I4 r2 r4 q4))
theorem qnU{op op':CmpOp}{r r':R2}(ho:OpR X (compareOp op) r)(ho':OpR X (compareOp op') r')(ha:PE X a ta)(hb:PE X b tb)(hc:PE X c tc)
 (hm:lastMarks [op,op'] [b,c]=false:=by with_unfolding_all rfl):PT X (.Compare a [op,op'] [b,c] pos) (qsD (qkQ r r' ta tb tc)):=by
 intro pins s σ H Q I h;refine isTrue_chain (thn (ha pins s σ H _ I h) fun v s1 ⟨x,H1,I1,r1,q1⟩=>test_link (thn (hb pins s1 σ H1 _ I1 q1) fun u s2 ⟨y,H2,I2,r2,q2⟩=>
  thn (ho pins s2 σ H2 x y v u _ I2 r1 r2 q2) fun d s3 ⟨z,H3,I3,r3,k,e,q3⟩=>?_)) hm
 subst e;cases r3;refine wpAny_truthy_bool ?_;cases k with
 |false=>
  obtain⟨k',e',q'⟩:=q3;cases e';exact ite_ff ⟨H3,I3,q'⟩
 |true=>
  refine ite_tt (test_last (thn (hc pins s3 σ H3 _ I3 q3) fun w' s4 ⟨z',H4,I4,r4,q4⟩=>thn (ho' pins s4 σ H4 y z' u w' _ I4 r2 r4 q4) fun d' s5 ⟨z2,H5,I5,r5,k2,e2,q5⟩=>?_))
  subst e2;cases r5;exact wpAny_truthy_bool ⟨H5,I5,q5⟩
theorem qfa:(sizeLine:Nat)<2 ^ 63:=by rw[sizeLine_eq];decide
theorem qj3:OpR X (binaryOp .Add) (fun x y H Q=>∃ i j,x= .str i/\y= .str j/\i.length+j.length<=sizeLine/\Q (.str (i++j)) H):=by
 intro pins s σ H x y v u Q I rx ry h;obtain⟨i,j,rfl,rfl,hz,q⟩:=h;obtain⟨t,rfl⟩:=rx;obtain⟨t',rfl⟩:=ry;exact add_str (fun t' tk=>⟨.str (i++j),H,I.tok _,⟨_,rfl⟩,q⟩) hz
theorem vals1{x:V}{us:List Value}(r:Vals [x] us):∃ u,us= [u]/\RelV x u:=by
 cases r with
 |cons r1 r2=>cases r2;exact⟨_,rfl,r1⟩
theorem vals2{x y:V}{us:List Value}(r:Vals [x,y] us):∃ u w',us= [u,w']/\RelV x u/\RelV y w':=by
 cases r with
 |cons r1 r2=>
  cases r2 with
  |cons r3 r4=>cases r4;exact⟨_,_,rfl,r1,r3⟩
theorem qmZ(hc:X.calm=true):CallR X (.builtin "max") (fun xs H Q=>∃ i j,xs= [.int i,.int j]/\Q (.int (if j > i then j else i)) H):=by
 intro pins s σ H xs us Q I r h;obtain⟨i,j,rfl,q⟩:=h;obtain⟨u,w',rfl,⟨t,rfl⟩,⟨t',rfl⟩⟩:=vals2 r;refine max_two_ints (I.ok.hd hc) fun h' tk k=>⟨_,H,I.kept k,?_,q⟩
 by_cases hj:j > i
 · rw[if_pos hj,if_pos hj];exact⟨_,rfl⟩
 · rw[if_neg hj,if_neg hj];exact⟨_,rfl⟩
theorem qoN:CallR X (.builtin "ord") (fun xs H Q=>∃ x,xs= [.str x]/\x.length=1/\Q (.int (x.cps.getD 0 0:Nat)) H):=by
 intro pins s σ H xs us Q I r h;obtain⟨x,rfl,hz,q⟩:=h;obtain⟨u,rfl,t,rfl⟩:=vals1 r;exact ord_of_one hz ⟨.int _,H,I.tok _,⟨_,rfl⟩,q⟩
end
structure ObjM(h:Heap)(x dx C:Addr)(mA:Str->Option Value):Prop where
 obj:h.get? x=some (waL C dx)
 ns:h.Ns1 dx mA
 ne:dx≠x
theorem qlZ{h:Heap}{dx:Addr}{mA:Str->Option Value}(n:h.Ns1 dx mA):∃ od,h.get? dx=some od/\∀ name,PySem.W.lookIn name od=some (mA name):=by
 obtain⟨o,es,ep,ho,hd,hk,_,hm⟩:=n;refine⟨o,ho,fun name=>?_⟩
 have e:=hm name;unfold nsFind findBy at e;rw[<-Array.find?_toList]at e;unfold PySem.W.lookIn;rw[hd];dsimp only;split
 · rename_i y q
   rw[q]at e;exact congrArg some e
 · rename_i q
   rw[q]at e;have a:es.toList.any (·.refKey)=false:=by
    rw[List.any_eq_false];intro y hy;obtain⟨z,t,hkey⟩:=hk y (Array.mem_toList_iff.mp hy);simp[DictEntry.refKey,hkey]
   have a':¬es.toList.any (·.refKey)=true:=by rw[a];exact wan
   rw[if_neg a'];exact congrArg some e
theorem ObjM.look{h:Heap}{x dx C:Addr}{mA:Str->Option Value}(I:ObjM h x dx C mA):∃ od,PySem.W.InstAt h x (waL C dx) C (some od)/\∀ name,PySem.W.lookIn name od=some (mA name):=
 let⟨od,ho,hl⟩:=qlZ I.ns
 ⟨od,⟨I.obj,rfl,rfl,ho⟩,hl⟩
section
variable {prog:Program}{w:World}{A:Around}{E:Value->Shared->Prop}{s:Shared}{K:Frg}{x dx C f:Addr}{mA:Str->Option Value}{name:Str}{v:Value}
theorem get_map{expr:Bool}{Q:Value->Shared->Prop}(X:K.In s.heap)(I:ObjM s.heap x dx C mA)(hg:wa4 K C name=true)(hh:wbb K C=true)
 (ha:PySem.W.findIn K (.ref C) name=some none) (hv:mA name=some v) (hv':PySem.W.handedIn v=true) (h:Q v { s with toks:=s.toks+1 }):
 wpAny (model prog w) A (getAttr (.ref x) name expr) Q E s:=by
 obtain⟨od,J,hl⟩:=I.look;exact PySem.W.get_value X J (PySem.W.plainGet_of hg).1 (PySem.W.findObj_own hh ha rfl (by rw[hl,hv])) hv' h
theorem qov{pl:Sem Bool}{Q:Value×List Value->Shared->Prop}(X:K.In s.heap)(I:ObjM s.heap x dx C mA)(hg:wa4 K C name=true)
 (hf:PySem.W.findIn K (.ref C) name=some (some (.ref f))) (ht:PySem.W.isFn K (.ref f)=true) (hv:mA name=none) (h:Q (.ref f,[.ref x]) s):
 wpAny (model prog w) A (getMethod (.ref x) name pl) Q E s:=by
 obtain⟨od,J,hl⟩:=I.look;exact PySem.W.method_fn X J (PySem.W.plainGet_of hg).1 (PySem.W.plainGet_of hg).2 hf (beq_iff_eq.mp ht) (by show(PySem.W.lookIn name od).map (·.isSome)=some false;rw[hl,hv];rfl) h
theorem qp8{ns:List Str}{Q:Unit->Shared->Prop}(X:K.In s.heap)(I:ObjM s.heap x dx C mA)
 (hs:PySem.W.findIn K (.ref C) "__setattr__" =some (some (.builtin "object.__setattr__"))) (hp:PySem.W.plainOver K C=true) (ht:PySem.W.takerIn K C name=some none) (hh:wbb K C=true)
 (hw:PySem.Within mA ns) (hsz:ns.length<=sizeLine)
 (h:∀ h',ObjM h' x dx C (fun y=>if y=name then some v else mA y)->Heap.SameBut dx s.heap h'->Q () { s with heap:=h',toks:=s.toks+2 }):
 wpAny (model prog w) A (setAttr (.ref x) name v) Q E s:=by
 obtain⟨od,J,hl⟩:=I.look;refine PySem.W.set_plain X J hs (PySem.W.osa_open (s:={ s with toks:=s.toks+1 }) (r:=none) X J hp ht fun b=>?_)
 obtain⟨cd,hc,hd'⟩:=PySem.W.any_some hh;have hx:s.heap.get? x=some ⟨.ref C,some dx,.plain,#[]⟩:=I.obj;refine wpAny_bind (wpAny_pure (wpAny_bind (wpAny_bind (wpAny_loadPart hx (wpAny_bind (PySem.W.Looks.here (s:={ s with toks:=s.toks+1 }) (PySem.W.looks_clsIn X hc) ?_))))))
 rw[hd'];refine wpAny_pure (a:=some dx) (wpAny_bind (wpAny_pure (wpAny_bind ?_)));refine wpAny_nsSet1 (s:={ s with toks:=s.toks+1 }) I.ns fun h' hn2 hs2=>?_
 obtain⟨oD,esD,epD,hoD,hdD,hcD⟩:=hn2.count (PySem.Within.cons name v hw);refine wpAny_bind (wpAny_lookBehind hoD (by rw[hdD];exact pastItsLine_dict (wal hcD (by rw[waf];omega))) ?_)
 exact wpAny_pure (h _ ⟨(hs2.2 _ (Ne.symm I.ne)).trans I.obj,hn2,I.ne⟩ hs2)
theorem qod{R:Result->Shared->Prop}{vs:List Value}{kw:List (Str×Value)}(X:K.In s.heap)(hm:PySem.W.makesIn K C=true)
 (hi:PySem.W.findIn K (.ref C) "__init__" =some (some (.ref f))) (hf:PySem.W.typeIn K (.ref f)=some (.type "function"))
 (h:codeAny (model prog w) (A.under (.builtin "type.__call__" ⟨.ref C::vs,kw⟩)) (.call (.ref f) ⟨.ref (s.heap.objs.size+1)::vs,kw⟩) (PySem.W.InitBack (s.heap.objs.size+1) R)
  { s with heap:=(s.heap.push waF).push (waL C s.heap.objs.size) }):
 codeAny (model prog w) A (.call (.ref C) ⟨vs,kw⟩) R s:=by
 obtain⟨hh,g,d,t,os⟩:=s;exact PySem.W.make_core (PySem.W.makes_of X hm) (PySem.W.looks_findIn X hi) (fun self=>PySem.W.bind_fn X self hf) (.inl rfl) h
end
def qfG(f:Str)(v:V):List (Str×V)->List (Str×V)
 | []=>[(f,v)]
 |(g,x)::r=>if g=f then(g,v)::r else(g,x)::qfG f v r
theorem qee(f g:Str)(v:V):∀ fs:List (Str×V),(qfG f v fs).lookup g=if g=f then some v else fs.lookup g
 | []=>by
  show List.lookup g [(f,v)]=_
  by_cases h:g=f
  · have hb:(g==f)=true:=beq_iff_eq.mpr h
    simp only[List.lookup,hb,if_pos h]
  · have hb:(g==f)=false:=beq_eq_false_iff_ne.mpr h
    simp only[List.lookup,hb,if_neg h]
 |(k,x)::r=>by
  have ih:=qee f g v r;rw[show qfG f v ((k,x)::r)=(if k=f then(k,v)::r else(k,x)::qfG f v r)from rfl]
  by_cases hk:k=f
  · rw[if_pos hk]
    by_cases h:g=k
    · have hb:(g==k)=true:=beq_iff_eq.mpr h
      simp only[List.lookup,hb,if_pos (h.trans hk)]
    · have hb:(g==k)=false:=beq_eq_false_iff_ne.mpr h
      simp only[List.lookup,hb,if_neg (fun e:g=f=>h (e.trans hk.symm))]
  · rw[if_neg hk]
    by_cases h:g=k
    · have hb:(g==k)=true:=beq_iff_eq.mpr h
      simp only[List.lookup,hb,if_neg (fun e:g=f=>hk (h.symm.trans e))]
    · have hb:(g==k)=false:=beq_eq_false_iff_ne.mpr h
      simp only[List.lookup,hb];exact ih
theorem qel(f:Str)(v:V):∀ fs:List (Str×V),f∈(qfG f v fs).map (·.1)/\∀ g,g∈fs.map (·.1)->g∈(qfG f v fs).map (·.1)
 | []=>⟨by simp[qfG],fun g h=>by simp at h⟩
 |(k,x)::r=>by
  obtain⟨i1,i2⟩:=qel f v r;rw[show qfG f v ((k,x)::r)=(if k=f then(k,v)::r else(k,x)::qfG f v r)from rfl]
  by_cases hk:k=f
  · rw[if_pos hk]
    subst hk;exact⟨by simp,fun g h=>by simpa using h⟩
  · rw[if_neg hk]
    refine⟨?_,fun g h=>?_⟩
    · rw[wad]
      exact wap _ i1
    · rw[wad]at h ⊢
      rcases was.mp h with e|e
      · exact was.mpr (.inl e)
      · exact wap _ (i2 g e)
theorem qeg(f:Str)(v:V):∀ fs:List (Str×V),(qfG f v fs).length<=fs.length+1
 | []=>by simp[qfG]
 |(k,x)::r=>by
  have ih:=qeg f v r;rw[show qfG f v ((k,x)::r)=(if k=f then(k,v)::r else(k,x)::qfG f v r)from rfl]
  by_cases hk:k=f
  · rw[if_pos hk,waf,waf];omega
  · rw[if_neg hk,waf,waf];omega
theorem RelO.some_of{v:V}{o:Option Value}(r:RelO (some v) o):∃ u,o=some u/\RelV v u:=by
 cases o with
 |none=>exact(show False from r).elim
 |some u=>exact⟨u,rfl,r⟩
theorem RelO.none_of{o:Option Value}(r:RelO none o):o=none:=by
 cases o with
 |none=>rfl
 |some u=>exact(show False from r).elim
theorem qmD{v:V}{u:Value}(r:RelV v u):PySem.W.handedIn u=true:=by
 cases v with
 |non=>cases(show u=Value.none from r);rfl
 |bl b=>cases(show u=Value.bool b from r);rfl
 |int i=>obtain⟨t,e⟩:=(show ∃ t,u=Value.int i t from r);cases e;rfl
 |str x=>obtain⟨t,e⟩:=(show ∃ t,u=Value.str x t from r);cases e;rfl
 |byt b=>obtain⟨t,e⟩:=(show ∃ t,u=Value.bytes b t from r);cases e;rfl
 |flt b=>obtain⟨t,e⟩:=(show ∃ t,u=Value.float b t from r);cases e;rfl
 |ref a=>cases(show u=Value.ref a from r);rfl
 |ty n=>cases(show u=Value.type n from r);rfl
section
variable {P:Program}{w:World}{H H':Hp}{h h':Heap}{a C dx:Addr}{fs fs':List (Str×V)}
theorem qiK(hok:HOk P w H h)(e:H a=some (.ins C dx fs)):∃ mA,ObjM h a dx C mA/\(∀ f,RelO (fs.lookup f) (mA f))/\PySem.Within mA (fs.map (·.1))/\fs.length<=1000/\H dx=some (.own a):=by
 obtain⟨d,z,ne,ob,mA,n,r,q⟩:=(show ObjOk P w H h a (.ins C dx fs)from hok a _ e)
 exact⟨mA,⟨ob,n,ne⟩,r,q,z,d⟩
end
structure Cls(K:Frg)(C:Addr):Prop where
 pg:wa4 K C Str.empty=true
 hd:wbb K C=true
 po:PySem.W.plainOver K C=true
 sa:PySem.W.findIn K (.ref C) "__setattr__" =some (some (.builtin "object.__setattr__"))
theorem Cls.get{K:Frg}{C:Addr}(c:Cls K C)(f:Str):wa4 K C f=true:=c.pg
def NoAttr(K:Frg)(C:Addr)(f:Str):Prop:=PySem.W.findIn K (.ref C) f=some none
theorem NoAttr.taker{K:Frg}{C:Addr}{f:Str}(n:NoAttr K C f):PySem.W.takerIn K C f=some none:=by
 unfold PySem.W.takerIn;rw[show PySem.W.findIn K (.ref C) f=some none from n]
 rfl
structure Con(K:Frg)(C:Addr)(f:Str)(v:V)(u:Value):Prop where
 at_:PySem.W.findIn K (.ref C) f=some (some u)
 rel:RelV v u
 get:PySem.W.specialIn K u "__get__" =some none
 cp:PySem.W.copiedNames.contains f=false
structure Meth(K:Frg)(C:Addr)(m:Str)(f:Addr):Prop where
 at_:PySem.W.findIn K (.ref C) m=some (some (.ref f))
 fn:PySem.W.isFn K (.ref f)=true
 kp:PySem.W.keepIn K (.ref f)=true
section
variable {X:Cx}{pins:List (Addr×Obj)}{σ:St}{H:Hp}{s:Shared}{a C dx:Addr}{fs:List (Str×V)}{f:Str}{v:V}{A:Around}{E:Value->Shared->Prop}
theorem qkr{b:Bool}{Q:Value->Shared->Prop}(I:Inv X pins σ H s)(e:H a=some (.ins C dx fs))(c:Cls X.K C)(n:NoAttr X.K C f)(l:fs.lookup f=some v)
 (h:∀ u s',Inv X pins σ H s'->RelV v u->Q u s'):wpAny (model X.prog X.w) A (getAttr (.ref a) f b) Q E s:=by
 obtain⟨mA,O,r,_,_,_⟩:=qiK I.hok e;obtain⟨u,hu,ru⟩:=RelO.some_of (v:=v) (o:=mA f) (by rw[<-l];exact r f)
 exact get_map I.kIn O (c.get f) c.hd n hu (qmD ru) (h u _ (I.tok _) ru)
theorem qff{m:Str}{g:Addr}{pl:Sem Bool}{Q:Value×List Value->Shared->Prop}(I:Inv X pins σ H s)(e:H a=some (.ins C dx fs))(c:Cls X.K C)(k:Meth X.K C m g)(l:fs.lookup m=none)
 (h:Q (.ref g,[.ref a]) s):wpAny (model X.prog X.w) A (getMethod (.ref a) m pl) Q E s:=by
 obtain⟨mA,O,r,_,_,_⟩:=qiK I.hok e;have hn:mA m=none:=RelO.none_of (by rw[<-l];exact r m)
 exact qov I.kIn O (c.get m) k.at_ k.fn hn h
theorem qjN{y:V}{u:Value}{Q:Unit->Shared->Prop}(I:Inv X pins σ H s)(e:H a=some (.ins C dx fs))(c:Cls X.K C)(n:NoAttr X.K C f)(hl:fs.length<1000)(ry:RelV y u)
 (h:∀ s',Inv X pins σ (upd H a (.ins C dx (qfG f y fs))) s'->Q () s'):wpAny (model X.prog X.w) A (setAttr (.ref a) f u) Q E s:=by
 obtain⟨mA,O,r,wi,_,ho⟩:=qiK I.hok e;have hz:(fs.map (·.1)).length<=sizeLine:=by rw[wab,sizeLine_eq];omega
 refine qp8 I.kIn O c.sa c.po n.taker c.hd wi hz fun h' O' sb=>h _ ?_
 have hd:∃ o,h'.get? dx=some o:=let⟨o,_,_,e',_⟩:=O'.ns;⟨o,e'⟩;refine I.write (x:=a) (e:=dx) (by rw[e];exact True.intro) (.inr ho) (fun b q hb z=>(sb.2 b hb).trans z) hd ?_
 refine⟨by rw[qae O.ne];exact ho,?_,O.ne,O'.obj,_,O'.ns,fun g=>?_,fun g hg=>?_⟩
 · have:=qeg f y fs;omega
 · show RelO ((qfG f y fs).lookup g) (if g=f then some u else mA g)
   rw[qee]
   by_cases q:g=f
   · rw[if_pos q,if_pos q];exact ry
   · rw[if_neg q,if_neg q];exact r g
 · by_cases q:g=f
   · rw[q];exact(qel f y fs).1
   · refine(qel f y fs).2 g (wi g fun z=>hg ?_)
     show(if g=f then some u else mA g)=none
     rw[if_neg q];exact z
theorem Inv.made(I:Inv X pins σ H s):Inv X pins σ (upd (upd H s.heap.objs.size (.own (s.heap.objs.size+1))) (s.heap.objs.size+1) (.ins C s.heap.objs.size []))
 { s with heap:=(s.heap.push waF).push (waL C s.heap.objs.size) }:=by
 have e1:(s.heap.push waF).get? s.heap.objs.size=some waF:=Heap.get?_push_size s.heap rfl;have e2:((s.heap.push waF).push (waL C s.heap.objs.size)).get? (s.heap.objs.size+1)=some (waL C s.heap.objs.size):=by
  have:=Heap.get?_push_size (s.heap.push waF) (o:=waL C s.heap.objs.size) rfl
  rwa [Heap.size_push]at this
 have e3:(s.heap.push waF).Ns s.heap.objs.size (fun _=>none):=⟨waF,#[],_,e1,rfl,(fun e he=>absurd he (by simp)),fun _=>rfl⟩
 have I1:=I.laid (a:=s.heap.objs.size) (o:=.own (s.heap.objs.size+1)) (h':=s.heap.push waF) (t':=s.toks) (fun b u q=>Heap.get?_push_of_some _ q) (wac _) ⟨_,e1⟩
 refine I1.laid (a:=s.heap.objs.size+1) (o:=.ins C s.heap.objs.size []) (t':=s.toks) (fun b u q=>Heap.get?_push_of_some _ q) (Nat.le_of_eq (Heap.size_push _ _)) ?_
 have ne:s.heap.objs.size≠s.heap.objs.size+1:=waq (Nat.lt_succ_self _);refine⟨by rw[qae ne,qaj],waV _,ne,e2,fun _=>none,(Heap.Ns1.of_empty e3).at fun o q=>Heap.get?_push_of_some _ q,fun _=>True.intro,fun y hy=>absurd rfl hy⟩
theorem qr3{prog:Program}{w:World}{env:Env}{e:Expr}{f:Str}{pos:Pos}{s:Shared}{Q:Value->Shared->Prop}(hb:attributeBase e f env (eval e env)=eval e env)
 (h:wpAny (model prog w) A (eval e env) (fun o s₁=>wpAny (model prog w) A (getAttr o f true) Q E s₁) E s):wpAny (model prog w) A (eval (.Attribute e f pos) env) Q E s:=
 Attribute_any_ h (by rw[arm_eval_Attribute,hb])
end
noncomputable def qCx (K:Frg)(ta:TE)(f:Str):TE:=fun σ H Q=>ta σ H fun x H1=>∃ a C dx fs v,x= .ref a/\H1 a=some (.ins C dx fs)/\Cls K C/\NoAttr K C f/\fs.lookup f=some v/\Q v H1
noncomputable def qCR (K:Frg)(ta tv:TE)(f:Str):TS:=fun D σ H=>tv σ H fun y H1=>ta σ H1 fun x H2=>∃ a C dx fs,x= .ref a/\H2 a=some (.ins C dx fs)/\Cls K C/\NoAttr K C f/\fs.length<1000/\
 D.nx σ (upd H2 a (.ins C dx (qfG f y fs)))
section
variable {X:Cx}{o e value:Expr}{f:Str}{pos pos' tpos:Pos}{ta tv:TE}
theorem qtL(he:PE X e ta)(hb:attributeBase e f X.env (eval e X.env)=eval e X.env):PE X (.Attribute e f pos) (qCx X.K ta f):=by
 intro pins s σ H Q I h;refine qr3 hb (thn (he pins s σ H _ I h) fun u s1 ⟨x,H1,I1,rx,a,C,dx,fs,v,ex,ea,c,n,l,q⟩=>?_)
 subst ex;obtain rfl:u=Value.ref a:=rx;exact qkr I1 ea c n l fun u' s2 I2 ru=>⟨v,H1,I2,ru,q⟩
theorem qtB(ha:PE X o ta)(hv:PE X value tv)(hs:swapsWith value (some (.Attribute o f pos')) pos.line X.env=pure false):PS X (.Assign [.Attribute o f pos'] value pos) (qCR X.K ta tv f):=by
 intro pins s σ H D I h;refine plainObj_wpAny_Assign_Attribute (thn (hv pins s σ H _ I h) fun u s1 ⟨y,H1,I1,ry,q⟩=>thn (ha pins s1 σ H1 _ I1 q) fun ov s2 ⟨x,H2,I2,rx,a,C,dx,fs,ex,ea,c,n,l,q2⟩=>?_) hs
 subst ex;obtain rfl:ov=Value.ref a:=rx;exact qjN I2 ea c n l ry fun s3 I3=>⟨σ,_,I3,q2⟩
end
section
variable {X:Cx}{pins:List (Addr×Obj)}{σ:St}{H:Hp}{s:Shared}{A:Around}{E:Value->Shared->Prop}{Q:Value->Shared->Prop}{c:Value}{b:Bool}
inductive qm6(K:Frg)(H:Hp):V->Value->Prop where
 |non:qm6 K H .non (.type "NoneType")
 |bl (x:Bool):qm6 K H (.bl x) (.type "bool")
 |int (i:Int):qm6 K H (.int i) (.type "int")
 |str (x:Str):qm6 K H (.str x) (.type "str")
 |flt (x:UInt64):qm6 K H (.flt x) (.type "float")
 |lst {a:Addr} {xs:List V} (e:H a=some (.lst xs)):qm6 K H (.ref a) (.type "list")
 |frz {a:Addr} {o:Obj} {xs:List V} (e:H a=some (.frz o (.lst xs))):qm6 K H (.ref a) (.type "list")
 |tup {a:Addr} {xs:List V} (e:H a=some (.tup xs)):qm6 K H (.ref a) (.type "tuple")
 |dK {a:Addr} {kvs:List (Key×V)} (e:H a=some (.dK kvs)):qm6 K H (.ref a) (.type "dict")
 |dT {a:Addr} {kvs:List (List qbv×V)} (e:H a=some (.dT kvs)):qm6 K H (.ref a) (.type "dict")
 |ins {a C dx:Addr} {fs:List (Str×V)} (e:H a=some (.ins C dx fs)) (cl:Cls K C) (ha:PySem.W.findIn K (.ref C) "__class__" =some (some (.builtin "object.__class__")))
  (hn:PySem.W.specialIn K (.builtin "object.__class__") "__get__" =some (some (.builtin "getset_descriptor.__get__"))) (htk:PySem.W.takesIn K (.builtin "object.__class__")=some true)
  (hm:PySem.W.mroIn K C (.type "object")=some true):qm6 K H (.ref a) (.ref C)
end
structure Room(k:Nat)(A:Around):Prop where
 hd:A.handled=none
 dp:A.depth+3*k+5<recursionLimit
 un:A.units+16*k+200<cLine
theorem Room.mono{j k:Nat}{A:Around}(r:Room k A)(h:j<=k):Room j A:=⟨r.hd,by have:=r.dp;omega,by have:=r.un;omega⟩
theorem Room.deeper{k:Nat}{A:Around}(r:Room (k+1) A)(env:Env):Room k (A.deeper env):=
 ⟨r.hd,by have:=r.dp;show A.depth+1+3*k+5<_;omega,by have:=r.un;show A.units+3+16*k+200<_;omega⟩
theorem Room.in1{k:Nat}{A:Around}(r:Room (k+1) A):Room k A.in1:=
 ⟨r.hd,by have:=r.dp;show A.depth+3*k+5<_;omega,by have:=r.un;show A.units+1+16*k+200<_;omega⟩
theorem qj8{A:Around}{C:Addr}{us:List Value}{kw:List (Str×Value)}:(A.under (.builtin "type.__call__" ⟨.ref C::us,kw⟩)).depth=A.depth+1:=by
 first|rfl|simp[Around.under,Code.weight,Code.isCreation,Code.isGuard,Code.isCaller,Code.frames,Code.isFrame,guardIds]
theorem qj7{A:Around}{C:Addr}{us:List Value}{kw:List (Str×Value)}:(A.under (.builtin "type.__call__" ⟨.ref C::us,kw⟩)).units=A.units+1:=by
 first|rfl|simp[Around.under,Code.cUnits,Code.frames,Code.isFrame]
theorem Room.make{k:Nat}{A:Around}(r:Room (k+1) A)(C:Addr)(us:List Value)(kw:List (Str×Value)):Room k (A.under (.builtin "type.__call__" ⟨.ref C::us,kw⟩)):=
 ⟨r.hd,by have:=r.dp;rw[qj8];omega,by have:=r.un;rw[qj7];omega⟩
theorem Room.depth{k:Nat}{A:Around}(r:Room k A):A.depth<recursionLimit:=by have:=r.dp;omega
theorem Room.units{k:Nat}{A:Around}(r:Room k A):A.units+64<cLine:=by have:=r.un;omega
def qvy:TA:=fun _ H Q=>Q [] H
def qwb(ta:TE)(tr:TA):TA:=fun σ H Q=>ta σ H fun x H1=>tr σ H1 fun xs H2=>Q (x::xs) H2
section
variable {X:Cx}{e:Expr}{es:List Expr}{te:TE}{t:TA}{pos:Pos}
theorem qtN:PA X [] qvy:=fun _ _ _ _ H Q I h=>Calls.spliced_nil ⟨[],H,I,.nil,h⟩
theorem qqO(ha:PE X e te)(hr:PA X es t)(hs:starEach (e::es) X.env=(false,eval e X.env)::starEach es X.env:=by rfl):PA X (e::es) (qwb te t):=by
 intro pos pins s σ H Q I h;rw[hs];show wpAny _ _ (spliced ((false,eval e X.env)::backTo pos (starEach es X.env))) _ _ s;refine Calls.spliced_cons (thn (ha pins s σ H _ I h) fun u s1 ⟨x,H1,I1,r1,q1⟩=>?_)
 exact thn (hr pos pins s1 σ H1 _ I1 q1) fun us s2 ⟨xs,H2,I2,r2,q2⟩=>⟨x::xs,H2,I2,.cons r1 r2,q2⟩
def qCo(t:TA):TE:=fun σ H Q=>t σ H fun xs H1=>xs.length<=sizeLine/\∀ p,H1 p=none->Q (.ref p) (upd H1 p (.tup xs))
def qCu(t:TA):TE:=fun σ H Q=>t σ H fun xs H1=>xs.length<=sizeLine/\∀ p,H1 p=none->Q (.ref p) (upd H1 p (.lst xs))
theorem qtH{x1}(h:PA X es t):PE X (.Tuple es x1 pos) (qCo t):=by
 intro pins s σ H Q I hq;refine wpAny_Tuple_spliced (thn (h pos pins s σ H _ I hq) fun us s1 ⟨xs,H1,I1,r,z,q⟩=>⟨by rw[<-r.length];exact z,?_⟩)
 have hf:H1 s1.heap.objs.size=none:=I1.hok.fresh (wac _);refine⟨.ref s1.heap.objs.size,upd H1 s1.heap.objs.size (.tup xs),I1.laid (t':=s1.toks) (fun b u e=>Heap.get?_push_of_some _ e) (wac _) ?_,rfl,q _ hf⟩
 exact⟨z,us,r,⟨_,Heap.get?_push_size _ rfl,rfl,_,rfl⟩⟩
theorem qpj(h:PA X es t):PE X (.List es pos) (qCu t):=by
 intro pins s σ H Q I hq;refine wpAny_List_spliced (thn (h pos pins s σ H _ I hq) fun us s1 ⟨xs,H1,I1,r,z,q⟩=>⟨by rw[<-r.length];exact z,?_⟩)
 have hf:H1 s1.heap.objs.size=none:=I1.hok.fresh (wac _);refine⟨.ref s1.heap.objs.size,upd H1 s1.heap.objs.size (.lst xs),I1.laid (t':=s1.toks) (fun b u e=>Heap.get?_push_of_some _ e) (wac _) ?_,rfl,q _ hf⟩
 exact⟨z,us,0,r,Heap.get?_push_size _ rfl⟩
end
abbrev Sp:=List V->Hp->VK->XK->Prop
abbrev CXT:=List Env->Hp->Shared->XK->Value->Shared->Prop
structure Env0(P:Program)(w:World)(K:Frg)(mg:Str->Option Value)(base:Heap)(A:Around)(outer:List Env)(s:Shared)(H:Hp):Prop where
 frames:A.frames=some outer
 mod:Mod K mg base
 bs:∀ b o,base.get? b=some o->s.heap.get? b=some o/\H b=none
 bsz:base.objs.size<=s.heap.objs.size
 funs:s.heap.FunFrames base outer
 frf:∀ b∈frs outer,H b=none
 hok:HOk P w H s.heap
 bare:AllBare s.gens
def CE(outer:List Env)(P:Program)(w:World)(H:Hp)(s:Shared)(Q:VK)(u:Value)(s':Shared):Prop:=
 ∃ v H',s'.os=s.os/\AllBare s'.gens/\Un (frs outer) [] H H' s.heap s'.heap/\HOk P w H' s'.heap/\RelV v u/\Q v H'
def CR(CX:CXT)(outer:List Env)(P:Program)(w:World)(H:Hp)(s:Shared)(Q:VK)(E:XK)(r:Result)(s':Shared):Prop:=
 match r with
 | .ok (.ret u)=>CE outer P w H s Q u s'
 | .ok _=>False
 | .error e=>CX outer H s E e s'
structure FnOk(P:Program)(w:World)(K:Frg)(mg:Str->Option Value)(base:Heap)(CX:CXT)(k:Nat)(f:Addr)(fd:FuncData)(ps:List Str)(sp:Sp):Prop where
 len:∀ vs H Q E,sp vs H Q E->vs.length=ps.length
 run:∀ (A:Around) (outer:List Env) (s:Shared) (H:Hp) (args:Args) (us:List Value) (vs:List V) (Q:VK) (E:XK),Room k A->Env0 P w K mg base A outer s H->BindsTo s fd args (ps.zip us)->Vals vs us->sp vs H Q E->
  codeAny (model P w) A (.call (.ref f) args) (CR CX outer P w H s Q E) s
theorem FnOk.mono{P:Program}{w:World}{K:Frg}{mg:Str->Option Value}{base:Heap}{CX:CXT}{j k:Nat}{f:Addr}{fd:FuncData}{ps:List Str}{sp:Sp}(F:FnOk P w K mg base CX j f fd ps sp)(h:j<=k):
 FnOk P w K mg base CX k f fd ps sp:=⟨F.len,fun A outer s H args us vs Q E hr=>F.run A outer s H args us vs Q E (hr.mono h)⟩
theorem FnOk.imp{P:Program}{w:World}{K:Frg}{mg:Str->Option Value}{base:Heap}{CX:CXT}{k:Nat}{f:Addr}{fd:FuncData}{ps:List Str}{sp sp':Sp}(F:FnOk P w K mg base CX k f fd ps sp)
 (h:∀ vs H Q E,sp' vs H Q E->sp vs H Q E):FnOk P w K mg base CX k f fd ps sp':=
 ⟨fun vs H Q E q=>F.len vs H Q E (h _ _ _ _ q),fun A outer s H args us vs Q E hr he hb hv hs=>F.run A outer s H args us vs Q E hr he hb hv (h _ _ _ _ hs)⟩
theorem Env0.make{P:Program}{w:World}{K:Frg}{mg:Str->Option Value}{base:Heap}{A:Around}{outer:List Env}{s:Shared}{H:Hp}(e:Env0 P w K mg base A outer s H)(C:Addr)(us:List Value)(kw:List (Str×Value)):
 Env0 P w K mg base (A.under (.builtin "type.__call__" ⟨.ref C::us,kw⟩)) outer s H:=⟨by first|exact e.frames|(simpa[Around.under,Code.envs,Code.isFrame,pushEnvs]using e.frames),e.mod,e.bs,e.bsz,e.funs,e.frf,e.hok,e.bare⟩
theorem Env0.in1{P:Program}{w:World}{K:Frg}{mg:Str->Option Value}{base:Heap}{A:Around}{outer:List Env}{s:Shared}{H:Hp}(e:Env0 P w K mg base A outer s H):
 Env0 P w K mg base A.in1 outer s H:=⟨e.frames,e.mod,e.bs,e.bsz,e.funs,e.frf,e.hok,e.bare⟩
section
variable {X:Cx}{pins:List (Addr×Obj)}{σ:St}{H:Hp}{s s':Shared}
theorem Inv.env0(I:Inv X pins σ H s):Env0 X.prog X.w X.K X.mg X.base X.A X.stack s H:=
 ⟨I.ok.frames,I.ok.mod,I.bs,wal I.ok.bsz I.sz,I.stack,I.stkFree,I.hok,I.bare⟩
theorem Inv.after{Q:VK}{u:Value}(I:Inv X pins σ H s)(h:CE X.stack X.prog X.w H s Q u s'):EP X pins σ Q u s':=by
 obtain⟨v,H',os,bare,un,hok,r,q⟩:=h;obtain⟨hh,g,d,t,os'⟩:=s';obtain rfl:os'=s.os:=os;exact⟨v,H',I.call (h':=hh) (g':=g) (d':=d) (t':=t) (ch:=[]) un hok bare (fun b z=>absurd z (by simp)),r,q⟩
end
def qsJ(sp:Sp)(dvs:List V)(E:XK)(t:TA):TE:=fun σ H Q=>t σ H fun vs H1=>sp (vs++dvs) H1 Q E
noncomputable def qp2 (C:Addr)(m:Str)(sp:Sp)(dvs:List V)(E:XK)(ta:TE)(t:TA):TE:=fun σ H Q=>ta σ H fun x H1=>∃ a dx fs,x= .ref a/\H1 a=some (.ins C dx fs)/\fs.lookup m=none/\
 t σ H1 fun vs H2=>sp (x::(vs++dvs)) H2 Q E
noncomputable def qsF (C:Addr)(sp:Sp)(dvs:List V)(E:XK)(t:TA):TE:=fun σ H Q=>t σ H fun vs H1=>∀ x dx,H1 x=none->H1 dx=none->dx≠x->
 sp (.ref x::(vs++dvs)) (upd (upd H1 dx (.own x)) x (.ins C dx [])) (fun v H2=>v= .non/\Q (.ref x) H2) E
def Binds(K:Frg)(fd:FuncData)(ps:List Str)(ds:List Value):Prop:=
 ∀ (s:Shared) (us:List Value),K.In s.heap->(us++ds).length=ps.length->BindsTo s fd ⟨us,[]⟩ (ps.zip (us++ds))
theorem Binds.all{K:Frg}{fd:FuncData}{ps:List Str}(h:∀ us:List Value,us.length=ps.length->bindArgs fd ⟨us,[]⟩=pure (ps.zip us)):Binds K fd ps []:=fun s us _ hl=>by
 rw[waP]at hl ⊢;exact .of_eq (h us hl)
def Passes(CX:CXT)(X:Cx)(E:XK):Prop:=∀ (pins:List (Addr×Obj)) (σ:St) (H:Hp) (s:Shared) (e:Value) (s':Shared),Inv X pins σ H s->CX X.stack H s E e s'->X.xe e s'
section
variable {X:Cx}{CX:CXT}{k:Nat}{f C:Addr}{fd:FuncData}{ps:List Str}{sp:Sp}{dvs:List V}{ds:List Value}{E:XK}{x m:Str}{p pos apos:Pos}{e o:Expr}{es:List Expr}{ta:TE}{t:TA}
theorem qgu{pins:List (Addr×Obj)}{σ:St}{H:Hp}{s:Shared}{Q:VK}{us:List Value}{vs:List V}(F:FnOk X.prog X.w X.K X.mg X.base CX k f fd ps sp)(hr:Room k X.A)(hb:Binds X.K fd ps ds)(hd:Vals dvs ds)(hx:Passes CX X E)
 (I:Inv X pins σ H s) (r:Vals vs us) (h:sp (vs++dvs) H Q E):wpAny (model X.prog X.w) X.A (call (.ref f) us) (EP X pins σ Q) X.xe s:=by
 have r2:Vals (vs++dvs) (us++ds):=r.append hd;have hl:(us++ds).length=ps.length:=by rw[<-r2.length];exact F.len _ _ _ _ h
 refine wpAny_call (codeAny_mono (F.run X.A X.stack s H ⟨us,[]⟩ (us++ds) (vs++dvs) Q E hr I.env0 (hb s us I.kIn hl) r2 h) fun r s' hq=>?_)
 cases r with
 |error e=>exact hx pins σ H s e s' I hq
 |ok fl=>
  cases fl with
  |ret u=>exact I.after hq
  |next=>exact False.elim hq
  |brk=>exact False.elim hq
  |cont=>exact False.elim hq
theorem qqM(F:FnOk X.prog X.w X.K X.mg X.base CX k f fd ps sp)(hr:Room k X.A)(hg:Gl X x)(hm:X.mg x=some (.ref f))(hk:PySem.W.keepIn X.K (.ref f)=true)(hb:Binds X.K fd ps ds)(hd:Vals dvs ds)(hx:Passes CX X E)
 (ha:PA X (e::es) t) (hdb:(x==("__debug__":Str))=false:=by decide) (he:starEach (e::es) X.env=(false,eval e X.env)::starEach es X.env:=by rfl) (hpl:(backTo pos (starEach es X.env)).any (·.1)=false:=by rfl):
 PE X (.Call (.Name x p) (e::es) [] pos) (qsJ sp dvs E t):=by
 intro pins s σ H Q I h;refine wpAny_Call_Name_kw (qci I hg hm ?_ hdb);refine wa8 (h₀:=X.base) I.ok.mod.kin hk (thn (ha pos pins s σ H _ I h) fun us s1 ⟨vs,H1,I1,r,q⟩=>⟨I1.kIn,?_⟩) he hpl
 exact qgu F hr hb hd hx I1 r q
theorem qn8(F:FnOk X.prog X.w X.K X.mg X.base CX k f fd ps sp)(hr:Room k X.A)(hg:Gl X x)(hm:X.mg x=some (.ref f))(hk:PySem.W.keepIn X.K (.ref f)=true)(hb:Binds X.K fd ps ds)(hd:Vals dvs ds)(hx:Passes CX X E)
 (hdb:(x==("__debug__":Str))=false:=by decide):PE X (.Call (.Name x p) [] [] pos) (qsJ sp dvs E qvy):=by
 intro pins s σ H Q I h;refine wpAny_Call_Name_kw (qci I hg hm ?_ hdb);exact PySem.W.callWith_K0 I.kIn hk (qgu (us:=[]) F hr hb hd hx I .nil h)
theorem qqI{pl:Sem Bool}(he:PE X o ta)(c:Cls X.K C)(hm:Meth X.K C m f)(F:FnOk X.prog X.w X.K X.mg X.base CX k f fd ps sp)(hr:Room k X.A)(hb:Binds X.K fd ps ds)(hd:Vals dvs ds)(hx:Passes CX X E)(ha:PA X (e::es) t)
 (hst:starEach (e::es) X.env=(false,eval e X.env)::starEach es X.env:=by rfl) (hpl:(backTo pos (starEach es X.env)).any (·.1)=false:=by rfl)
 (ht:eval (.Call (.Attribute o m apos) (e::es) [] pos) X.env=(do
  let ov<-eval o X.env
  standAt apos.atName
  let(f,first) <-holding [ov] (getMethod ov m pl)
  callWith pos f first (backTo pos (starEach (e::es) X.env)) (backToKw pos (keywordEach [] X.env))):=by rfl):
 PE X (.Call (.Attribute o m apos) (e::es) [] pos) (qp2 C m sp dvs E ta t):=by
 intro pins s σ H Q I h;refine PySem.W.methodCall_KW (pl:=pl) (thn (he pins s σ H _ I h) fun u s1 ⟨x,H1,I1,rx,a,dx,fs,ex,ea,l,q⟩=>?_) ht
 subst ex;obtain rfl:u=Value.ref a:=rx;refine qff I1 ea c hm l ?_;refine wa8 (first:=[.ref a]) (h₀:=X.base) I.ok.mod.kin hm.kp (thn (ha pos pins s1 σ H1 _ I1 q) fun us s2 ⟨vs,H2,I2,r,q2⟩=>⟨I2.kIn,?_⟩) hst hpl
 exact qgu (us:=.ref a::us) (vs:=.ref a::vs) F hr hb hd hx I2 (.cons rfl r) q2
theorem qn0{pl:Sem Bool}(he:PE X o ta)(c:Cls X.K C)(hm:Meth X.K C m f)(F:FnOk X.prog X.w X.K X.mg X.base CX k f fd ps sp)(hr:Room k X.A)(hb:Binds X.K fd ps ds)(hd:Vals dvs ds)(hx:Passes CX X E)
 (ht:eval (.Call (.Attribute o m apos) [] [] pos) X.env=(do
  let ov<-eval o X.env
  standAt apos.atName
  let(f,first) <-holding [ov] (getMethod ov m pl)
  callWith pos f first (backTo pos (starEach [] X.env)) (backToKw pos (keywordEach [] X.env))):=by rfl):
 PE X (.Call (.Attribute o m apos) [] [] pos) (qp2 C m sp dvs E ta qvy):=by
 intro pins s σ H Q I h;refine PySem.W.methodCall_KW (pl:=pl) (thn (he pins s σ H _ I h) fun u s1 ⟨x,H1,I1,rx,a,dx,fs,ex,ea,l,q⟩=>?_) ht
 subst ex;obtain rfl:u=Value.ref a:=rx;refine qff I1 ea c hm l ?_;exact PySem.W.callWith_K0 (first:=[.ref a]) I1.kIn hm.kp (qgu (us:=[.ref a]) (vs:=[.ref a]) F hr hb hd hx I1 (.cons rfl .nil) q)
structure Mk(K:Frg)(C f:Addr):Prop where
 makes:PySem.W.makesIn K C=true
 init:PySem.W.findIn K (.ref C) "__init__" =some (some (.ref f))
 fn:PySem.W.isFn K (.ref f)=true
 kp:PySem.W.keepIn K (.ref C)=true
theorem qi6{pins:List (Addr×Obj)}{σ:St}{H:Hp}{s:Shared}{Q:VK}{us:List Value}{vs:List V}(M:Mk X.K C f)(F:FnOk X.prog X.w X.K X.mg X.base CX k f fd ps sp)(hr:Room (k+1) X.A)(hb:Binds X.K fd ps ds)(hd:Vals dvs ds)
 (hx:Passes CX X E) (I:Inv X pins σ H s) (r:Vals vs us)
 (h:∀ x dx,H x=none->H dx=none->dx≠x->sp (.ref x::(vs++dvs)) (upd (upd H dx (.own x)) x (.ins C dx [])) (fun v H2=>v= .non/\Q (.ref x) H2) E):
 wpAny (model X.prog X.w) X.A (call (.ref C) us) (EP X pins σ Q) X.xe s:=by
 have hq:=h (s.heap.objs.size+1) s.heap.objs.size (I.hok.fresh (Nat.le_succ _)) (I.hok.fresh (wac _)) (waq (Nat.lt_succ_self _));have I2:=Inv.made (C:=C) I;have r2:Vals (V.ref (s.heap.objs.size+1)::(vs++dvs)) (Value.ref (s.heap.objs.size+1)::(us++ds)):=.cons rfl (r.append hd);have hl:(Value.ref (s.heap.objs.size+1)::us++ds).length=ps.length:=by
  have e:=r2.length;rw[F.len _ _ _ _ hq]at e;exact e.symm
 refine wpAny_call (qod (f:=f) I.kIn M.makes M.init (beq_iff_eq.mp M.fn) (codeAny_mono (F.run _ X.stack _ _ ⟨Value.ref (s.heap.objs.size+1)::us,[]⟩ (Value.ref (s.heap.objs.size+1)::(us++ds)) _ _ E (hr.make C us [])
  (I2.env0.make C us []) (hb _ (Value.ref (s.heap.objs.size+1)::us) I2.kIn hl) r2 hq) fun r s' hq'=>?_))
 cases r with
 |error e=>exact hx pins σ _ _ e s' I2 hq'
 |ok fl=>
  cases fl with
  |ret u=>
   obtain⟨v,H',I3,rv,ev,q3⟩:=I2.after hq';subst ev;exact⟨rv,⟨V.ref (s.heap.objs.size+1),H',I3,rfl,q3⟩⟩
  |next=>exact False.elim hq'
  |brk=>exact False.elim hq'
  |cont=>exact False.elim hq'
theorem qqJ(M:Mk X.K C f)(F:FnOk X.prog X.w X.K X.mg X.base CX k f fd ps sp)(hr:Room (k+1) X.A)(hg:Gl X x)(hm:X.mg x=some (.ref C))(hb:Binds X.K fd ps ds)(hd:Vals dvs ds)(hx:Passes CX X E)
 (ha:PA X (e::es) t) (hdb:(x==("__debug__":Str))=false:=by decide) (he:starEach (e::es) X.env=(false,eval e X.env)::starEach es X.env:=by rfl) (hpl:(backTo pos (starEach es X.env)).any (·.1)=false:=by rfl):
 PE X (.Call (.Name x p) (e::es) [] pos) (qsF C sp dvs E t):=by
 intro pins s σ H Q I h;refine wpAny_Call_Name_kw (qci I hg hm ?_ hdb);refine wa8 (h₀:=X.base) I.ok.mod.kin M.kp (thn (ha pos pins s σ H _ I h) fun us s1 ⟨vs,H1,I1,r,q⟩=>⟨I1.kIn,?_⟩) he hpl
 exact qi6 M F hr hb hd hx I1 r q
theorem qn1(M:Mk X.K C f)(F:FnOk X.prog X.w X.K X.mg X.base CX k f fd ps sp)(hr:Room (k+1) X.A)(hg:Gl X x)(hm:X.mg x=some (.ref C))(hb:Binds X.K fd ps ds)(hd:Vals dvs ds)(hx:Passes CX X E)
 (hdb:(x==("__debug__":Str))=false:=by decide):PE X (.Call (.Name x p) [] [] pos) (qsF C sp dvs E qvy):=by
 intro pins s σ H Q I h;refine wpAny_Call_Name_kw (qci I hg hm ?_ hdb);exact PySem.W.callWith_K0 I.kIn M.kp (qi6 (us:=[]) M F hr hb hd hx I .nil h)
end
section
variable {X:Cx}{CX:CXT}{k:Nat}{f C:Addr}{fd:FuncData}{ps ks:List Str}{sp:Sp}{E:XK}{x m:Str}{p pos apos kpos:Pos}{e o:Expr}{es:List Expr}{kws:List Keyword}{te ta:TE}{t tk:TA}{nm:Option Str}
structure qBs(K:Frg)(fd:FuncData)(ps ks:List Str)(g:List Value->List Value->List Value)(gV:List V->List V->List V):Prop where
 to:∀ (s:Shared) (us ws:List Value),K.In s.heap->(g us ws).length=ps.length->BindsTo s fd ⟨us,ks.zip ws⟩ (ps.zip (g us ws))
 rel:∀ {vs:List V} {us:List Value} {zs:List V} {ws:List Value},Vals vs us->Vals zs ws->Vals (gV vs zs) (g us ws)
variable {g:List Value->List Value->List Value}{gV:List V->List V->List V}
end
structure qdc(N P:List Str)(sc:Scope):Prop where
 kind:sc.kind= .function
 co:sc.isCoroutine=false
 gen:sc.isGenerator=false
 nd:N.Nodup
 pre:N.take P.length=P
 par:∀ x∈P,sc.names.lookup x=some .local∨sc.names.lookup x=some .cell
 nofree:∀ y∈sc.names,y.2≠.free
theorem qhB{kindOf:Str->Option NameKind}{x:Str}:∀ {binds:List (Str×Value)} {m:Str->Option Value},(∀ v,(x,v)∉binds)->bindL kindOf binds m x=m x
 | [],_,_=>rfl
 |(n,v)::r,m,h=>by
  unfold bindL;rw[qhB fun w hw=>h w (wap _ hw)]
  split
  · have:x≠n:=by rintro rfl;exact h v waw
    simp[this]
  · rfl
theorem qhD{kindOf:Str->Option NameKind}{x:Str}:∀ {binds:List (Str×Value)} {m:Str->Option Value},(∀ v,(x,v)∉binds)->bindC kindOf binds m x=m x
 | [],_,_=>rfl
 |(n,v)::r,m,h=>by
  unfold bindC;rw[qhD fun w hw=>h w (wap _ hw)]
  split
  · rfl
  · have:x≠n:=by rintro rfl;exact h v waw
    simp[this]
theorem qhC{kindOf:Str->Option NameKind}{x:Str}{v:Value}:∀ {P:List Str} {vs:List Value} {i:Nat} {m:Str->Option Value},P.Nodup->P[i]? =some x->vs[i]? =some v->kindOf x=some .local->
 bindL kindOf (P.zip vs) m x=some v
 | [],_,_,_,_,h,_,_=>by simp at h
 |_::_,[],_,_,_,_,h,_=>by simp at h
 |p::P,w::vs,0,m,nd,h1,h2,hk=>by
  simp at h1 h2;subst h1;subst h2;show bindL kindOf ((p,w)::P.zip vs) m p=_;unfold bindL;rw[qhB fun v hv=>(waC.mp nd).1 (List.of_mem_zip hv).1,if_pos hk]
  simp
 |p::P,w::vs,i+1,m,nd,h1,h2,hk=>by
  show bindL kindOf ((p,w)::P.zip vs) m x=_;unfold bindL;exact qhC (i:=i) (waC.mp nd).2 (by simpa using h1) (by simpa using h2) hk
theorem qhE{kindOf:Str->Option NameKind}{x:Str}{v:Value}:∀ {P:List Str} {vs:List Value} {i:Nat} {m:Str->Option Value},P.Nodup->P[i]? =some x->vs[i]? =some v->kindOf x≠some .local->
 bindC kindOf (P.zip vs) m x=some v
 | [],_,_,_,_,h,_,_=>by simp at h
 |_::_,[],_,_,_,_,h,_=>by simp at h
 |p::P,w::vs,0,m,nd,h1,h2,hk=>by
  simp at h1 h2;subst h1;subst h2;show bindC kindOf ((p,w)::P.zip vs) m p=_;unfold bindC;rw[qhD fun v hv=>(waC.mp nd).1 (List.of_mem_zip hv).1,if_neg hk]
  simp
 |p::P,w::vs,i+1,m,nd,h1,h2,hk=>by
  show bindC kindOf ((p,w)::P.zip vs) m x=_;unfold bindC;exact qhE (i:=i) (waC.mp nd).2 (by simpa using h1) (by simpa using h2) hk
def start(N:List Str)(vs:List V):St:=vs.map some++List.replicate (N.length-vs.length) none
noncomputable def qpN (CX:CXT)(P:Program)(w:World)(K:Frg)(mg:Str->Option Value)(base:Heap)(N:List Str)(qual:Str)(scope:Scope)(f:Addr)(cd:Value)(A:Around)(outer:List Env)(s:Shared)(H:Hp)(E:XK):Cx where
 prog:=P
 w:=w
 K:=K
 mg:=mg
 base:=base
 A:=A.deeper (envOfC qual scope s.heap.objs.size f cd)
 N:=N
 s₀:=s
 H₀:=H
 env:=envOfC qual scope s.heap.objs.size f cd
 outer:=outer
 stack:=envOfC qual scope s.heap.objs.size f cd::outer
 ex:=[]
 calm:=true
 fn:=fun _=>true
 pn:=[]
 xe:=fun e s'=>wpAny (model P w) (A.deeper (envOfC qual scope s.heap.objs.size f cd)) (leaving (envOfC qual scope s.heap.objs.size f cd) e) (fun _ s''=>CX outer H s E e s'') (fun e' s''=>CX outer H s E e' s'') s'
theorem qjy{sc:Scope}{n:Nat}{x:Str}(h:sc.names.lookup x=some .cell):∃ c,(cellsFrom n sc.names []).lookup x=some c:=by
 have q:=PySem.W.cellsFrom_some sc.names n [] (.inl h);exact wa5.mp q
theorem qmj{CX:CXT}{P:Program}{w:World}{K:Frg}{mg:Str->Option Value}{base:Heap}{N ps:List Str}{qual:Str}{scope:Scope}{f:Addr}{cd:Value}{A:Around}{outer:List Env}{s s1:Shared}{H:Hp}{E:XK}{us:List Value}{vs:List V}
 (S:qdc N ps scope) (hd:A.handled=none) (e0:Env0 P w K mg base A outer s H) (hl:vs.length=ps.length) (r:Vals vs us)
 (x:InCallC s s.heap.objs.size (bindL (envOfC qual scope s.heap.objs.size f cd).kindOf (ps.zip us) fun _=>none) (cellsFrom (s.heap.objs.size+1) scope.names []) (bindC (envOfC qual scope s.heap.objs.size f cd).kindOf (ps.zip us) fun _=>none) s1):
 Inv (qpN CX P w K mg base N qual scope f cd A outer s H E) [] (start N vs) H s1:=by
 have hpl:ps.length<=N.length:=by have:=congrArg List.length S.pre;rw[List.length_take]at this;omega
 obtain⟨h1,tk,rfl,hk⟩:=x.done;have noA:∀ b:Addr,b∉(qpN CX P w K mg base N qual scope f cd A outer s H E).ex:=fun b z=>absurd (show b∈([]:List Addr)from z) (by simp)
 refine⟨⟨e0.mod,S.kind,rfl,rfl,wac _,fun y z c h1 h2=>?_,fun y hy=>?_,fun y c _ h=>?_,fun _=>hd,Around.frames_deeper e0.frames,.inr ⟨rfl,rfl⟩,fun b z=>absurd z (noA b),e0.bs,e0.bsz,fun b _ _=>noA b,fun b z=>absurd z (noA b),e0.funs,e0.frf⟩,
  rfl,e0.bare,Un.kept hk,⟨_,x.toInCall.ns,fun i y v h1 h2 h3=>?_⟩,fun y c h=>⟨_,x.cell y c h⟩,e0.hok.fresh (wac _),fun y c h=>?_,fun p hp=>absurd (show p∈([]:List (Addr×Obj))from hp) (by simp),e0.hok.kept hk,?_⟩
 · exact name_of_addr x.apart (PySem.mem_of_lookup h1) (PySem.mem_of_lookup h2)
 · have hy:scope.names.lookup y=some .cell∨scope.names.lookup y=some .free:=hy
   rcases hy with hy|hy
   · exact qjy hy
   · exact absurd rfl (S.nofree _ (PySem.mem_of_lookup hy))
 · exact waU (x.above y c (PySem.mem_of_lookup h))
 · have hi:i<vs.length:=by
    unfold start at h2
    by_cases hi:i<vs.length
    · exact hi
    · rw[List.getElem?_append_right (by simpa using hi)]at h2
      rw[List.getElem?_replicate]at h2;split at h2<;>cases h2
   have ha:vs[i]? =some v:=by
    unfold start at h2;rw[List.getElem?_append_left (by simpa using hi),List.getElem?_map]at h2
    cases e:vs[i]? with
    |none=>rw[e]at h2;cases h2
    |some a=>rw[e]at h2;cases h2;rfl
   obtain⟨u,hu,rv⟩:=r.get ha;have hp:ps[i]? =some y:=by
    rw[<-S.pre,List.getElem?_take_of_lt (by omega)];exact h1
   have ndP:ps.Nodup:=by rw[<-S.pre];exact S.nd.sublist (List.take_sublist _ _)
   refine⟨u,rv,?_⟩;rcases S.par y (List.mem_of_getElem? hp)with k|k
   · exact .inl ⟨k,qhC ndP hp hu k⟩
   · obtain⟨c,e⟩:=qjy (n:=s.heap.objs.size+1) k
     refine .inr ⟨.inl k,c,e,?_⟩;have q:=x.cell y c e;rw[qhE ndP hp hu (by show scope.names.lookup y≠_;rw[k];decide)]at q
     exact q
 · exact e0.hok.fresh (waU (x.above y c (PySem.mem_of_lookup h)))
 · unfold start
   show _=N.length;rw[wao,wab,wa2];omega
theorem qxO{CX:CXT}{P:Program}{w:World}{K:Frg}{mg:Str->Option Value}{base:Heap}{k:Nat}{f:Addr}{name qual:Str}{params:Arguments}{body:List Stmt}{scope:Scope}{dV kV doc pm cdv ct oc:Value}{an od:Option Addr}
 {osl:Array (Option Value)} {N ps:List Str} {sp:Sp} (lk:K.lookup f=some ⟨oc,od,.func (PySem.W.fnOf name qual params body scope dV kV doc pm an cdv ct),osl⟩) (hcd:PySem.W.codeIn K cdv qual=true) (S:qdc N ps scope)
 (len:∀ vs H Q E,sp vs H Q E->vs.length=ps.length)
 (hbody:∀ (A:Around) (outer:List Env) (s:Shared) (H:Hp) (vs:List V) (Q:VK) (E:XK),Room k (A.deeper (envOfC qual scope s.heap.objs.size f cdv))->sp vs H Q E->
  ∃ t,PSs (qpN CX P w K mg base N qual scope f cdv A outer s H E) body t/\t { nx:=fun _ H'=>Q .non H',rt:=Q } (start N vs) H):
 FnOk P w K mg base CX (k+1) f (PySem.W.fnOf name qual params body scope dV kV doc pm an cdv ct) ps sp:=by
 refine⟨len,fun A outer s H args us vs Q E hr e0 hb r hsp=>?_⟩
 have hl:=len _ _ _ _ hsp;have KX:K.In s.heap:=e0.mod.kin.keeps fun b o e=>(e0.bs b o e).1
 have lim:s.heap.NoLimit:=e0.mod.nolimit.keeps fun b o e=>(e0.bs b o e).1
 have hkind:∀ y∈ps.zip us,scope.names.lookup y.1=some .local∨(scope.names.lookup y.1=some .cell/\((cellsFrom (s.heap.objs.size+1) scope.names []).lookup y.1).isSome=true):=fun⟨n,v⟩ hy=>by
  rcases S.par n (List.of_mem_zip hy).1 with q|q
  · exact .inl q
  · exact .inr ⟨q,PySem.W.cellsFrom_some _ _ _ (.inl q)⟩
 refine codeAny_call_function hr.depth (KX _ _ lk) rfl S.co S.gen rfl (PySem.W.codeRec_of KX hcd) (hb _ _ _ _ ?_);refine wpAny_newFunctionEnv_cells S.kind hkind fun env he s1 x=>?_
 subst he;refine⟨lim.keeps x.toInCall.keep,codeAny_func ?_⟩;obtain⟨t,ht,hq⟩:=hbody A outer s H vs Q E (hr.deeper _) hsp;have I:Inv (qpN CX P w K mg base N qual scope f cdv A outer s H E) [] (start N vs) H s1:=qmj S hr.hd e0 hl r x;refine wpAny_mono (ht [] s1 (start N vs) H _ I hq) (fun fl s' hs=>?_) fun e s' hs=>hs
 have fin:∀ {σ':St} {H':Hp} {v:V} {u:Value},Inv (qpN CX P w K mg base N qual scope f cdv A outer s H E) [] σ' H' s'->RelV v u->Q v H'->CE outer P w H s Q u s':=
  fun {σ' H' v u} J rv q=>⟨v,H',J.os,J.bare,J.base,J.hok,rv,q⟩
 cases fl with
 |ret u=>
  obtain⟨v,σ',H',J,rv,q⟩:=hs;exact fin J rv q
 |next=>
  obtain⟨σ',H',J,q⟩:=hs;exact fin (v:=V.non) (u:=Value.none) J rfl q
 |brk=>
  obtain⟨_,_,_,q⟩:=hs;exact False.elim q
 |cont=>
  obtain⟨_,_,_,q⟩:=hs;exact False.elim q
section
variable {X:Cx}{x:Str}{p pos:Pos}{e:Expr}{es:List Expr}{t:TA}{id T:String}{r:List V->Hp->VK->Prop}
def tCB(r:List V->Hp->VK->Prop)(t:TA):TE:=fun σ H Q=>t σ H fun vs H1=>r vs H1 Q
theorem qn7(hc:CallR X (.builtin id) r)(hg:Gl X x)(hm:X.mg x=none)(hv:bootBuiltins x=some (.builtin id))(ha:PA X (e::es) t)(hn:x≠"__name__":=by decide)(hdb:(x==("__debug__":Str))=false:=by decide)
 (he:starEach (e::es) X.env=(false,eval e X.env)::starEach es X.env:=by rfl) (hpl:(backTo pos (starEach es X.env)).any (·.1)=false:=by rfl):PE X (.Call (.Name x p) (e::es) [] pos) (tCB r t):=by
 intro pins s σ H Q I h;refine wpAny_Call_Name_kw (qdh I hg hm hv ?_ hn hdb);exact PyProof.Rows.callWith_builtin1 (thn (ha pos pins s σ H _ I h) fun us s1 ⟨vs,H1,I1,r1,q1⟩=>hc pins s1 σ H1 vs us Q I1 r1 q1) he hpl
theorem qlI(hc:CallR X (.type T) r)(hg:Gl X x)(hm:X.mg x=none)(hv:bootBuiltins x=some (.type T))(ha:PA X (e::es) t)(hn:x≠"__name__":=by decide)(hdb:(x==("__debug__":Str))=false:=by decide)
 (he:starEach (e::es) X.env=(false,eval e X.env)::starEach es X.env:=by rfl) (hpl:(backTo pos (starEach es X.env)).any (·.1)=false:=by rfl):PE X (.Call (.Name x p) (e::es) [] pos) (tCB r t):=by
 intro pins s σ H Q I h;refine wpAny_Call_Name_kw (qdh I hg hm hv ?_ hn hdb);exact waB (thn (ha pos pins s σ H _ I h) fun us s1 ⟨vs,H1,I1,r1,q1⟩=>hc pins s1 σ H1 vs us Q I1 r1 q1) he hpl
end
end L2
namespace HT
open PySem PyProof.Rows
section
variable {prog:Program}{w:World}{A:Around}{E:Value->Shared->Prop}{s:Shared}
theorem cat_tup{t b:Addr}{vs ws:List Value}{Q:Value->Shared->Prop}(ht:IsTup s.heap t vs.toArray)(hb:IsTup s.heap b ws.toArray)(hv:vs≠[])
 (h1:ws= []->Q (.ref t) s) (h2:ws≠[]->Q (.ref s.heap.objs.size) { s with heap:=s.heap.push { cls:=.type "tuple",data:=.seq (vs++ws).toArray } })
 (hsz:vs.length+ws.length<=sizeLine):wpAny (model prog w) A (binaryOp .Add (.ref t) (.ref b)) Q E s:=by
 obtain⟨⟨cls,dd,data,sl⟩,ho,hc,n,hd⟩:=id ht;obtain⟨⟨cls2,dd2,data2,sl2⟩,ho2,hc2,n2,hd2⟩:=id hb;simp only at hc hd hc2 hd2;subst hc hd hc2 hd2;have e:vs.toArray++ws.toArray=(vs++ws).toArray:=by simp
 by_cases hw:ws= []
 · exact concat_meets ⟨_,ho,rfl⟩ ⟨_,ho2,rfl⟩ noFill_tuple_add seq_tuple_add PySem.F.slot_tuple_add PySem.F.entry_tuple_add (PySem.F.args_tuple_add_2 _ _)
    (tuple_addW1 t b vs.toArray ws.toArray n n2 dd dd2 sl sl2 (by simpa using hv) (by simp[hw])) ⟨ho,ho2,h1 hw⟩
 · refine concat_meets ⟨_,ho,rfl⟩ ⟨_,ho2,rfl⟩ noFill_tuple_add seq_tuple_add PySem.F.slot_tuple_add PySem.F.entry_tuple_add (PySem.F.args_tuple_add_2 _ _)
    (tuple_addW2 t b vs.toArray ws.toArray n n2 dd dd2 sl sl2 (by simpa using hv) (by simpa using hw) (by rw[wag,wag];exact hsz)) ⟨ho,ho2,?_⟩
   rw[e];exact h2 hw
def sIx(n d:Nat):Option Int->Nat
 |none=>d
 |some v=>if v<0 then(v+(n:Int)).toNat else min v.toNat n
theorem sIx_none(n d:Nat):sIx n d none=d:=rfl
theorem sIx_nat(n d k:Nat):sIx n d (some (k:Int))=min k n:=by
 show(if(k:Int)<0 then((k:Int)+(n:Int)).toNat else min (k:Int).toNat n)=min k n
 rw[if_neg (by omega),waQ]
theorem qsP(n d:Nat)(hd:d<=n)(o:Option Int):sIx n d o<=n:=by
 cases o with
 |none=>exact hd
 |some v=>
  show(if v<0 then(v+(n:Int)).toNat else min v.toNat n)<=n
  by_cases hv:v<0
  · rw[if_pos hv];omega
  · rw[if_neg hv];exact Nat.min_le_right _ _
theorem qmW(v:Int)(n d:Nat):(if v<0 then max (v+(n:Int)) 0 else min v (n:Int))=((sIx n d (some v):Nat):Int):=by
 show(if v<0 then max (v+(n:Int)) 0 else min v (n:Int))=(((if v<0 then(v+(n:Int)).toNat else min v.toNat n):Nat):Int)
 by_cases hv:v<0
 · simp only[if_pos hv];omega
 · simp only[if_neg hv];omega
theorem qkD(lo hi:Option Int)(n:Nat):Builtin.Slice.sliceAdjust lo hi 1 (n:Int)=(((sIx n 0 lo:Nat):Int),((sIx n n hi:Nat):Int)):=by
 have h1:¬((1:Int)<0):=by omega
 unfold Builtin.Slice.sliceAdjust;simp only[h1,if_false];refine Prod.ext ?_ ?_
 · cases lo with
   |none=>rfl
   |some v=>exact qmW v n 0
 · cases hi with
   |none=>rfl
   |some v=>exact qmW v n n
theorem qj2(i j:Nat):Builtin.Slice.slicePlaces (i:Int) (j:Int) 1=j-i:=by
 unfold Builtin.Slice.slicePlaces;have h1:(1:Int) > 0:=by omega
 simp only[h1,if_true,Int.ediv_one];split<;>omega
theorem qe2{v:Value}{o:Option Int}{Q:Option Int->Shared->Prop}(p:IsPart v o)(h:Q o s):wpAny (model prog w) A (Builtin.Slice.slicePartIndex v) Q E s:=by
 cases p with
 |none=>exact slicePart_none h
 |int i t=>exact slicePart_int h
theorem qbQ{sl:Addr}{vl vu:Value}{lo hi:Option Int}{n:Nat}{Q:Int×Int×Nat->Shared->Prop}(hs:s.heap.IsSliceOf sl vl vu .none)(pl:IsPart vl lo)(pu:IsPart vu hi)
 (h:Q (((sIx n 0 lo:Nat):Int),1,sIx n n hi-sIx n 0 lo) s):wpAny (model prog w) A (Builtin.Slice.sliceApplied (.ref sl) (pure (n:Int))) Q E s:=by
 obtain⟨os,hos,hcs,hds⟩:=id hs;unfold Builtin.Slice.sliceApplied Builtin.Slice.sliceFields;refine wpAny_bind (wpAny_bind (wpAny_field hos hds (x:=vl) rfl (wpAny_bind (wpAny_field hos hds (x:=vu) rfl (wpAny_bind (wpAny_field hos hds (x:=.none) rfl (wpAny_pure ?_)))))));refine wpAny_bind (slicePart_none ?_);show wpAny _ _ (if((1:Int)==0)=true then _ else _) _ _ s
 rw[if_neg (by decide)]
 refine wpAny_bind (qe2 pl (wpAny_bind (qe2 pu (wpAny_bind (wpAny_pure ?_)))));show wpAny _ _ (match Builtin.Slice.sliceAdjust lo hi 1 (n:Int)with|(lo,hi)=>pure (lo,(1:Int),Builtin.Slice.slicePlaces lo hi 1)) _ _ s
 rw[qkD lo hi n];show wpAny _ _ (pure (((sIx n 0 lo:Nat):Int),(1:Int),Builtin.Slice.slicePlaces ((sIx n 0 lo:Nat):Int) ((sIx n n hi:Nat):Int) 1)) _ _ s;rw[qj2];exact wpAny_pure h
theorem qnY(xs:Array Value)(i k:Nat):((List.range k).filterMap fun(m:Nat)=>xs[((i:Int)+(m:Int)*1).toNat]?).toArray=((xs.toList.drop i).take k).toArray:=by
 have e:(fun(m:Nat)=>xs[((i:Int)+(m:Int)*1).toNat]?)=fun m=>xs[i+m]?:=by
  funext m;have:((i:Int)+(m:Int)*1).toNat=i+m:=by omega
  rw[this]
 rw[e];have:=pick_run xs i k;rw[List.filterMap_map]at this;have e2:((fun x=>xs[x]?) ∘ fun x=>i+x)=fun m=>xs[i+m]?:=rfl
 rw[e2]at this;rw[this]
theorem getItem_tuple_cut{t sl:Addr}{items:Array Value}{vl vu:Value}{lo hi:Option Int}{Q:Value->Shared->Prop}(ht:IsTup s.heap t items)(hs:s.heap.IsSliceOf sl vl vu .none)(pl:IsPart vl lo)(pu:IsPart vu hi)
 (hw:¬(sIx items.size 0 lo=0/\sIx items.size items.size hi=items.size))
 (h:Q (.ref s.heap.objs.size) { s with heap:=s.heap.push { cls:=.type "tuple",data:=.seq ((items.toList.drop (sIx items.size 0 lo)).take (sIx items.size items.size hi-sIx items.size 0 lo)).toArray } })
 (hsz:items.size<=sizeLine):wpAny (model prog w) A (getItem (.ref t) (.ref sl)) Q E s:=by
 have htake:sizeOk (.seq ((items.toList.drop (sIx items.size 0 lo)).take (sIx items.size items.size hi-sIx items.size 0 lo)).toArray):=by
  show((items.toList.drop (sIx items.size 0 lo)).take (sIx items.size items.size hi-sIx items.size 0 lo)).toArray.size<=sizeLine;rw[wag,List.length_take,List.length_drop,Array.length_toList];omega
 have hj:sIx items.size items.size hi<=items.size:=qsP _ _ (wac _) hi;obtain⟨os,hos,hcs,hds⟩:=id hs;have hTs:s.TypeIs (.ref sl) "slice":=⟨os,hos,hcs⟩;unfold getItem
 try with_reducible refine wpAny_holding ?_
 first|refine wpAny_bind (wpAny_pure ?_)|skip
 refine wpAny_bind (wpAny_sequenceKey ht.typeIs (by decide) ?_)
 refine wpAny_bind (wpAny_callSpecial?_slot (name:=Str.ofString "__getitem__") ht.typeIs waH
  (wpAny_call_entry waH ht.typeIs entry_tuple_getitem ?_ (args_tuple_getitem _ _)))
 show wpAny _ _ (Builtin.Tuple.tupleItemsOf (.ref t) >>= _) _ _ s;refine wpAny_bind (tupleItemsOf_ ht ?_);refine wpAny_bind (wpAny_typeOf hTs ?_);rw[if_pos (by decide)]
 refine wpAny_bind (qbQ hs pl pu ?_);have hno:¬((((sIx items.size 0 lo:Nat):Int)==0&&(1:Int)==1&&(sIx items.size items.size hi-sIx items.size 0 lo)==items.size)=true):=by
  intro q;rw[waa,waa]at q;have q1:((sIx items.size 0 lo:Nat):Int)=0:=eq_of_beq q.1.1;have q2:sIx items.size items.size hi-sIx items.size 0 lo=items.size:=eq_of_beq q.2;exact hw ⟨by omega,by omega⟩
 show wpAny _ _ (if(((sIx items.size 0 lo:Nat):Int)==0&&(1:Int)==1&&(sIx items.size items.size hi-sIx items.size 0 lo)==items.size)=true then _ else _) _ _ s
 rw[if_neg hno,qnY]
 first
  |exact wpAny_bind (m:=Builtin.Tuple.tupleExact _) (wpAny_newObj_type (wpAny_pure ⟨_,rfl,wpAny_pure h⟩) htake)
  |exact wpAny_bind (m:=Builtin.Tuple.tupleExact _) (wpAny_newObj_type (wpAny_bind (wpAny_pure (wpAny_pure ⟨_,rfl,wpAny_pure h⟩))) htake)
  |exact wpAny_bind (wpAny_bind (m:=Builtin.Tuple.tupleExact _) (wpAny_newObj_type (wpAny_pure (wpAny_pure ⟨_,rfl,wpAny_pure h⟩)) htake))
  |exact wpAny_bind (wpAny_bind (m:=Builtin.Tuple.tupleExact _) (wpAny_newObj_type (wpAny_pure ⟨_,rfl,wpAny_pure h⟩) htake))
end
end HT
namespace L2
open PySem PySem.Spec PyProof.Rows
abbrev TO:=St->Hp->(Option Int->Hp->Prop)->Prop
def PO(X:Cx)(e:Option Expr)(t:TO):Prop:=
 ∀ (pins:List (Addr×Obj)) (s:Shared) (σ:St) (H:Hp) (Q:Option Int->Hp->Prop),Inv X pins σ H s->t σ H Q->
  wpAny (model X.prog X.w) X.A (evalPart e X.env) (fun u s'=>∃ o H',Inv X pins σ H' s'/\IsPart u o/\Q o H') X.xe s
def qp1:TO:=fun _ H Q=>Q none H
def qv1(t:TE):TO:=fun σ H Q=>t σ H fun x H1=>∃ i,x= .int i/\Q (some i) H1
section
variable {X:Cx}{e:Expr}{te:TE}{lo hi:Option Expr}{tl th:TO}{pos p2:Pos}
theorem qqG:PO X none qp1:=by
 intro pins s σ H Q I h;rw[evalPart_none];exact wpAny_pure ⟨none,H,I,.none,h⟩
theorem qqF(h:PE X e te):PO X (some e) (qv1 te):=by
 intro pins s σ H Q I hw;rw[evalPart_some];refine thn (h pins s σ H _ I hw) fun u s1 ⟨x,H1,I1,r1,q1⟩=>?_
 obtain⟨i,rfl,q⟩:=q1;obtain⟨t,rfl⟩:=r1;exact⟨some i,H1,I1,.int i t,q⟩
def SlR(X:Cx)(r:V->Option Int->Option Int->Hp->VK->Prop):Prop:=
 ∀ (pins:List (Addr×Obj)) (s:Shared) (σ:St) (H:Hp) (x:V) (v vl vu:Value) (lo hi:Option Int) (sl:Addr) (Q:VK),Inv X pins σ H s->RelV x v->s.heap.IsSliceOf sl vl vu .none->IsPart vl lo->IsPart vu hi->r x lo hi H Q->
  ∃ T id,typeLookup (.type T) "__getitem__" =pure (some (.builtin id))/\s.TypeIs v T/\wpAny (model X.prog X.w) X.A (getItem v (.ref sl)) (EP X pins σ Q) X.xe s
theorem SlR.or{r r':V->Option Int->Option Int->Hp->VK->Prop}(h:SlR X r)(h':SlR X r'):SlR X (fun x lo hi H Q=>r x lo hi H Q∨r' x lo hi H Q):=by
 intro pins s σ H x v vl vu lo hi sl Q I rx hs pl pu q;rcases q with q|q
 · exact h pins s σ H x v vl vu lo hi sl Q I rx hs pl pu q
 · exact h' pins s σ H x v vl vu lo hi sl Q I rx hs pl pu q
noncomputable def tSl (r:V->Option Int->Option Int->Hp->VK->Prop)(te:TE)(tl th:TO):TE:=fun σ H Q=>te σ H fun x H1=>tl σ H1 fun l H2=>th σ H2 fun u H3=>r x l u H3 Q
theorem qnZ{r:V->Option Int->Option Int->Hp->VK->Prop}(hr:SlR X r)(he:PE X e te)(hl:PO X lo tl)(hu:PO X hi th):PE X (.Subscript e (.Slice lo hi none p2) pos) (tSl r te tl th):=by
 intro pins s σ H Q I h;refine Subscript_ (thn (he pins s σ H _ I h) fun v s1 ⟨x,H1,I1,r1,q1⟩=>?_)
 refine wpAny_Slice (thn (hl pins s1 σ H1 _ I1 q1) fun vl s2 ⟨l,H2,I2,pl,q2⟩=>thn (hu pins s2 σ H2 _ I2 q2) fun vu s3 ⟨u,H3,I3,pu,q3⟩=>?_)
 rw[evalPart_none];refine wpAny_pure ?_;have I4:Inv X pins σ H3 { s3 with heap:=s3.heap.push { cls:=.type "slice",data:=.fields #[vl,vu,.none] } }:=I3.kept (t':=s3.toks) fun b ob q=>Heap.get?_push_of_some _ q
 obtain⟨T,id,hT,ht,hg⟩:=hr pins { s3 with heap:=s3.heap.push { cls:=.type "slice",data:=.fields #[vl,vu,.none] } } σ H3 x v vl vu l u s3.heap.objs.size Q I4 r1 (Heap.IsSliceOf.new ..) pl pu q3
 show wpAny (model X.prog X.w) X.A (subscriptTail e (.Slice lo hi none p2) v (.ref s3.heap.objs.size)) (EP X pins σ Q) X.xe { s3 with heap:=s3.heap.push { cls:=.type "slice",data:=.fields #[vl,vu,.none] } }
 exact tail_any (ops:=[.ref s3.heap.objs.size,v]) ht hT hg (by with_unfolding_all rfl)
def qpO(xs:List V)(lo hi:Option Int):List V:=(xs.drop (HT.sIx xs.length 0 lo)).take (HT.sIx xs.length xs.length hi-HT.sIx xs.length 0 lo)
theorem qeC(xs:List V)(lo hi:Option Int):(qpO xs lo hi).length<=xs.length:=by
 unfold qpO;rw[List.length_take,List.length_drop];omega
noncomputable def qDa (K:Frg):V->Option Int->Option Int->Hp->VK->Prop:=fun x lo hi H Q=>∃ a xs,x= .ref a/\SqT K H a xs/\
 ¬(HT.sIx xs.length 0 lo=0/\HT.sIx xs.length xs.length hi=xs.length)/\∀ p,H p=none->Q (.ref p) (upd H p (.tup (qpO xs lo hi)))
theorem qsL:SlR X (qDa X.K):=by
 intro pins s σ H x v vl vu lo hi sl Q I rx hs pl pu h;obtain⟨a,xs,rfl,hx,hw,q⟩:=h;cases rx;obtain⟨its,r,ht,hz⟩:=I.tuple hx;have hlen:its.toArray.size=xs.length:=by rw[wag];exact r.length.symm
 refine⟨"tuple",_,PyProof.Rows.slot_tuple_getitem.lookup,ht.typeIs,?_⟩;refine HT.getItem_tuple_cut ht hs pl pu (by rw[hlen];exact hw) ?_ (by rw[hlen];exact hz)
 rw[hlen];refine⟨.ref s.heap.objs.size,_,I.laid (t':=s.toks) (o:=.tup (qpO xs lo hi)) (fun b ob q=>Heap.get?_push_of_some _ q) (wac _) ?_,rfl,q _ (I.hok.fresh (wac _))⟩
 exact⟨wal (qeC xs lo hi) hz,_,(r.drop (HT.sIx xs.length 0 lo)).take (HT.sIx xs.length xs.length hi-HT.sIx xs.length 0 lo),IsTup.new _ _⟩
noncomputable def qwX (K:Frg):R2:=fun x y H Q=>∃ a b xs ys,x= .ref a/\y= .ref b/\SqT K H a xs/\SqT K H b ys/\xs≠[]/\xs.length+ys.length<=sizeLine/\
 (ys= []->Q (.ref a) H)/\(ys≠[]->∀ p,H p=none->Q (.ref p) (upd H p (.tup (xs++ys))))
theorem Vals.nil_iff{xs:List V}{us:List Value}(r:Vals xs us):us= []↔xs= []:=by
 cases r with
 |nil=>simp
 |cons _ _=>simp
theorem qqT:OpR X (binaryOp .Add) (qwX X.K):=by
 intro pins s σ H x y v u Q I rx ry h;obtain⟨a,b,xs,ys,rfl,rfl,ha,hb,hx,hz,q1,q2⟩:=h;cases rx;cases ry;obtain⟨its,r1,p1,_⟩:=I.tuple ha;obtain⟨its2,r2,p2,_⟩:=I.tuple hb;refine HT.cat_tup p1 p2 (fun z=>hx (r1.nil_iff.mp z)) (fun z=>⟨.ref a,H,I,rfl,q1 (r2.nil_iff.mp z)⟩) (fun z=>?_) (by rw[<-r1.length,<-r2.length];exact hz)
 refine⟨.ref s.heap.objs.size,_,I.laid (t':=s.toks) (o:=.tup (xs++ys)) (fun b ob q=>Heap.get?_push_of_some _ q) (wac _) ?_,rfl,q2 (fun w=>z (r2.nil_iff.mpr w)) _ (I.hok.fresh (wac _))⟩
 exact⟨by rw[wao];exact hz,_,r1.append r2,IsTup.new _ _⟩
end
def ixN(n:Nat)(i:Int):Option Nat:=if 0<=i then(if i<n then some i.toNat else none)else if -(n:Int)<=i then some (i+n).toNat else none
def atI{α:Type}(xs:List α)(i:Int):Option α:=(ixN xs.length i).bind fun j=>xs[j]?
theorem qme{n:Nat}{i:Int}{j:Nat}(h:ixN n i=some j):seqIndex? i n=some j/\j<n/\-(n:Int)<=i/\i<n:=by
 unfold ixN at h
 by_cases h0:0<=i
 · rw[if_pos h0]at h
   by_cases h1:i<n
   · rw[if_pos h1]at h
     have e:i.toNat=j:=Option.some.inj h;exact⟨by rw[seqIndex_of h0 h1,e],by omega,by omega,h1⟩
   · rw[if_neg h1]at h;cases h
 · rw[if_neg h0]at h
   by_cases h1:-(n:Int)<=i
   · rw[if_pos h1]at h
     have e:(i+n).toNat=j:=Option.some.inj h;exact⟨by rw[seqIndex_neg (by omega) h1,e],by omega,h1,by omega⟩
   · rw[if_neg h1]at h;cases h
theorem qiW{α:Type}{xs:List α}{i:Int}{v:α}(h:atI xs i=some v):∃ j,seqIndex? i xs.length=some j/\xs[j]? =some v/\j<xs.length/\-(xs.length:Int)<=i/\i<xs.length:=by
 unfold atI at h;cases e:ixN xs.length i with
 |none=>rw[e]at h;cases h
 |some j=>
  rw[e]at h;obtain⟨h1,h2,h3,h4⟩:=qme e;exact⟨j,h1,h,h2,h3,h4⟩
def qm8(b:Expr):Prop:=∀ o i,subscripted b false o i=operate [o,i] (getItem o i)
def IxR(X:Cx)(r:R2):Prop:=
 ∀ (value slice:Expr) (pins:List (Addr×Obj)) (s:Shared) (σ:St) (H:Hp) (x y:V) (v u:Value) (Q:VK),Inv X pins σ H s->RelV x v->RelV y u->r x y H Q->
  subscripted slice false v u=operate [v,u] (getItem v u)->wpAny (model X.prog X.w) X.A (subscriptTail value slice v u) (EP X pins σ Q) X.xe s
def MtR(X:Cx)(id:String)(r:V->List V->Hp->VK->Prop):Prop:=
 ∀ (pins:List (Addr×Obj)) (s:Shared) (σ:St) (H:Hp) (x:V) (xs:List V) (v:Value) (us:List Value) (Q:VK),Inv X pins σ H s->RelV x v->Vals xs us->r x xs H Q->
  wpAny (model X.prog X.w) X.A (call (.builtin id) (v::us)) (EP X pins σ Q) X.xe s
section
variable {X:Cx}{a b:Expr}{ta tb:TE}{pos:Pos}
theorem IxR.or{r r':R2}(h:IxR X r)(h':IxR X r'):IxR X (fun x y H Q=>r x y H Q∨r' x y H Q):=by
 intro value slice pins s σ H x y v u Q I rx ry q hs;rcases q with q|q
 · exact h value slice pins s σ H x y v u Q I rx ry q hs
 · exact h' value slice pins s σ H x y v u Q I rx ry q hs
theorem MtR.or{id:String}{r r':V->List V->Hp->VK->Prop}(h:MtR X id r)(h':MtR X id r'):MtR X id (fun x xs H Q=>r x xs H Q∨r' x xs H Q):=by
 intro pins s σ H x xs v us Q I rx rs q;rcases q with q|q
 · exact h pins s σ H x xs v us Q I rx rs q
 · exact h' pins s σ H x xs v us Q I rx rs q
theorem qw8{r:R2}(hr:IxR X r)(ha:PE X a ta)(hb:PE X b tb)(hs:qm8 b):PE X (.Subscript a b pos) (tOp r ta tb):=by
 intro pins s σ H Q I h;exact Subscript_ (qyb ha hb I h fun v u s2 x y H2 I2 rx ry q=>hr a b pins s2 σ H2 x y v u Q I2 rx ry q (hs _ _))
def qDg(K:Frg):R2:=fun x y H Q=>∃ p xs i v,x= .ref p/\y= .int i/\SqL K H p xs/\atI xs i=some v/\Q v H
def qDe(K:Frg):R2:=fun x y H Q=>∃ p xs i v,x= .ref p/\y= .int i/\SqT K H p xs/\atI xs i=some v/\Q v H
def qDf:R2:=fun x y H Q=>∃ z i c,x= .str z/\y= .int i/\z.length<=sizeLine/\atI z.cps.toList i=some c/\Q (.str ⟨#[c]⟩) H
theorem qmd:IxR X (qDg X.K):=by
 intro value slice pins s σ H x y v u Q I rx ry h hs;obtain⟨p,xs,i,z,rfl,rfl,hq,he,q⟩:=h;cases rx;obtain⟨t,rfl⟩:=ry;obtain⟨its,r,pl,hz⟩:=I.list hq;obtain⟨j,h1,h2,h3,h4,h5⟩:=qiW he;obtain⟨w,ew,rw'⟩:=r.get h2;have hl:=r.length;have hn:=qfa;have fin:EP X pins σ Q w s:=⟨z,H,I,rw',q⟩
 by_cases h0:0<=i
 · have hj:i.toNat=j:=by
    rw[seqIndex_of h0 h5]at h1;exact Option.some.inj h1
   exact item_listR pl.isList h0 (by omega) (by rw[hj];simpa using ew) fin hs
 · have hj:(i+(its.toArray.size:Int)).toNat=j:=by
    rw[seqIndex_neg (by omega) h4]at h1
    rw[wag,<-hl];exact Option.some.inj h1
   exact subscriptTail_builtinR (x:=w) pl.isList.typeIs slot_list_getitem.lookup
    (wpAny_getItem_list_neg (Q:=fun r s'=>r=w/\EP X pins σ Q r s') pl.isList (by omega) (by rw[wag]<;>omega) (by omega) (by rw[hj];simpa using ew) ⟨rfl,fin⟩) hs
theorem quu:IxR X (qDe X.K):=by
 intro value slice pins s σ H x y v u Q I rx ry h hs;obtain⟨p,xs,i,z,rfl,rfl,hq,he,q⟩:=h;cases rx;obtain⟨t,rfl⟩:=ry;obtain⟨its,r,pl,hz⟩:=I.tuple hq;obtain⟨j,h1,h2,h3,h4,h5⟩:=qiW he;obtain⟨w,ew,rw'⟩:=r.get h2;have hl:=r.length;have hn:=qfa;have fin:EP X pins σ Q w s:=⟨z,H,I,rw',q⟩;exact subscriptTail_builtinR (x:=w) pl.typeIs slot_tuple_getitem.lookup
  (getItem_tuple (j:=j) (Q:=fun r s'=>r=w/\EP X pins σ Q r s') pl (by omega) (by omega) (by rw[wag,<-hl];exact h1) (by simpa using ew) ⟨rfl,fin⟩) hs
theorem quv:IxR X qDf:=by
 intro value slice pins s σ H x y v u Q I rx ry h hs;obtain⟨z,i,c,rfl,rfl,hz,he,q⟩:=h;obtain⟨t,rfl⟩:=rx;obtain⟨t',rfl⟩:=ry;obtain⟨j,h1,h2,h3,h4,h5⟩:=qiW he;have hl:z.cps.toList.length=z.length:=by simp[Str.length]
 rw[hl]at h1 h4 h5;have hn:=qfa;exact tail_any (typeIs_str s z t) slot_str_getitem.lookup (getItem_str (c:=c) (by
  have e1:decide (i< -(2 ^ 63:Int))=false:=decide_eq_false (by omega)
  have e2:decide (i ≥ 2 ^ 63)=false:=decide_eq_false (by omega)
  rw[e1,e2,Bool.or_false]) (by rw[h1];simpa using h2) ⟨.str ⟨#[c]⟩,H,I.tok _,⟨_,rfl⟩,q⟩) hs
theorem qj6(its:List Value)(n j:Nat)(u:Value):Obj.mapSeq (·.setIfInBounds j u) { cls:=.type "list",data:=.seq its.toArray n }= { cls:=.type "list",data:=.seq (its.set j u).toArray n }:=by
 simp[Obj.mapSeq]
theorem Inv.lst{pins:List (Addr×Obj)}{σ:St}{H:Hp}{s:Shared}{p:Addr}{xs:List V}(I:Inv X pins σ H s)(h:H p=some (.lst xs)):
 ∃ (its:List Value) (n:Nat),Vals xs its/\s.heap.get? p=some { cls:=.type "list",data:=.seq its.toArray n }/\xs.length<=sizeLine:=by
 obtain⟨z,its,n,r,e⟩:=I.hok p _ h;exact⟨its,n,r,e,z⟩
theorem Inv.lstUpd{pins:List (Addr×Obj)}{σ:St}{H:Hp}{s:Shared}{p:Addr}{xs ys:List V}{its its':List Value}{n n':Nat}{f:Obj->Obj}(I:Inv X pins σ H s)(h:H p=some (.lst xs))
 (ho:s.heap.get? p=some { cls:=.type "list",data:=.seq its.toArray n }) (hf:f { cls:=.type "list",data:=.seq its.toArray n }= { cls:=.type "list",data:=.seq its'.toArray n' }) (r:Vals ys its') (hz:ys.length<=sizeLine) (t:Nat):
 Inv X pins σ (upd H p (.lst ys)) { s with heap:=s.heap.update p f,toks:=t }:=by
 have e:(s.heap.update p f).get? p=some { cls:=.type "list",data:=.seq its'.toArray n' }:=by
  rw[Heap.get?_update_self f ho (by rw[hf]<;>rfl),hf]
 refine I.write (x:=p) (e:=p) (by rw[h];trivial) (.inl rfl) (fun b u hb q=>(Heap.get?_update_other _ _ (Ne.symm hb)).trans q) ⟨_,e⟩ ?_
 exact⟨hz,its',n',r,e⟩
noncomputable def qif:V->V->V->Hp->(Hp->Prop)->Prop:=fun o i v H Q=>∃ p xs k j,o= .ref p/\i= .int k/\H p=some (.lst xs)/\ixN xs.length k=some j/\Q (upd H p (.lst (xs.set j v)))
theorem set_list:qvO X qif:=by
 intro pins s σ H o i v ov iv u Q I ro ri rv h;obtain⟨p,xs,k,j,rfl,rfl,hp,hj,q⟩:=h;cases ro;obtain⟨t,rfl⟩:=ri;obtain⟨its,n,r,ho,hz⟩:=I.lst hp;obtain⟨h1,h2,h3,h4⟩:=qme hj;have hl:=r.length;have hn:=qfa;have I':Inv X pins σ (upd H p (.lst (xs.set j v))) { s with heap:=s.heap.update p (Obj.mapSeq (·.setIfInBounds j u)) }:=
  I.lstUpd hp ho (qj6 its n j u) (r.set rv j) (by rw[List.length_set];exact hz) s.toks
 by_cases h0:0<=k
 · have hk:k.toNat=j:=by
    rw[seqIndex_of h0 h4]at h1;exact Option.some.inj h1
   exact PySem.W.ki_setAt ho h0 (by omega) (by rw[wag,<-hl];exact h4) (by rw[hk];exact⟨_,I',q⟩)
 · have hk:(k+(its.toArray.size:Int)).toNat=j:=by
    rw[seqIndex_neg (by omega) h3]at h1
    rw[wag,<-hl];exact Option.some.inj h1
   exact PySem.W.ki_setBack ho (by omega) (by rw[wag,<-hl];exact h3) (by omega) (by rw[hk];exact⟨_,I',q⟩)
theorem qgi(lo hi:Option Int)(n:Nat):(sliceBounds lo hi none n).1=((HT.sIx n 0 lo:Nat):Int)/\(sliceBounds lo hi none n).2.1=((HT.sIx n n hi:Nat):Int)/\(sliceBounds lo hi none n).2.2=1:=by
 refine⟨?_,?_,rfl⟩
 · cases lo with
   |none=>simp[sliceBounds,HT.sIx]
   |some i=>
    simp only[sliceBounds,HT.sIx,Option.getD_none,show(1:Int) > 0 by decide,if_true]
    by_cases h:i<0
    · simp only[h,if_true]<;>omega
    · simp only[h,if_false]<;>omega
 · cases hi with
   |none=>simp[sliceBounds,HT.sIx]
   |some i=>
    simp only[sliceBounds,HT.sIx,Option.getD_none,show(1:Int) > 0 by decide,if_true]
    by_cases h:i<0
    · simp only[h,if_true]<;>omega
    · simp only[h,if_false]<;>omega
theorem qfp(its:List Value)(lo hi:Option Int):slicePick its.toArray lo hi none=((its.drop (HT.sIx its.length 0 lo)).take (HT.sIx its.length its.length hi-HT.sIx its.length 0 lo)).toArray:=by
 obtain⟨h1,h2,h3⟩:=qgi lo hi its.toArray.size;unfold slicePick;rw[h1,h2,h3];simp only[sliceRange_one,pick_run,wag]<;>rfl
noncomputable def qDb (K:Frg):V->Option Int->Option Int->Hp->VK->Prop:=fun x lo hi H Q=>∃ a xs,x= .ref a/\SqL K H a xs/\∀ p,H p=none->Q (.ref p) (upd H p (.lst (qpO xs lo hi)))
theorem qp5:SlR X (qDb X.K):=by
 intro pins s σ H x v vl vu lo hi sl Q I rx hs pl pu h;obtain⟨a,xs,rfl,hx,q⟩:=h;cases rx;obtain⟨its,r,ht,hz⟩:=I.list hx;have hlen:=r.length;refine⟨"list",_,slot_list_getitem.lookup,ht.isList.typeIs,?_⟩;refine wpAny_getItem_list_slice ht.isList hs pl pu .none (by simp) ?_ (by rw[wag]<;>omega)
 rw[qfp,<-hlen];refine⟨.ref s.heap.objs.size,_,I.laid (t':=s.toks) (o:=.lst (qpO xs lo hi)) (fun b ob q=>Heap.get?_push_of_some _ q) (wac _) ?_,rfl,q _ (I.hok.fresh (wac _))⟩
 exact⟨wal (qeC xs lo hi) hz,_,0,(r.drop (HT.sIx xs.length 0 lo)).take (HT.sIx xs.length xs.length hi-HT.sIx xs.length 0 lo),Heap.get?_push_size _ rfl⟩
theorem qb0:CallR X (.builtin "len") (fun xs H Q=>∃ p ys,xs= [.ref p]/\(SqL X.K H p ys∨SqT X.K H p ys)/\Q (.int ys.length) H):=by
 intro pins s σ H xs us Q I r h;obtain⟨p,ys,rfl,hq,q⟩:=h;obtain⟨u,rfl,rx⟩:=vals1 r;cases rx;have hn:=qfa;rcases hq with hq|hq
 · obtain⟨its,r',pl,hz⟩:=I.list hq
   have hlen:=r'.length;exact Calls.call_len_list pl.isList (by simp only[wag]<;>omega) ⟨.int ys.length,H,I.tok _,⟨s.toks+1,by rw[wag,hlen]⟩,q⟩
 · obtain⟨its,r',pl,hz⟩:=I.tuple hq
   have hlen:=r'.length;exact len_tuple pl (by simp only[wag]<;>omega) ⟨.int ys.length,H,I.tok _,⟨s.toks+1,by rw[wag,hlen]⟩,q⟩
theorem qhz:CallR X (.builtin "len") (fun xs H Q=>∃ z,xs= [.str z]/\z.length<=sizeLine/\Q (.int z.length) H):=by
 intro pins s σ H xs us Q I r h;obtain⟨z,rfl,hz,q⟩:=h;obtain⟨u,rfl,t,rfl⟩:=vals1 r;have hn:=qfa;exact len_str (by omega) ⟨.int z.length,H,I.tok _,⟨_,rfl⟩,q⟩
theorem CallR.or{f:Value}{r r':List V->Hp->VK->Prop}(h:CallR X f r)(h':CallR X f r'):CallR X f (fun xs H Q=>r xs H Q∨r' xs H Q):=by
 intro pins s σ H xs us Q I rs q;rcases q with q|q
 · exact h pins s σ H xs us Q I rs q
 · exact h' pins s σ H xs us Q I rs q
theorem qhy:CallR X (.type "list") (fun xs H Q=>∃ p ys,xs= [.ref p]/\(SqL X.K H p ys∨SqT X.K H p ys)/\∀ l,H l=none->Q (.ref l) (upd H l (.lst ys))):=by
 intro pins s σ H xs us Q I r h;obtain⟨p,ys,rfl,hq,q⟩:=h;obtain⟨u,rfl,rx⟩:=vals1 r;cases rx;have fin:∀ (its:List Value),Vals ys its->ys.length<=sizeLine->∀ (h':Heap) (c':Nat),(∀ b o',s.heap.get? b=some o'->h'.get? b=some o')->
  h'.get? s.heap.objs.size=some { cls:=.type "list",dict:=none,data:=.seq its.toArray c',slots:=#[] }->EP X pins σ Q (.ref s.heap.objs.size) { s with heap:=h' }:=fun its r' hz h' c' kp e=>
  ⟨.ref s.heap.objs.size,_,I.laid (t':=s.toks) kp (wac _) (show ObjOk X.prog X.w _ h' _ (.lst ys)from⟨hz,its,c',r',e⟩),rfl,q _ (I.hok.fresh (wac _))⟩
 rcases hq with hq|hq
 · obtain⟨its,r',pl,hz⟩:=I.list hq
   have hlen:=r'.length;obtain⟨o,ho,hc,n,hd⟩:=pl.isList;exact call_list_seq p (.inl rfl) ho hc hd (fun h' c' kp e=>fin its r' hz h' c' kp e) (by simp only[wag]<;>omega)
 · obtain⟨its,r',pl,hz⟩:=I.tuple hq
   have hlen:=r'.length;obtain⟨o,ho,hc,n,hd⟩:=pl;exact call_list_seq p (.inr rfl) ho hc hd (fun h' c' kp e=>fin its r' hz h' c' kp e) (by simp only[wag]<;>omega)
theorem qbP:CallR X (.type "tuple") (fun xs H Q=>∃ p ys,xs= [.ref p]/\((SqL X.K H p ys/\∀ l,H l=none->Q (.ref l) (upd H l (.tup ys)))∨(SqT X.K H p ys/\Q (.ref p) H))):=by
 intro pins s σ H xs us Q I r h;obtain⟨p,ys,rfl,h⟩:=h;obtain⟨u,rfl,rx⟩:=vals1 r;cases rx;rcases h with⟨hq,q⟩|⟨hq,q⟩
 · obtain⟨its,r',pl,hz⟩:=I.list hq
   have hlen:=r'.length;refine call_tuple_list pl.isList (fun h' kp=>?_) (by simp only[wag]<;>omega)
   have I1:Inv X pins σ H { s with heap:=h' }:=I.kept (t':=s.toks) kp
   have I2:Inv X pins σ (upd H h'.objs.size (.tup ys)) { s with heap:=h'.push { cls:=.type "tuple",data:=.seq its.toArray } }:=
    I1.laid (t':=s.toks) (fun b o e=>Heap.get?_push_of_some _ e) (wac _) (show ObjOk X.prog X.w _ _ _ (.tup ys)from⟨hz,its,r',IsTup.new _ _⟩)
   exact⟨.ref h'.objs.size,_,I2,rfl,q _ (I1.hok.fresh (wac _))⟩
 · obtain⟨its,r',pl,hz⟩:=I.tuple hq
   exact call_tuple_same pl ⟨.ref p,H,I,rfl,q⟩
def tyV(K:Frg)(T:String)(x:V)(H:Hp):Prop:=match x with
 | .str _=>T= "str"
 | .int _=>T= "int"
 | .ref p=>(T= "list"/\∃ xs,SqL K H p xs)∨(T= "tuple"/\∃ o,K.lookup p=some o/\o.cls= .type "tuple"/\o.dict=none)∨
  (T= "dict"/\((∃ kvs,H p=some (.dK kvs))∨∃ kvs,H p=some (.dT kvs)))∨(T= "set"/\∃ S n,H p=some (.set S n))
 |_=>False
theorem qsv{pins:List (Addr×Obj)}{σ:St}{H:Hp}{s:Shared}{T:String}{x:V}{v:Value}(I:Inv X pins σ H s)(r:RelV x v)(ty:tyV X.K T x H):
 s.TypeIs v T/\∀ a,v= .ref a->∃ ob,s.heap.get? a=some ob/\ob.dict=none:=by
 cases x with
 |str z=>
  obtain⟨t,rfl⟩:=r;cases(show T= "str" from ty)
  exact⟨typeIs_str s z t,fun _ e=>nomatch e⟩
 |int i=>
  obtain⟨t,rfl⟩:=r;cases(show T= "int" from ty)
  exact⟨typeIs_int s i t,fun _ e=>nomatch e⟩
 |ref p=>
  cases r;rcases ty with⟨rfl,xs,hq⟩|⟨rfl,o,hk,hc,hd⟩|⟨rfl,hk⟩|⟨rfl,S,n,hk⟩
  · obtain⟨its,_,pl,_⟩:=I.list hq
    refine⟨pl.isList.typeIs,fun a e=>?_⟩
    cases e;obtain⟨o,n,e,c,hd,_⟩:=pl;exact⟨o,e,hd⟩
  · refine⟨⟨o,I.kIn p o hk,hc⟩,fun a e=>?_⟩
    cases e;exact⟨o,I.kIn _ o hk,hd⟩
  · have z:∃ o,s.heap.get? p=some o/\o.ExactDict:=by
     rcases hk with⟨kvs,hk⟩|⟨kvs,hk⟩
     · obtain⟨_,_,_,_,o,_,_,e,ex,_⟩:=I.hok p _ hk
       exact⟨o,e,ex⟩
     · obtain⟨_,_,_,_,o,_,_,e,ex,_⟩:=I.hok p _ hk
       exact⟨o,e,ex⟩
    obtain⟨o,e,ex⟩:=z;refine⟨⟨o,e,ex.1⟩,fun a e2=>?_⟩
    cases e2;exact⟨o,e,ex.2.1⟩
  · obtain⟨o,_,_,_,e,ex,_⟩:=I.hok p _ hk
    refine⟨⟨o,e,ex.1⟩,fun a e2=>?_⟩
    cases e2;exact⟨o,e,ex.2.1⟩
 |_=>exact False.elim ty
noncomputable def tBM (K:Frg)(T:String)(r:V->List V->Hp->VK->Prop)(to:TE)(t:TA):TE:=fun σ H Q=>to σ H fun x H1=>tyV K T x H1/\t σ H1 fun xs H2=>r x xs H2 Q
variable {o e:Expr}{es:List Expr}{to:TE}{t:TA}{name:Str}{apos cpos:Pos}{T id:String}{r:V->List V->Hp->VK->Prop}
theorem qw9(pa:PlainAttrs T)(slot:Slot T name id)(hty:typeOf (.builtin id)=pure (.type "method_descriptor"))(hm:MtR X id r)(ho:PE X o to)(ha:PA X (e::es) t)
 (hbase:attributeBase o name X.env (eval o X.env)=eval o X.env:=by rfl)
 (hfew:((backTo cpos (starEach (e::es) X.env)).all (fun x=>!x.1)&&(backToKw cpos (keywordEach [] X.env)).all (fun x=>x.1.isSome)
  &&decide ((e::es).length+([]:List Keyword).length+(if([]:List Keyword).isEmpty then 0 else 1)<30))=true:=by rfl)
 (hline:(apos.endLine==cpos.line)=true:=by rfl) (hs:starEach (e::es) X.env=(false,eval e X.env)::starEach es X.env:=by rfl) (hplain:(backTo cpos (starEach es X.env)).any (·.1)=false:=by rfl):
 PE X (.Call (.Attribute o name apos) (e::es) [] cpos) (tBM X.K T r to t):=by
 intro pins s σ H Q I h;refine wpAny_Call_method_late hbase hfew hline rfl (thn (ho pins s σ H _ I h) fun v s1 ⟨x,H1,I1,r1,ty,q1⟩=>?_)
 obtain⟨h1,h2⟩:=qsv I1 r1 ty;refine⟨T,id,pa,slot,hty,h1,h2,?_⟩;have hA:=ha cpos pins s1 σ H1 _ I1 q1;rw[hs]at hA ⊢;refine Calls.callWith_builtin (by show(false||(backTo cpos (starEach es X.env)).any (·.1))=false;rw[hplain]<;>rfl) (Calls.evalArgs_plain ?_)
 exact thn hA fun us s2 ⟨vs,H2,I2,r2,q2⟩=>hm pins s2 σ H2 x vs v us Q I2 r1 r2 q2
end
def MtM(X:Cx)(id:String)(r:V->List V->Hp->VK->Prop):Prop:=
 ∀ (pins:List (Addr×Obj)) (s:Shared) (σ:St) (H:Hp) (x:V) (xs:List V) (v:Value) (us:List Value) (Q:VK),Inv X pins σ H s->RelV x v->Vals xs us->r x xs H Q->
  wpAny (model X.prog X.w) X.A (call (.builtin id) (v::us)) (EP X pins σ Q) X.xe s
theorem Vals.one:∀ {x:V} {us:List Value},Vals [x] us->∃ u,us= [u]/\RelV x u
 |_,_,.cons r .nil=>⟨_,rfl,r⟩
theorem Vals.two:∀ {x y:V} {us:List Value},Vals [x,y] us->∃ u v,us= [u,v]/\RelV x u/\RelV y v
 |_,_,_,.cons r (.cons q .nil)=>⟨_,_,rfl,r,q⟩
theorem Vals.zero:∀ {us:List Value},Vals [] us->us= []
 |_,.nil=>rfl
theorem Vals.reverse{xs:List V}{us:List Value}(h:Vals xs us):Vals xs.reverse us.reverse:=by
 induction h with
 |nil=>exact .nil
 |cons r t ih=>rw[List.reverse_cons,List.reverse_cons];exact Vals.append ih (.cons r .nil)
theorem Vals.rep{xs:List V}{us:List Value}(h:Vals xs us):∀ k:Nat,Vals (List.replicate k xs).flatten (List.replicate k us).flatten
 |0=>.nil
 |k+1=>by
  rw[waI,waI,waR,waR];exact Vals.append h (Vals.rep h k)
theorem foldl_rep(its:List Value):∀ (k:Nat) (acc:List Value),
 List.foldl (fun x1 x2=>x1++x2) acc.toArray (List.replicate k its.toArray)=(acc++(List.replicate k its).flatten).toArray
 |0,acc=>by simp
 |k+1,acc=>by
  have e:acc.toArray++its.toArray=(acc++its).toArray:=by simp
  have e2:(acc++its)++(List.replicate k its).flatten=acc++(List.replicate (k+1) its).flatten:=by
   rw[waI,waR,List.append_assoc]
  rw[<-e2,<-foldl_rep its k (acc++its),<-e,waI,List.foldl_cons]
section
variable {X:Cx}{pins:List (Addr×Obj)}{σ:St}{H:Hp}{s:Shared}{l b:Addr}{xs ys zs:List V}
theorem Inv.lset{its its':List Value}{n:Nat}{f:Array Value->Array Value}{t':Nat}(I:Inv X pins σ H s)(hH:H l=some (.lst xs))
 (e:s.heap.get? l=some { cls:=.type "list",data:=.seq its.toArray n }) (hf:f its.toArray=its'.toArray) (hv:Vals ys its') (hz:ys.length<=sizeLine):
 Inv X pins σ (upd H l (.lst ys)) { s with heap:=s.heap.update l (Obj.mapSeq f),toks:=t' }:=by
 have q:=PySem.IsL.update e f;rw[hf]at q;refine I.write (x:=l) (e:=l) (by rw[hH];exact trivial) (.inl rfl) (fun b' u hb hu=>(Heap.get?_update_other s.heap (Obj.mapSeq f) (Ne.symm hb)).trans hu) ⟨_,q⟩ ?_
 exact⟨hz,its',_,hv,q⟩
theorem Inv.lnew{its:List Value}{t':Nat}(I:Inv X pins σ H s)(hv:Vals ys its)(hz:ys.length<=sizeLine):
 Inv X pins σ (upd H s.heap.objs.size (.lst ys)) { s with heap:=s.heap.push { cls:=.type "list",data:=.seq its.toArray },toks:=t' }:=
 I.laid (fun _ _ q=>Heap.get?_push_of_some _ q) (wac _) ⟨hz,its,0,hv,Heap.get?_push_size _ rfl⟩
theorem Inv.fresh(I:Inv X pins σ H s):H s.heap.objs.size=none:=I.hok.fresh (wac _)
theorem Inv.lstM(I:Inv X pins σ H s)(hH:H l=some (.lst xs)):xs.length<=sizeLine/\∃ (its:List Value) (n:Nat),Vals xs its/\xs.length=its.length/\s.heap.get? l=some { cls:=.type "list",data:=.seq its.toArray n }:=by
 obtain⟨z,its,n,r,e⟩:=I.hok l _ hH;exact⟨z,its,n,r,r.length,e⟩
theorem qob{n:Nat}(h:n<=sizeLine):Builtin.List.listTooLong n=false:=by
 unfold Builtin.List.listTooLong;exact decide_eq_false (by omega)
end
section
variable {X:Cx}
noncomputable def qqw:V->List V->Hp->VK->Prop:=fun x vs H Q=>∃ l xs y,x= .ref l/\vs= [y]/\H l=some (.lst xs)/\xs.length<sizeLine/\Q .non (upd H l (.lst (xs++ [y])))
theorem qlS:MtM X "list.append" qqw:=by
 intro pins s σ H x vs v us Q I rx rv h;obtain⟨l,xs,y,rfl,rfl,hH,hz,q⟩:=h;cases rx;obtain⟨u,rfl,ru⟩:=rv.one;obtain⟨z,its,n,r,hl,e⟩:=I.lstM hH;refine call_meets F.slot_list_append ⟨_,e,rfl⟩ F.entry_list_append (F.args_list_append_2 _ _) (PySem.list_append l its.toArray n u (by rw[wag];omega)) ⟨e,?_⟩
 refine⟨.non,_,I.lset (its':=its++ [u]) hH e (by simp) (r.append (.cons ru .nil)) ?_,rfl,q⟩
 rw[wao,List.length_singleton];omega
noncomputable def qDc:R2:=fun x y H Q=>∃ l k xs,x= .ref l/\y= .int k/\H l=some (.lst xs)/\-(2 ^ 63)<=k/\k<2 ^ 63/\xs.length*k.toNat<=sizeLine/\
 ∀ p,H p=none->Q (.ref p) (upd H p (.lst (List.replicate k.toNat xs).flatten))
theorem len_rep{α:Type}(xs:List α)(k:Nat):(List.replicate k xs).flatten.length=k*xs.length:=by
 induction k with
 |zero=>simp
 |succ k ih=>rw[waI,waR,wao,ih,Nat.succ_mul,Nat.add_comm]
theorem qtQ:OpR X (binaryOp .Mult) qDc:=by
 intro pins s σ H x y v u Q I rx ry h;obtain⟨l,k,xs,rfl,rfl,hH,h1,h2,hz,q⟩:=h;cases rx;obtain⟨t,rfl⟩:=ry;obtain⟨z,its,n,r,hl,e⟩:=I.lstM hH;have hlen:its.toArray.size*k.toNat<=sizeLine:=by rw[wag,<-hl];exact hz
 have hcap:¬its.toArray.size*k.toNat > (2 ^ 63-1) / 8:=by
  have:(sizeLine:Nat)<=(2 ^ 63-1) / 8:=by decide
  omega
 have hfit:¬(!Builtin.List.listFitsIndex k)=true:=by
  rw[fitsIndex_both h1 h2];exact wan
 have hlong:¬Builtin.List.listTooLong (its.toArray.size*k.toNat)=true:=by
  rw[qob hlen];exact wan
 have hnew:List.foldl (fun x1 x2=>x1++x2) #[] (List.replicate (if its.toArray.isEmpty=true then 0 else k.toNat) its.toArray)=(List.replicate k.toNat its).flatten.toArray:=by
  have f0:∀ m:Nat,List.foldl (fun x1 x2=>x1++x2) #[] (List.replicate m its.toArray)=(List.replicate m its).flatten.toArray:=fun m=>by
   have:=foldl_rep its m [];rw[waD]at this;exact this
  rw[f0];cases its with
  |nil=>simp
  |cons a r'=>rw[if_neg (by simp)]
 refine wpAny_binaryOp_repeat_ref (T:="list") (U:="int") (by decide) ⟨_,e,rfl⟩ (fun s'=>typeIs_int s' k t) noFill_list_mul F.fills_int_mul F.slot_int_rmul repeat_list F.slot_int_index.lookup
  (call_meets F.slot_int_rmul (typeIs_int s k t) F.entry_int_rmul (F.args_int_rmul_2 _ _) (int___rmul___int_list k t l its.toArray n)
   ⟨e,rfl,⟨_,e,rfl⟩,call_meets F.slot_list_mul ⟨_,e,rfl⟩ F.entry_list_mul (F.args_list_mul_2 _ _) (AutoListH.list___mul___list_int_3 l its.toArray n k t hfit hcap hlong) ⟨e,?_⟩⟩)
 rw[hnew];exact⟨.ref _,_,I.lnew (t':=s.toks) (r.rep k.toNat) (by rw[len_rep,Nat.mul_comm];exact hz),rfl,q _ I.fresh⟩
end
section
variable {κ:Type}[DecidableEq κ]
def qeF(kvs:List (κ×V))(k:κ):Option V:=(kvs.find? fun kv=>decide (kv.1=k)).map (·.2)
noncomputable def putK (kvs:List (κ×V))(k:κ)(v:V):List (κ×V):=
 if(kvs.any fun kv=>decide (kv.1=k))=true then kvs.map (fun kv=>if kv.1=k then(kv.1,v)else kv)else kvs++ [(k,v)]
def qhp(kvs:List (κ×V))(k:κ):List (κ×V):=kvs.filter fun kv=>decide (kv.1≠k)
theorem qcp{p:κ×V}{r:List (κ×V)}{k:κ}(e:p.1=k):qeF (p::r) k=some p.2:=by simp[qeF,List.find?_cons,e]
theorem qbF{p:κ×V}{r:List (κ×V)}{k:κ}(e:¬p.1=k):qeF (p::r) k=qeF r k:=by simp[qeF,List.find?_cons,e]
theorem qdM(k:κ):∀ kvs:List (κ×V),(kvs.any fun kv=>decide (kv.1=k))=(qeF kvs k).isSome
 | []=>rfl
 |p::r=>by
  rw[waN]
  by_cases e:p.1=k
  · simp only[qcp e,decide_eq_true e,Bool.true_or,Option.isSome_some]
  · rw[qbF e,decide_eq_false e,Bool.false_or];exact qdM k r
theorem qch(kvs:List (κ×V))(k:κ)(v:V):(putK kvs k v).length<=kvs.length+1:=by
 unfold putK;split
 · rw[wab];omega
 · rw[wao,waf,List.length_nil];omega
theorem qnT{kvs:List (κ×V)}{k:κ}(v:V)(h:qeF kvs k=none):putK kvs k v=kvs++ [(k,v)]:=by
 unfold putK;rw[qdM,h];exact if_neg (by decide)
theorem RelO.isSome_eq{o:Option V}{u:Option Value}(r:RelO o u):o.isSome=u.isSome:=by
 cases o with
 |none=>cases u with
  |none=>rfl
  |some _=>exact(show False from r).elim
 |some _=>cases u with
  |none=>exact(show False from r).elim
  |some _=>rfl
theorem RelO.getD{o:Option V}{u:Option Value}{d:V}{d':Value}(r:RelO o u)(rd:RelV d d'):RelV (o.getD d) (u.getD d'):=by
 cases o with
 |none=>cases u with
  |none=>exact rd
  |some _=>exact(show False from r).elim
 |some _=>cases u with
  |none=>exact(show False from r).elim
  |some _=>exact r
theorem KV.val{kvs:List (κ×V)}{vs:List (κ×Value)}(r:KV kvs vs)(k:κ):RelO (qeF kvs k) (valueAt vs k):=by
 unfold KV at r
 induction r with
 |nil=>exact True.intro
 | @cons p q ps qs h t ih=>
  obtain⟨h1,h2⟩:=h
  by_cases e:p.1=k
  · have e':q.1=k:=h1.symm.trans e
    have b:valueAt (q::qs) k=some q.2:=by simp[valueAt,List.find?_cons,e']
    rw[qcp e,b];exact h2
  · have e':¬q.1=k:=fun z=>e (h1.trans z)
    have b:valueAt (q::qs) k=valueAt qs k:=by simp[valueAt,List.find?_cons,e']
    rw[qbF e,b];exact ih
theorem KV.any{kvs:List (κ×V)}{vs:List (κ×Value)}(r:KV kvs vs)(k:κ):(kvs.any fun kv=>decide (kv.1=k))=vs.any fun kv=>decide (kv.1=k):=by
 unfold KV at r
 induction r with
 |nil=>rfl
 |cons h t ih=>rw[waN,waN,ih,h.1]
theorem KV.repl{kvs:List (κ×V)}{vs:List (κ×Value)}(r:KV kvs vs)(k:κ){y:V}{u:Value}(ry:RelV y u):
 KV (kvs.map fun kv=>if kv.1=k then(kv.1,y)else kv) (vs.map fun kv=>if kv.1=k then(kv.1,u)else kv):=by
 unfold KV at r ⊢
 induction r with
 |nil=>exact .nil
 | @cons p q ps qs h t ih=>
  rw[wad,wad];refine .cons ?_ ih;obtain⟨h1,h2⟩:=h
  by_cases e:p.1=k
  · rw[if_pos e,if_pos (h1.symm.trans e)];exact⟨h1,ry⟩
  · rw[if_neg e,if_neg (fun z=>e (h1.trans z))];exact⟨h1,h2⟩
theorem KV.put{kvs:List (κ×V)}{vs:List (κ×Value)}(r:KV kvs vs)(k:κ){y:V}{u:Value}(ry:RelV y u):KV (putK kvs k y) (stored vs k u):=by
 unfold putK stored;rw[r.any k]
 by_cases e:(vs.any fun kv=>decide (kv.1=k))=true
 · rw[if_pos e,if_pos e];exact r.repl k ry
 · rw[if_neg e,if_neg e];exact Paired.snoc r ⟨rfl,ry⟩
theorem KV.drop{kvs:List (κ×V)}{vs:List (κ×Value)}(r:KV kvs vs)(k:κ):KV (qhp kvs k) (without vs k):=by
 unfold KV at r ⊢;unfold qhp without
 induction r with
 |nil=>exact .nil
 | @cons p q ps qs h t ih=>
  obtain⟨h1,h2⟩:=h;rw[waZ,waZ]
  by_cases e:p.1=k
  · have a:¬decide (p.1≠k)=true:=by simp[e]
    have b:¬decide (q.1≠k)=true:=by simp[h1.symm.trans e]
    rw[if_neg a,if_neg b];exact ih
  · have e':¬q.1=k:=fun z=>e (h1.trans z)
    have a:decide (p.1≠k)=true:=by simp[e]
    have b:decide (q.1≠k)=true:=by simp[e']
    rw[if_pos a,if_pos b];exact .cons ⟨h1,h2⟩ ih
theorem KV.keys{kvs:List (κ×V)}{vs:List (κ×Value)}(r:KV kvs vs):kvs.map (·.1)=vs.map (·.1):=by
 unfold KV at r
 induction r with
 |nil=>rfl
 |cons h t ih=>rw[wad,wad,ih,h.1]
theorem KV.length{kvs:List (κ×V)}{vs:List (κ×Value)}(r:KV kvs vs):kvs.length=vs.length:=Paired.length r
theorem qoC(kvs:List (κ×V))(k:κ):(qhp kvs k).length<=kvs.length:=List.length_filter_le _ _
end
theorem qdH{P:Program}{w:World}{k:Key}{u:Value}(r:RelV (kV k) u):(qak P w).is k u=true:=by
 cases k with
 |inl i=>obtain⟨t,e⟩:=(show ∃ t,u=Value.int i t from r);subst e;exact qip P w i t
 |inr x=>obtain⟨t,e⟩:=(show ∃ t,u=Value.str x t from r);subst e;exact qeb P w x t
theorem qxm{P:Program}{w:World}{k:qbv}{u:Value}(r:RelV (oV k) u):(optKind P w).is k u=true:=by
 cases k with
 |none=>cases(show u=Value.none from r);rfl
 |some j=>exact qdH (P:=P) (w:=w) r
theorem qhg{P:Program}{w:World}:∀ {ks:List qbv} {us:List Value},Vals (ks.map oV) us->ItemsAre (optKind P w) ks us
 | [],_,r=>by rw[wa6]at r;cases r;exact .nil
 |k::ks,_,r=>by
  rw[wad]at r;cases r with
  |cons h t=>exact .cons (qxm h) (qhg t)
abbrev KT(H:Hp):List (List qbv×V)->List (List qbv×Addr×Value)->Prop:=Paired fun p q=>p.1=q.1/\H q.2.1=some (.tup (p.1.map oV))/\RelV p.2 q.2.2
theorem KT.val{H:Hp}{kvs:List (List qbv×V)}{xs:List (List qbv×Addr×Value)}(r:KT H kvs xs)(k:List qbv):RelO (qeF kvs k) ((atKey xs k).map (·.2)):=by
 induction r with
 |nil=>exact True.intro
 | @cons p q ps qs h t ih=>
  obtain⟨h1,_,h2⟩:=h
  by_cases e:p.1=k
  · have e':q.1=k:=h1.symm.trans e
    have b:atKey (q::qs) k=some q.2:=by simp[atKey,List.find?_cons,e']
    rw[qcp e,b];exact h2
  · have e':¬q.1=k:=fun z=>e (h1.trans z)
    have b:atKey (q::qs) k=atKey qs k:=by simp[atKey,List.find?_cons,e']
    rw[qbF e,b];exact ih
theorem KT.repl{H:Hp}{kvs:List (List qbv×V)}{xs:List (List qbv×Addr×Value)}(r:KT H kvs xs)(k:List qbv){y:V}{u:Value}(ry:RelV y u):
 KT H (kvs.map fun kv=>if kv.1=k then(kv.1,y)else kv) (xs.map (putAt k u)):=by
 induction r with
 |nil=>exact .nil
 | @cons p q ps qs h t ih=>
  rw[wad,wad];refine .cons ?_ ih;obtain⟨h1,h2,h3⟩:=h;unfold putAt
  by_cases e:p.1=k
  · rw[if_pos e,if_pos (h1.symm.trans e)];exact⟨h1,h2,ry⟩
  · rw[if_neg e,if_neg (fun z=>e (h1.trans z))];exact⟨h1,h2,h3⟩
theorem KT.put{H:Hp}{kvs:List (List qbv×V)}{xs:List (List qbv×Addr×Value)}(r:KT H kvs xs)(k:List qbv){b:Addr}{y:V}{u:Value}(hb:H b=some (.tup (k.map oV)))(ry:RelV y u):
 KT H (putK kvs k y) (storedH xs k b u):=by
 have e:(kvs.any fun kv=>decide (kv.1=k))=(atKey xs k).isSome:=by
  rw[qdM,(r.val k).isSome_eq,Option.isSome_map]
 unfold putK storedH;rw[e]
 by_cases q:(atKey xs k).isSome=true
 · rw[if_pos q,if_pos q];exact r.repl k ry
 · rw[if_neg q,if_neg q];exact Paired.snoc r ⟨rfl,hb,ry⟩
theorem KT.keeps{H H':Hp}{kvs:List (List qbv×V)}{xs:List (List qbv×Addr×Value)}(r:KT H kvs xs)(ht:∀ b ys,H b=some (.tup ys)->H' b=some (.tup ys)):KT H' kvs xs:=
 Paired.mapP r fun _ _ z=>⟨z.1,ht _ _ z.2.1,z.2.2⟩
section
variable {P:Program}{w:World}{H:Hp}{h:Heap}{a:Addr}
theorem qsZ{u:HO}(ok:HOk P w H h)(e:Rd H a u):ObjOk P w H h a u:=e.ok ok
theorem qhq{kvs:List (Key×V)}(ok:HOk P w H h)(e:Rd H a (.dK kvs)):kvs.length<=sizeLine/\(a==sysModules)=false/\∃ vs,KV kvs vs/\h.DictOf (qak P w) a vs:=
 show ObjOk P w H h a (.dK kvs)from qsZ ok e
theorem qrG{kvs:List (Key×V)}(ok:HOk P w H h)(e:H a=some (.dK kvs)):kvs.length<=sizeLine/\(a==sysModules)=false/\∃ vs,KV kvs vs/\h.DictOf (qak P w) a vs:=qhq ok (.inl e)
theorem qfb{ks:List qbv}(ok:HOk P w H h)(e:H a=some (.tup (ks.map oV))):(tupleKind (optKind P w)).is h ks a:=by
 obtain⟨_,its,r,o,h1,h2,n,h3⟩:=(show ObjOk P w H h a (.tup (ks.map oV))from ok a _ e)
 exact⟨o,its.toArray,n,h1,h2,h3,by simpa using qhg r⟩
theorem qiP{kvs:List (List qbv×V)}(ok:HOk P w H h)(e:Rd H a (.dT kvs)):kvs.length<=sizeLine/\(a==sysModules)=false/\
 ∃ xs,KT H kvs xs/\h.DictOfH (tupleKind (optKind P w)) a xs:=by
 obtain⟨z,y,xs,r,o,es,ep,h1,h2,h3,h4,h5⟩:=(show ObjOk P w H h a (.dT kvs)from qsZ ok e)
 refine⟨z,y,xs,r,o,es,ep,h1,h2,h3,h4,fun x hx=>?_,h5⟩
 have all:∀ {l:List (List qbv×V)} {m:List (List qbv×Addr×Value)},KT H l m->∀ x∈m,(tupleKind (optKind P w)).is h x.1 x.2.1:=by
  intro l m q
  induction q with
  |nil=>intro x hx;exact nomatch hx
  | @cons p q ps qs hq t ih=>
   intro x hx;rcases was.mp hx with e|hx
   · subst e
     exact qfb ok (by rw[<-hq.1];exact hq.2.1)
   · exact ih x hx
 exact all r x hx
theorem qxS{kvs:List (List qbv×V)}(ok:HOk P w H h)(e:H a=some (.dT kvs)):kvs.length<=sizeLine/\(a==sysModules)=false/\
 ∃ xs,KT H kvs xs/\h.DictOfH (tupleKind (optKind P w)) a xs:=qiP ok (.inl e)
end
def DGet(H:Hp)(a:Addr)(y:V)(r:Option V):Prop:=
 (∃ kvs k,Rd H a (.dK kvs)/\y=kV k/\r=qeF kvs k)∨∃ kvs k b,Rd H a (.dT kvs)/\y= .ref b/\H b=some (.tup (k.map oV))/\r=qeF kvs k
def DPut(H:Hp)(a:Addr)(y v:V)(H':Hp):Prop:=
 (∃ kvs k,H a=some (.dK kvs)/\y=kV k/\kvs.length<sizeLine/\H'=upd H a (.dK (putK kvs k v)))∨
 ∃ kvs k b,H a=some (.dT kvs)/\y= .ref b/\H b=some (.tup (k.map oV))/\kvs.length<sizeLine/\H'=upd H a (.dT (putK kvs k v))
theorem DGet.k{H:Hp}{a:Addr}{kvs:List (Key×V)}{k:Key}(e:H a=some (.dK kvs)):DGet H a (kV k) (qeF kvs k):=.inl ⟨kvs,k,.inl e,rfl,rfl⟩
theorem DGet.t{H:Hp}{a b:Addr}{kvs:List (List qbv×V)}{k:List qbv}(e:H a=some (.dT kvs))(eb:H b=some (.tup (k.map oV))):DGet H a (.ref b) (qeF kvs k):=.inr ⟨kvs,k,b,.inl e,rfl,eb,rfl⟩
theorem DPut.k{H:Hp}{a:Addr}{kvs:List (Key×V)}{k:Key}{v:V}(e:H a=some (.dK kvs))(hl:kvs.length<sizeLine):DPut H a (kV k) v (upd H a (.dK (putK kvs k v))):=.inl ⟨kvs,k,e,rfl,hl,rfl⟩
theorem DPut.t{H:Hp}{a b:Addr}{kvs:List (List qbv×V)}{k:List qbv}{v:V}(e:H a=some (.dT kvs))(eb:H b=some (.tup (k.map oV)))(hl:kvs.length<sizeLine):
 DPut H a (.ref b) v (upd H a (.dT (putK kvs k v))):=.inr ⟨kvs,k,b,e,rfl,eb,hl,rfl⟩
section
variable {X:Cx}{pins:List (Addr×Obj)}{σ:St}{H:Hp}{s:Shared}{a:Addr}{y v:V}{u r:Value}{o:Option V}{A:Around}{E:Value->Shared->Prop}
theorem Inv.big(I:Inv X pins σ H s):sysModules<s.heap.objs.size:=by
 have h:mainGlobals<s.heap.objs.size:=(I.mod.glob.keeps I.bk).lt;exact waA (by decide) h
theorem qmP{Q:Value->Shared->Prop}(hu:A.units+1<cLine)(I:Inv X pins σ H s)(g:DGet H a y (some v))(ry:RelV y u)(h:∀ w' s',Inv X pins σ H s'->RelV v w'->Q w' s'):
 wpAny (model X.prog X.w) A (getItem (.ref a) u) Q E s:=by
 rcases g with⟨kvs,k,e,ey,l⟩|⟨kvs,k,b,e,ey,eb,l⟩
 · subst ey
   obtain⟨z,hd,vs,rel,dd⟩:=qhq I.hok e;obtain⟨w',hw,rw'⟩:=RelO.some_of (v:=v) (o:=valueAt vs k) (by rw[l];exact rel.val k)
   exact wpAny_getItem_of (qdH ry) dd.mapOf hw (h w' _ (I.tok _) rw')
 · subst ey
   cases(show u=Value.ref b from ry)
   obtain⟨z,hd,xs,rel,dd⟩:=qiP I.hok e;obtain⟨w',hw,rw'⟩:=RelO.some_of (v:=v) (o:=(atKey xs k).map (·.2)) (by rw[l];exact rel.val k)
   obtain⟨p,hp,hp2⟩:=Option.map_eq_some_iff.mp hw;refine wpAny_getItem_heap (tupleKind_room_in1 hu) (qfb I.hok eb) dd hp ?_;rw[hp2];exact h w' _ (I.tok _) rw'
theorem qDE{Q:Value->Shared->Prop}(hu:A.units+1<cLine)(I:Inv X pins σ H s)(g:DGet H a y o)(ry:RelV y u)(h:∀ s',Inv X pins σ H s'->Q (.bool o.isSome) s'):
 wpAny (model X.prog X.w) A (compareOp .In u (.ref a)) Q E s:=by
 rcases g with⟨kvs,k,e,ey,l⟩|⟨kvs,k,b,e,ey,eb,l⟩
 · subst ey
   obtain⟨z,hd,vs,rel,dd⟩:=qhq I.hok e;refine wpAny_in_of (qdH ry) hd dd.mapOf ?_;rw[<-(rel.val k).isSome_eq,<-l];exact h _ (I.tok _)
 · subst ey
   cases(show u=Value.ref b from ry)
   obtain⟨z,hd,xs,rel,dd⟩:=qiP I.hok e;refine wpAny_in_heap (tupleKind_room_in1 hu) (qfb I.hok eb) hd dd ?_;have q:=(rel.val k).isSome_eq;rw[Option.isSome_map]at q;rw[<-q,<-l];exact h _ (I.tok _)
theorem qrK{Q:Value->Shared->Prop}(hu:A.units+1<cLine)(I:Inv X pins σ H s)(g:DGet H a y o)(ry:RelV y u)(h:∀ s',Inv X pins σ H s'->Q (.bool (!o.isSome)) s'):
 wpAny (model X.prog X.w) A (compareOp .NotIn u (.ref a)) Q E s:=by
 rcases g with⟨kvs,k,e,ey,l⟩|⟨kvs,k,b,e,ey,eb,l⟩
 · subst ey
   obtain⟨z,hd,vs,rel,dd⟩:=qhq I.hok e;refine wpAny_notIn_of (qdH ry) hd dd.mapOf ?_;rw[<-(rel.val k).isSome_eq,<-l];exact h _ (I.tok _)
 · subst ey
   cases(show u=Value.ref b from ry)
   obtain⟨z,hd,xs,rel,dd⟩:=qiP I.hok e;refine wpAny_notIn_heap (tupleKind_room_in1 hu) (qfb I.hok eb) hd dd ?_;have q:=(rel.val k).isSome_eq;rw[Option.isSome_map]at q;rw[<-q,<-l];exact h _ (I.tok _)
theorem qfZ{h':Heap}{t':Nat}{ob:HO}(I:Inv X pins σ H s)(mu:Mut (H a))(hs:Heap.SameBut a s.heap h')(he:∃ q,h'.get? a=some q)(new:ObjOk X.prog X.w (upd H a ob) h' a ob):
 Inv X pins σ (upd H a ob) { s with heap:=h',toks:=t' }:=
 I.write (x:=a) (e:=a) mu (.inl rfl) (fun b q hb z=>(hs.2 b hb).trans z) he new
theorem qmM{P:Program}{w:World}{H':Hp}{h':Heap}{kvs:List (Key×V)}{vs:List (Key×Value)}(z:kvs.length<=sizeLine)(hd:(a==sysModules)=false)(rel:KV kvs vs)(dd:h'.DictOf (qak P w) a vs):
 ObjOk P w H' h' a (.dK kvs):=⟨z,hd,vs,rel,dd⟩
theorem qmO{H':Hp}{Q:Unit->Shared->Prop}(hu:A.units+1<cLine)(I:Inv X pins σ H s)(g:DPut H a y v H')(ry:RelV y u)(rv:RelV v r)(h:∀ s',Inv X pins σ H' s'->Q () s'):
 wpAny (model X.prog X.w) A (setItem (.ref a) u r) Q E s:=by
 rcases g with⟨kvs,k,e,ey,l,eH⟩|⟨kvs,k,b,e,ey,eb,l,eH⟩
 · subst ey eH
   obtain⟨z,hd,vs,rel,dd⟩:=qrG I.hok e;have hz:vs.length<=sizeLine:=by rw[<-rel.length];exact z
   have hl:(putK kvs k v).length<=sizeLine:=by have:=qch kvs k v;omega
   refine wpAny_setItem_pairs (hsz:=hz) (qdH ry) dd fun h' dd' hs=>h _ ?_
   have he:∃ q,h'.get? a=some q:=let⟨q,_,_,hq,_⟩:=dd';⟨q,hq⟩;exact qfZ I (by rw[e];exact True.intro) hs he (qmM hl hd (rel.put k rv) dd')
 · subst ey eH
   cases(show u=Value.ref b from ry)
   obtain⟨z,hd,xs,rel,dd⟩:=qxS I.hok e;have hz:xs.length<=sizeLine:=by rw[<-Paired.length rel];exact z
   have hl:(putK kvs k v).length<=sizeLine:=by have:=qch kvs k v;omega
   refine wpAny_setItem_heap (hsz:=hz) (tupleKind_room_in1 hu) (qfb I.hok eb) dd fun h' dd' hs=>h _ ?_
   obtain⟨q,es,ep,hq,h2,h3,h4,_,h5⟩:=dd';refine qfZ I (by rw[e];exact True.intro) hs ⟨q,hq⟩ ⟨hl,hd,_,(rel.put k eb rv).keeps fun c ys ec=>?_,q,es,ep,hq,h2,h3,h4,h5⟩
   rw[qae (qeQ ec e (fun z=>nomatch z))]
   exact ec
end
section
variable {X:Cx}{pins:List (Addr×Obj)}{σ:St}{H:Hp}{s:Shared}{a:Addr}{kvs:List (Key×V)}{k:Key}{u:Value}{A:Around}{E:Value->Shared->Prop}
theorem qmQ{Q:Unit->Shared->Prop}(I:Inv X pins σ H s)(e:H a=some (.dK kvs))(ry:RelV (kV k) u)(l:(qeF kvs k).isSome=true)(h:∀ s',Inv X pins σ (upd H a (.dK (qhp kvs k))) s'->Q () s'):
 wpAny (model X.prog X.w) A (delItem (.ref a) u) Q E s:=by
 obtain⟨z,hd,vs,rel,dd⟩:=qrG I.hok e;refine wpAny_delItem_slot dd.typeIs (by decide) PySem.F.slot_dict_delitem
  (call_meetsIn PySem.F.slot_dict_delitem dd.typeIs PySem.F.entry_dict_delitem (PySem.F.args_dict_delitem_2 _ _) (meets_dict_delitem_pairs (qak X.prog X.w) a (qdH ry)) ⟨vs,dd,by rw[<-rel.length];exact z,by rw[<-(rel.val k).isSome_eq];exact l,fun h' dd' hs=>h _ ?_⟩)
 have he:∃ q,h'.get? a=some q:=let⟨q,_,_,hq,_⟩:=dd';⟨q,hq⟩;exact qfZ I (by rw[e];exact True.intro) hs he (qmM (wal (qoC kvs k) z) hd (rel.drop k) dd')
theorem qxV{Q:Value->Shared->Prop}(I:Inv X pins σ H s)(e:Rd H a (.dK kvs))(h:∀ t s',Inv X pins σ H s'->Q (.int kvs.length t) s'):wpAny (model X.prog X.w) A (call (.builtin "len") [.ref a]) Q E s:=by
 obtain⟨z,hd,vs,rel,dd⟩:=qhq I.hok e;refine call_len_dict hd dd (by rw[<-rel.length];rw[sizeLine_eq]at z;omega) ?_
 rw[<-rel.length];exact h _ _ (I.tok _)
end
def qsk(i:Expr):Prop:=∀ ov iv,subscripted i false ov iv=operate [ov,iv] (getItem ov iv)
theorem qkR{prog:Program}{w:World}{A:Around}{E:Value->Shared->Prop}{s:Shared}{env:Env}{value slice:Expr}{pos:Pos}{T id:String}{Q:Value->Shared->Prop}
 (hl:typeLookup (.type T) "__getitem__" =pure (some (.builtin id))) (hs:qsk slice)
 (h:wpAny (model prog w) A (eval value env) (fun o s₁=>wpAny (model prog w) A (eval slice env) (fun i s₂=>s₂.TypeIs o T/\wpAny (model prog w) A (getItem o i) Q E s₂) E s₁) E s):
 wpAny (model prog w) A (eval (.Subscript value slice pos) env) Q E s:=by
 refine Subscript_ (wpAny_mono h (fun o s₁ h₁=>wpAny_mono h₁ (fun i s₂ h₂=>?_) fun _ _ x=>x) fun _ _ x=>x)
 obtain⟨hT,h₂⟩:=h₂;unfold subscriptTail;refine wpAny_bind ?_;rw[getitemInPython_of_ne hT.not_modules];refine wpAny_bind (wpAny_specialOf hT hl ?_);have fin:wpAny (model prog w) A (subscripted slice false o i) (fun r s₃=>wpAny (model prog w) A (letTemporaryGo value o r >>= fun _=>pure r) Q E s₃) E s₂:=by
  rw[hs o i];exact wpAny_operating (wpAny_mono h₂ (fun r s₃ h₃=>wpAny_bind (wpAny_letTemporaryGo (wpAny_pure h₃))) fun _ _ x=>x)
 first
  |exact wpAny_pure (wpAny_bind fin)
  |exact wpAny_bind (wpAny_pure (wpAny_bind fin))
  |exact wpAny_bind fin
theorem qiQ{X:Cx}{pins:List (Addr×Obj)}{σ:St}{H:Hp}{s:Shared}{a:Addr}{y:V}{o:Option V}(I:Inv X pins σ H s)(g:DGet H a y o):s.TypeIs (.ref a) "dict":=by
 rcases g with⟨kvs,k,e,_,_⟩|⟨kvs,k,b,e,_,_,_⟩
 · obtain⟨_,_,vs,_,dd⟩:=qhq I.hok e
   exact dd.typeIs
 · obtain⟨_,_,xs,_,dd⟩:=qiP I.hok e
   exact dd.typeIs
def qwa(td ty:TE):TE:=fun σ H Q=>td σ H fun x H1=>ty σ H1 fun y H2=>∃ a v,x= .ref a/\DGet H2 a y (some v)/\Q v H2
def qCy(ty td:TE):TE:=fun σ H Q=>ty σ H fun y H1=>td σ H1 fun x H2=>∃ a o,x= .ref a/\DGet H2 a y o/\Q (.bl o.isSome) H2
def qp3(ty td:TE):TE:=fun σ H Q=>ty σ H fun y H1=>td σ H1 fun x H2=>∃ a o,x= .ref a/\DGet H2 a y o/\Q (.bl (!o.isSome)) H2
def qwp(td ty tv:TE):TS:=fun D σ H=>tv σ H fun v H1=>td σ H1 fun x H2=>ty σ H2 fun y H3=>∃ a H4,x= .ref a/\DPut H3 a y v H4/\D.nx σ H4
noncomputable def qwq (td ty:TE):TS:=fun D σ H=>td σ H fun x H1=>ty σ H1 fun y H2=>∃ a kvs k,x= .ref a/\H2 a=some (.dK kvs)/\y=kV k/\(qeF kvs k).isSome=true/\D.nx σ (upd H2 a (.dK (qhp kvs k)))
section
variable {X:Cx}{o i e value:Expr}{pos pos' tpos:Pos}{td ty tv:TE}
theorem qlG(hu:X.A.units+1<cLine)(ho:PE X o td)(hi:PE X i ty)(hs:qsk i):PE X (.Subscript o i pos) (qwa td ty):=by
 intro pins s σ H Q I h;refine qkR PySem.F.slot_dict_getitem.lookup hs (thn (ho pins s σ H _ I h) fun u s1 ⟨x,H1,I1,rx,q1⟩=>thn (hi pins s1 σ H1 _ I1 q1) fun iv s2 ⟨y,H2,I2,ry,a,v,ex,g,q2⟩=>?_)
 subst ex;obtain rfl:u=Value.ref a:=rx;exact⟨qiQ I2 g,qmP hu I2 g ry fun w' s3 I3 rw'=>⟨v,H2,I3,rw',q2⟩⟩
theorem qpm(hu:X.A.units+1<cLine)(hi:PE X i ty)(ho:PE X o td):PC X .In i o (qCy ty td):=by
 intro pins s σ H Q I h;refine thn (hi pins s σ H _ I h) fun iv s1 ⟨y,H1,I1,ry,q1⟩=>thn (ho pins s1 σ H1 _ I1 q1) fun u s2 ⟨x,H2,I2,rx,a,ov,ex,g,q2⟩=>?_
 subst ex;obtain rfl:u=Value.ref a:=rx;exact qDE hu I2 g ry fun s3 I3=>⟨.bl ov.isSome,H2,I3,rfl,q2⟩
theorem qgO(hu:X.A.units+1<cLine)(hi:PE X i ty)(ho:PE X o td):PC X .NotIn i o (qp3 ty td):=by
 intro pins s σ H Q I h;refine thn (hi pins s σ H _ I h) fun iv s1 ⟨y,H1,I1,ry,q1⟩=>thn (ho pins s1 σ H1 _ I1 q1) fun u s2 ⟨x,H2,I2,rx,a,ov,ex,g,q2⟩=>?_
 subst ex;obtain rfl:u=Value.ref a:=rx;exact qrK hu I2 g ry fun s3 I3=>⟨.bl (!ov.isSome),H2,I3,rfl,q2⟩
theorem qqC(hu:X.A.units+1<cLine)(ho:PE X o td)(hi:PE X i ty)(hv:PE X value tv)(hs:swapsWith value (some (.Subscript o i pos')) pos.line X.env=pure false):
 PS X (.Assign [.Subscript o i pos'] value pos) (qwp td ty tv):=by
 intro pins s σ H D I h;refine wpAny_Assign_Subscript (thn (hv pins s σ H _ I h) fun r s1 ⟨v,H1,I1,rv,q1⟩=>thn (ho pins s1 σ H1 _ I1 q1) fun u s2 ⟨x,H2,I2,rx,q2⟩=>thn (hi pins s2 σ H2 _ I2 q2) fun iv s3 ⟨y,H3,I3,ry,a,H4,ex,g,q3⟩=>?_) hs
 subst ex;obtain rfl:u=Value.ref a:=rx;exact qmO hu I3 g ry rv fun s4 I4=>⟨σ,H4,I4,q3⟩
theorem qqD(ho:PE X o td)(hi:PE X i ty):PS X (.Delete [.Subscript o i tpos] pos) (qwq td ty):=by
 intro pins s σ H D I h;refine wpAny_Delete (wpAny_deleteEach_cons (wpAny_delete_Subscript (thn (ho pins s σ H _ I h) fun u s1 ⟨x,H1,I1,rx,q1⟩=>thn (hi pins s1 σ H1 _ I1 q1) fun iv s2 ⟨y,H2,I2,ry,a,kvs,k,ex,e,ey,l,q2⟩=>?_)))
 subst ex ey;obtain rfl:u=Value.ref a:=rx;exact qmQ I2 e ry l fun s3 I3=>wpAny_deleteEach_nil ⟨σ,_,I3,q2⟩
end
theorem qjw{P:Program}{w:World}{H:Hp}(h:Heap)(hb:sysModules<h.objs.size):ObjOk P w H (h.push { cls:=.type "dict",data:=.dict #[] }) h.objs.size (.dK []):=
 ⟨waV _,beq_eq_false_iff_ne.mpr (Ne.symm (waq hb)),[],.nil,Heap.DictOf.new h⟩
theorem qoz{P:Program}{w:World}{H:Hp}(h:Heap)(hb:sysModules<h.objs.size):ObjOk P w H (h.push { cls:=.type "dict",data:=.dict #[] }) h.objs.size (.dT []):=
 ⟨waV _,beq_eq_false_iff_ne.mpr (Ne.symm (waq hb)),[],.nil,_,#[],0,Heap.get?_push_size _ rfl,⟨rfl,rfl,rfl⟩,rfl,rfl,wa3⟩
def qsH:TE:=fun _ H Q=>∀ p,H p=none->Q (.ref p) (upd H p (.dK []))
def qsG:TE:=fun _ H Q=>∀ p,H p=none->Q (.ref p) (upd H p (.dT []))
section
variable {X:Cx}{pos:Pos}
theorem qn4:PE X (.Dict [] [] pos) qsH:=fun pins s σ H Q I h=>
 wpAny_Dict_empty ⟨.ref s.heap.objs.size,_,I.laid (a:=s.heap.objs.size) (o:=.dK []) (t':=s.toks) (fun _ _ q=>Heap.get?_push_of_some _ q) (wac _) (qjw s.heap I.big),rfl,h _ (I.hok.fresh (wac _))⟩
theorem qn3:PE X (.Dict [] [] pos) qsG:=fun pins s σ H Q I h=>
 wpAny_Dict_empty ⟨.ref s.heap.objs.size,_,I.laid (a:=s.heap.objs.size) (o:=.dT []) (t':=s.toks) (fun _ _ q=>Heap.get?_push_of_some _ q) (wac _) (qoz s.heap I.big),rfl,h _ (I.hok.fresh (wac _))⟩
end
noncomputable def qi2:List (TE×TE)->St->Hp->(List (V×V)->Hp->Prop)->Prop
 | [],_,H,Q=>Q [] H
 |(tk,tv)::r,σ,H,Q=>tk σ H fun x H1=>tv σ H1 fun y H2=>qi2 r σ H2 fun ps H3=>Q ((x,y)::ps) H3
abbrev VV:List (V×V)->List (Value×Value)->Prop:=Paired fun p q=>RelV p.1 q.1/\RelV p.2 q.2
def PPs(X:Cx)(pos:Pos)(keys:List (Option Expr))(values:List Expr)(trs:List (TE×TE)):Prop:=
 ∀ (pins:List (Addr×Obj)) (s:Shared) (σ:St) (H:Hp) (Q:List (V×V)->Hp->Prop),Inv X pins σ H s->qi2 trs σ H Q->
  wpAny (model X.prog X.w) X.A (evalPairs (pairTrees keys values X.env pos)) (fun vs s'=>∃ ps H',Inv X pins σ H' s'/\VV ps vs/\Q ps H') X.xe s
theorem qqE{X:Cx}{pos:Pos}:PPs X pos [] [] []:=fun pins s σ H Q I h=>pairTrees_nil_walk ⟨[],H,I,.nil,h⟩
theorem qnX{X:Cx}{pos:Pos}{k v:Expr}{ks:List (Option Expr)}{vs:List Expr}{tk tv:TE}{trs:List (TE×TE)}(hk:PE X k tk)(hv:PE X v tv)(hr:PPs X pos ks vs trs):
 PPs X pos (some k::ks) (v::vs) ((tk,tv)::trs):=fun pins s σ H Q I h=>
 pairTrees_cons_walk (thn (hk pins s σ H _ I h) fun u s1 ⟨x,H1,I1,rx,q1⟩=>thn (hv pins s1 σ H1 _ I1 q1) fun w2 s2 ⟨y,H2,I2,ry,q2⟩=>
  thn (hr pins s2 σ H2 _ I2 q2) fun ws s3 ⟨ps,H3,I3,rel,q3⟩=>⟨(x,y)::ps,H3,I3,.cons ⟨rx,ry⟩ rel,q3⟩)
def qcx(kvs more:List (Key×V)):List (Key×V):=more.foldl (fun acc kv=>putK acc kv.1 kv.2) kvs
theorem KV.merge:∀ {more:List (Key×V)} {rs:List (Key×Value)} {kvs:List (Key×V)} {vs:List (Key×Value)},KV more rs->KV kvs vs->KV (qcx kvs more) (merged vs rs):=by
 intro more rs kvs vs r;unfold KV at r
 induction r generalizing kvs vs with
 |nil=>intro q;exact q
 | @cons p q ps qs h t ih=>
  intro r0;have e:KV (putK kvs p.1 p.2) (stored vs q.1 q.2):=by
   have:=r0.put p.1 h.2;rw[<-h.1];exact this
  exact ih e
theorem qcC:∀ (more kvs:List (Key×V)),(qcx kvs more).length<=kvs.length+more.length
 | [],kvs=>by show kvs.length<=kvs.length+0;omega
 |p::r,kvs=>by
  have h1:=qcC r (putK kvs p.1 p.2);have h2:=qch kvs p.1 p.2;show(qcx (putK kvs p.1 p.2) r).length<=_;rw[waf];omega
theorem qfj{P:Program}{w:World}:∀ {kvs:List (Key×V)} {ws:List (Value×Value)},VV (kvs.map fun kv=>(kV kv.1,kv.2)) ws->∃ rs,Carries (qak P w) ws rs/\KV kvs rs
 | [],_,r=>by rw[wa6]at r;cases r;exact⟨[],True.intro,.nil⟩
 |p::kvs,_,r=>by
  rw[wad]at r;cases r with
  | @cons a b as bs h t=>
   obtain⟨rs,c,q⟩:=qfj (P:=P) (w:=w) t;obtain⟨b1,b2⟩:=b;exact⟨(p.1,b2)::rs,⟨qdH h.1,rfl,c⟩,.cons ⟨rfl,h.2⟩ q⟩
noncomputable def qv8 (trs:List (TE×TE)):TE:=fun σ H Q=>∀ p,H p=none->qi2 trs σ (upd H p (.dK [])) fun ps H2=>H2 p=some (.dK [])/\∃ kvs:List (Key×V),ps=kvs.map (fun kv=>(kV kv.1,kv.2))/\kvs.length<=15/\Q (.ref p) (upd H2 p (.dK (qcx [] kvs)))
theorem qqL{X:Cx}{pos:Pos}{keys:List (Option Expr)}{values:List Expr}{trs:List (TE×TE)}(h:PPs X pos keys values trs)(hall:keys.all (·.isSome)=true)(hl:keys.length=values.length)(h0:keys≠[])
 (h15:keys.length<=15):PE X (.Dict keys values pos) (qv8 trs):=by
 intro pins s σ H Q I q;have hn:=I.hok.fresh (wac s.heap.objs.size);have I1:=I.laid (a:=s.heap.objs.size) (o:=.dK []) (h':=s.heap.push { cls:=.type "dict",data:=.dict #[] }) (t':=s.toks) (fun _ _ q=>Heap.get?_push_of_some _ q) (wac _) (qjw s.heap I.big)
 refine wpAny_Dict_walk (knd:=qak X.prog X.w) hall hl h0 h15 (thn (h pins _ σ _ _ I1 (q _ hn)) fun ws s2 ⟨ps,H2,I2,rel,e,kvs,ep,lk,q2⟩=>?_)
 subst ep;obtain⟨rs,c,rk⟩:=qfj (P:=X.prog) (w:=X.w) rel;obtain⟨z,hd,vs0,r0,dd⟩:=qrG I2.hok e;cases r0;refine⟨rs,c,dd,fun h' dd' hs=>⟨.ref s.heap.objs.size,_,?_,rfl,q2⟩⟩
 have hz:(qcx [] kvs).length<=sizeLine:=by
  have h1:=qcC kvs [];rw[List.length_nil]at h1;rw[sizeLine_eq];omega
 have he:∃ q,h'.get? s.heap.objs.size=some q:=let⟨q,_,_,hq,_⟩:=dd';⟨q,hq⟩;exact qfZ I2 (by rw[e];exact True.intro) hs he (qmM hz hd (rk.merge .nil) dd')
structure M1(X:Cx)(o:Expr)(m:Str)(apos:Pos)(e:Expr)(cpos:Pos):Prop where
 base:attributeBase o m X.env (eval o X.env)=eval o X.env
 few:((backTo cpos (starEach [e] X.env)).all (fun x=>!x.1)&&(backToKw cpos (keywordEach [] X.env)).all (fun x=>x.1.isSome)
  &&decide (([e]:List Expr).length+([]:List Keyword).length+(if([]:List Keyword).isEmpty then 0 else 1)<30))=true
 line:(apos.endLine==cpos.line)=true
 trees:backTo cpos (starEach [e] X.env)= [(false,eval e X.env)]
structure M2(X:Cx)(o:Expr)(m:Str)(apos:Pos)(e f:Expr)(cpos:Pos):Prop where
 base:attributeBase o m X.env (eval o X.env)=eval o X.env
 few:((backTo cpos (starEach [e,f] X.env)).all (fun x=>!x.1)&&(backToKw cpos (keywordEach [] X.env)).all (fun x=>x.1.isSome)
  &&decide (([e,f]:List Expr).length+([]:List Keyword).length+(if([]:List Keyword).isEmpty then 0 else 1)<30))=true
 line:(apos.endLine==cpos.line)=true
 trees:backTo cpos (starEach [e,f] X.env)= [(false,eval e X.env),(false,eval f X.env)]
def IsD(H:Hp)(a:Addr):Prop:=(∃ kvs,Rd H a (.dK kvs))∨∃ kvs,Rd H a (.dT kvs)
theorem quA{X:Cx}{pins:List (Addr×Obj)}{σ:St}{H:Hp}{s:Shared}{a:Addr}(I:Inv X pins σ H s)(d:IsD H a):
 s.TypeIs (.ref a) "dict"/\(∀ b,Value.ref a= .ref b->∃ ob,s.heap.get? b=some ob/\ob.dict=none)/\(a==sysModules)=false:=by
 rcases d with⟨kvs,e⟩|⟨kvs,e⟩
 · obtain⟨_,hd,vs,_,dd⟩:=qhq I.hok e
   refine⟨dd.typeIs,fun b q=>?_,hd⟩
   cases q;obtain⟨ob,_,_,h1,h2,_⟩:=dd;exact⟨ob,h1,h2.2.1⟩
 · obtain⟨_,hd,xs,_,dd⟩:=qiP I.hok e
   refine⟨dd.typeIs,fun b q=>?_,hd⟩
   cases q;obtain⟨ob,_,_,h1,h2,_⟩:=dd;exact⟨ob,h1,h2.2.1⟩
section
variable {X:Cx}{pins:List (Addr×Obj)}{σ:St}{H:Hp}{s:Shared}{a:Addr}{y d:V}{u r:Value}{o:Option V}{A:Around}{E:Value->Shared->Prop}
theorem quS{Q:Value->Shared->Prop}(hu:A.units+1<cLine)(I:Inv X pins σ H s)(g:DGet H a y o)(ry:RelV y u)(h:∀ w' s',Inv X pins σ H s'->RelV (o.getD .non) w'->Q w' s'):
 wpAny (model X.prog X.w) A (call (.builtin "dict.get") [.ref a,u]) Q E s:=by
 rcases g with⟨kvs,k,e,ey,l⟩|⟨kvs,k,b,e,ey,eb,l⟩
 · subst ey
   obtain⟨z,hd,vs,rel,dd⟩:=qhq I.hok e;refine call_meetsIn PySem.F.slot_dict_get dd.typeIs PySem.F.entry_dict_get (PySem.F.args_dict_get_2 _ _) (meets_dict_get (qak X.prog X.w) a (qdH ry) hd) ⟨_,dd.mapOf,h _ _ (I.tok _) ?_⟩;rw[l];exact(rel.val k).getD rfl
 · subst ey
   cases(show u=Value.ref b from ry)
   obtain⟨z,hd,xs,rel,dd⟩:=qiP I.hok e;refine call_meetsIn PySem.F.slot_dict_get dd.typeIs PySem.F.entry_dict_get (PySem.F.args_dict_get_2 _ _) (meetsH_dict_get (tupleKind (optKind X.prog X.w)) a b hd) ⟨tupleKind_room_in1 hu,k,xs,qfb I.hok eb,dd,h _ _ (I.tok _) ?_⟩;rw[l];exact(rel.val k).getD rfl
end
def qsI(td ty:TE):TE:=fun σ H Q=>td σ H fun x H1=>∃ a,x= .ref a/\IsD H1 a/\ty σ H1 fun y H2=>∃ o,DGet H2 a y o/\Q (o.getD .non) H2
section
variable {X:Cx}{o e f:Expr}{apos cpos:Pos}{td ty tx:TE}
theorem qn5(hu:X.A.units+1<cLine)(ho:PE X o td)(he:PE X e ty)(m:M1 X o "get" apos e cpos):PE X (.Call (.Attribute o "get" apos) [e] [] cpos) (qsI td ty):=by
 intro pins s σ H Q I h;refine wpAny_Call_method m.base m.few m.line PySem.F.plainAttrs_dict PySem.F.slot_dict_get PySem.F.type_dict_get (thn (ho pins s σ H _ I h) fun u s1 ⟨x,H1,I1,rx,a,ex,d,q1⟩=>?_)
 subst ex;obtain rfl:u=Value.ref a:=rx;obtain⟨t1,t2,_⟩:=quA I1 d;refine⟨t1,t2,?_⟩;rw[m.trees];refine Calls.callWith_builtin rfl (Calls.evalArgs_plain (Calls.spliced_cons (thn (he pins s1 σ H1 _ I1 q1) fun iv s2 ⟨y,H2,I2,ry,ov,g,q2⟩=>Calls.spliced_nil ?_)))
 exact quS hu I2 g ry fun w' s3 I3 rw'=>⟨_,H2,I3,rw',q2⟩
end
end L2
namespace Att
open PySem PySem.W PySem.Calls PyProof.Rows
theorem qeo{P:Params}{h:Heap}:∀ (ns:List Int) (vs:List Value),WellAll P h vs (ns.map WData.int)->IntsAre vs ns:=by
 intro ns
 induction ns with
 |nil=>
  intro vs w;rw[wa6]at w;cases w;exact .nil
 |cons n ns ih=>
  intro vs w;rw[wad]at w;cases w with
  |cons a b=>
   cases a;exact .cons _ _ (ih _ b)
theorem qkY{l:OpenLaw}{n:Nat}(hn:l.most=some n){P:Params}{h:Heap}{args:List WData}{vals:List Value}
 (hpre:l.row.toRowW.claim.pre args=true) (hwl:WellAll P h vals args):
 ∃ a vs ns,vals= [Value.ref a]/\args= [WData.list (ns.map WData.int)]/\h.get? a=some { cls:=.type "list",data:=.seq vs.toArray }/\IntsAre vs ns/\ns.length<=n:=by
 have hsh:WShape.hasAll [] args [.list .int]=true:=(pre_splitW hpre).1;have hc:l.pre.holds [] { args:=args }=true:=(pre_splitW hpre).2;obtain⟨d,r,rfl,h1,h2⟩:=hasAllW_cons hsh;obtain rfl:=hasAllW_nil h2;obtain⟨xs,rfl,h3⟩:=hasW_list h1;obtain⟨ns,rfl⟩:=items_int h3;have hlen:ns.length<=n:=by
  unfold OpenLaw.pre at hc;have h4:(WTm.not (.lt (.lit (.int (n:Int))) (.len (.arg 0)))).holds [] { args:=[.list (ns.map .int)] }=true:=by
   have h4:=(holds_andW hc).1;rw[hn]at h4;exact h4
  have h5:=condW_of h4 (w_not (w_lt w_lit (w_len_list (w_arg rfl))));rw[wab]at h5;refine Nat.le_of_not_lt fun q=>?_
  have q':(n:Int)<((ns.length:Nat):Int):=by omega
  first
   |(rw[decide_eq_true q']at h5;exact absurd h5 (by decide))
   |(simp at h5;omega)
 cases hwl with
 |cons w1 w2=>
  cases w2;cases w1 with
  |list ho hall=>exact⟨_,_,ns,rfl,rfl,ho,qeo ns _ hall,hlen⟩
theorem qlB(l:OpenLaw)(args:List WData):l.row.toRowW.claim.post args (.bool true) args=true:=
 postW_of (r:=l.row.toRowW) (X:=(true==true))
  (show WShape.has [] (.bool true) .bool=true by first|rfl|decide|simp[WShape.has,WShape.arms,WShape.armsAll])
  (show(WTm.eq .res (.lit (.bool true))).value [] { args:=args,res:=some (.bool true),after:=args }=some (.bool (true==true))from w_eq_bool (w_res rfl) w_lit) rfl
theorem attach_call{l:OpenLaw}{n:Nat}{q:Program}{loose:List Str}{XP:(Str->Option Value)->Heap->Prop}{YP:World->Heap->Prop}{d:DefRec}
 (hn:l.most=some n) (hdf:d.params.defaults= [])
 (call:∀ (w:World) (s₀ s₁:Shared) (mg mb:Str->Option Value) (fa:Addr) (o:Obj) (pm cd doc:Value) (a:Addr) (vs:List Value) (ns:List Int),
  Ground q loose [] XP w s₀ mg mb s₁.heap->YP w s₁.heap->
  s₁.heap.get? fa=some o->o.data= .func (docDef d.name d.params d.body d.scope pm cd doc)->s₁.heap.CodeRec cd d.name->mg d.name=some (.ref fa)->
  s₁.heap.get? a=some { cls:=.type "list",data:=.seq vs.toArray }->IntsAre vs ns->ns.length<=n->s₁.gens= #[]->
  codeAny (model l.prog w) callerA (.call (.ref fa) ⟨[.ref a],[]⟩) (fun r s'=>r= .ok (.ret (.bool true))/\OldK s₁.heap s'.heap/\s'.os=s₁.os/\AllBare s'.gens) s₁):
 WalkO q loose XP YP l.row.toRowW d [] (fun f vs=>PySem.call f vs):=by
 intro w s₀ s₁ mg mb G Y fa o pm cd doc dV kV ho hd hcd hD hmg hg args vals as hpre hlay hrd hwl hlo;obtain rfl:dV= .none:=Dflts.none hD hdf;obtain rfl:kV= .none:=Dflts.noKw hD;obtain⟨a,vs,ns,rfl,rfl,hobj,hints,hlen⟩:=qkY hn hpre hwl;refine enter_call (codeAny_mono (call w s₀ s₁ mg mb fa o pm cd doc a vs ns G Y ho (fd_plain hd) hcd hmg hobj hints hlen hg) fun r s' hq=>?_)
 obtain⟨rfl,h2,h3,h4⟩:=hq;exact⟨.inl ⟨.bool true,.bool true,[],rfl,fun _=>rfl,.bool true,qlB l _,fun _=>⟨List.Pairwise.nil,fun _ hm=>(nomatch hm)⟩⟩,h2,h3,h4⟩
section
variable {prog:Program}{w:World}{A:Around}{E:Value->Shared->Prop}{s:Shared}{K:Frag}
def ledger(h:Heap)(L d:Addr):List (Addr×Obj):=(List.range h.objs.size).filterMap fun a=>if a=L∨a=d then none else(h.get? a).map fun o=>(a,o)
end
end Att
namespace L2
open PySem PySem.Spec PyProof.Rows
theorem qbU:∀ {vs:List Value} {ns:List Int},IntsAre vs ns->Vals (ns.map V.int) vs
 |_,_,.nil=>.nil
 |_,_,.cons n t h=>.cons ⟨t,rfl⟩ (qbU h)
def qvP(H:Hp):Prop:=∀ b,H b=none∨∃ o xs,H b=some (.frz o (.lst xs))
theorem qol{P:Program}{w:World}{K:Frg}{mg mb:Str->Option Value}{CX:CXT}{k:Nat}{fa a:Addr}{fd:FuncData}{x:Str}{sp:Sp}{s₁:Shared}{vs:List Value}{ns:List Int}
 (KX:K.In s₁.heap) (hns:s₁.heap.Ns mainGlobals mg) (hb:s₁.heap.Ns builtinsNs mb) (hbb:∀ x:Str,x≠"__name__"->mb x=bootBuiltins x) (hlim:s₁.heap.NoLimit) (hg:s₁.gens= #[])
 (ha:s₁.heap.get? a=some { cls:=.type "list",data:=.seq vs.toArray }) (hi:IntsAre vs ns) (hl:ns.length<=sizeLine) (hr:Room k callerA)
 (F:∀ base:Heap,K.In base->base.Ns mainGlobals mg->FnOk P w K mg base CX k fa fd [x] sp) (hbind:∀ (s:Shared) (u:Value),BindsTo s fd ⟨[u],[]⟩ [(x,u)])
 (hsp:∀ H:Hp,qvP H->SqL K H a (ns.map V.int)->sp [.ref a] H (fun v _=>v= .bl true) fun _ _ _=>False)
 (hCX:∀ H e s',CX [] H s₁ (fun _ _ _=>False) e s'->False):
 codeAny (model P w) callerA (.call (.ref fa) ⟨[.ref a],[]⟩) (fun r s'=>r= .ok (.ret (.bool true))/\OldK s₁.heap s'.heap/\s'.os=s₁.os/\AllBare s'.gens) s₁:=by
 have rv:=qbU hi;have lenV:=hi.length;have core:∀ H:Hp,qvP H->SqL K H a (ns.map V.int)->HOk P w H s₁.heap->(∀ b,H b≠none->b=a)->(H a≠none->K.lookup a=none)->
  codeAny (model P w) callerA (.call (.ref fa) ⟨[.ref a],[]⟩) (fun r s'=>r= .ok (.ret (.bool true))/\OldK s₁.heap s'.heap/\s'.os=s₁.os/\AllBare s'.gens) s₁:=by
  intro H hO hS hok hA hK;have base_of:∀ {b:Addr} {o:Obj},s₁.heap.get? b=some o->H b=none->(qoq s₁.heap H).get? b=some o:=fun e n=>qop e n
  have noA:∀ {b:Addr} {o:Obj} {es:Array DictEntry} {ep:Nat},s₁.heap.get? b=some o->o.data= .dict es ep->H b=none:=fun {b o es ep} e d=>by
   cases q:H b with
   |none=>rfl
   |some u=>
    have e':b=a:=hA b (by rw[q];simp)
    subst e';rw[ha]at e;cases e;have d':Data.seq vs.toArray _=Data.dict es ep:=d;cases d'
  have nsK:∀ {b:Addr} {m:Str->Option Value},s₁.heap.Ns b m->(qoq s₁.heap H).Ns b m:=fun {b m} ⟨o,es,ep,e,d,r⟩=>⟨o,es,ep,base_of e (noA e d),d,r⟩
  have hKb:K.In (qoq s₁.heap H):=fun b o e=>base_of (KX b o e) (by
   cases q:H b with
   |none=>rfl
   |some u=>
    have e':b=a:=hA b (by rw[q];simp)
    subst e';rw[hK (by rw[q];simp)]at e;cases e)
  have hM:Mod K mg (qoq s₁.heap H):=⟨hKb,nsK hns,⟨mb,nsK hb,hbb⟩,let⟨mc,h1,h2⟩:=hlim;⟨mc,nsK h1,h2⟩⟩;have e0:Env0 P w K mg (qoq s₁.heap H) callerA [] s₁ H:=⟨rfl,hM,fun b o e=>qqW e,Nat.le_of_eq (qmz _ _),trivial,fun b hb=>absurd (show b∈([]:List Addr)from hb) (by simp),hok,.of_eq hg⟩
  refine codeAny_mono ((F _ hKb (nsK hns)).run callerA [] s₁ H ⟨[.ref a],[]⟩ [.ref a] [.ref a] _ _ hr e0 (hbind s₁ (.ref a)) (.cons rfl .nil) (hsp H hO hS)) fun r s' h=>?_
  cases r with
  |error e=>exact(hCX H e s' h).elim
  |ok fl=>
   cases fl with
   |next=>exact False.elim h
   |brk=>exact False.elim h
   |cont=>exact False.elim h
   |ret u=>
    obtain⟨v,H',os,bare,un,hok',r',q⟩:=h;have q':v= .bl true:=q;subst q';obtain rfl:u=Value.bool true:=r';refine⟨rfl,OldK.of_keep fun b o e=>?_,os,bare⟩
    cases q:H b with
    |none=>exact un.keep b o e q (by intro z;exact absurd (show b∈([]:List Addr)from z) (by simp)) (by simp)
    |some u=>
     rcases hO b with z|⟨ob,xs,z⟩
     · rw[q]at z;cases z
     · have z2:=un.frzs b ob _ z
       obtain⟨e1,_⟩:=hok b _ z;obtain⟨e2,_⟩:=hok' b _ z2;rw[e]at e1;cases e1;exact e2
 cases hk:K.lookup a with
 |some o=>
  have e:=KX a o hk;rw[ha]at e;cases e;refine core (fun _=>none) (fun _=>.inl rfl) (.inr ⟨_,vs.toArray,_,hk,rfl,rfl,rfl,by rw[wag,lenV];exact hl,by simpa using rv⟩) (fun b u z=>by have z':(none:Option HO)=some u:=z;cases z') (fun b z=>absurd rfl z) fun z=>absurd rfl z
 |none=>
  refine core (fun b=>if b=a then some (.frz { cls:=.type "list",data:=.seq vs.toArray } (.lst (ns.map V.int)))else none) (fun b=>?_) (.inl (.inr ⟨{ cls:=.type "list",data:=.seq vs.toArray },if_pos rfl⟩)) (fun b u z=>?_) (fun b z=>?_) fun _=>hk
  · by_cases hb:b=a
    · exact .inr ⟨_,_,if_pos hb⟩
    · exact .inl (if_neg hb)
  · by_cases hb:b=a
    · have z':=(if_pos hb).symm.trans z
      cases z';subst hb;exact⟨ha,by rw[wab];exact hl,vs,_,rv,ha⟩
    · have z':=(if_neg hb).symm.trans z
      cases z'
  · by_cases hb:b=a
    · exact hb
    · exact absurd (if_neg hb) z
abbrev KOf{K:Frg}{h:Heap}(_:K.In h):Frg:=K
theorem walk_of{l:PySem.W.OpenLaw}{n k:Nat}{q:Program}{loose:List Str}{XP:(Str->Option Value)->Heap->Prop}{YP:World->Heap->Prop}{d:DefRec}{K:Params->Frg}{CX:World->CXT}{sp:World->Sp}{x:Str}
 (hn:l.most=some n) (hn2:n<=sizeLine) (hdf:d.params.defaults= []) (hr:Room k callerA)
 (hY:∀ (w:World) (h:Heap),YP w h->(K w.params).In h)
 (F:∀ (w:World) (mg:Str->Option Value) (fa:Addr) (h:Heap),(K w.params).In h->h.Ns mainGlobals mg->mg d.name=some (.ref fa)->
  ∃ fd:FuncData,(∀ (s:Shared) (u:Value),BindsTo s fd ⟨[u],[]⟩ [(x,u)])/\
   ∀ base:Heap,(K w.params).In base->base.Ns mainGlobals mg->FnOk l.prog w (K w.params) mg base (CX w) k fa fd [x] (sp w))
 (hsp:∀ (w:World) (H:Hp) (a:Addr) (ns:List Int),ns.length<=n->qvP H->SqL (K w.params) H a (ns.map V.int)->sp w [.ref a] H (fun v _=>v= .bl true) fun _ _ _=>False)
 (hCX:∀ (w:World) (H:Hp) (s:Shared) (e:Value) (s':Shared),CX w [] H s (fun _ _ _=>False) e s'->False):
 PySem.W.WalkO q loose XP YP l.row.toRowW d [] (fun f vs=>PySem.call f vs):=by
 refine Att.attach_call hn hdf fun w s₀ s₁ mg mb fa o pm cd doc a vs ns G Y ho hd hcd hmg hobj hints hlen hg=>?_
 have KX:=hY w _ Y;obtain⟨fd,hb,hF⟩:=F w mg fa _ KX G.T.g hmg;exact qol KX G.T.g G.T.b G.T.builtins G.T.nolimit hg hobj hints (wal hlen hn2) hr hF hb (fun H hO hS=>hsp w H a ns hlen hO hS) fun H e s'=>hCX w H s₁ e s'
def inClass(s:Stmt)(j:Nat):Stmt:=match s with
 | .ClassDef _ _ _ body _ _ _ _ _ _ _=>body.getD j (.Pass ⟨0,0,0,0⟩)
 |_=>.Pass ⟨0,0,0,0⟩
noncomputable def qiS (s:Stmt):Arguments:=match s with
 | .FunctionDef _ a _ _ _ _ _ _ _ _=>a
 |_=>{ posonlyargs:=[],args:=[],vararg:=none,kwonlyargs:=[],kw_defaults:=[],kwarg:=none,defaults:=[] }
def qbZ(s:Stmt):List Stmt:=match s with
 | .FunctionDef _ _ b _ _ _ _ _ _ _=>b
 |_=>[]
noncomputable def qat (s:Stmt):Scope:=match s with
 | .FunctionDef _ _ _ _ _ _ sc _ _ _=>sc
 |_=>{ kind:=.function,names:=[],isGenerator:=false,isCoroutine:=false }
abbrev CX0:CXT:=fun _ _ _ _ _ _=>False
abbrev E0:XK:=fun _ _ _=>False
theorem qii{X:Cx}:Passes CX0 X E0:=fun _ _ _ _ _ _ _ h=>h.elim
structure Fun(K:Frg)(x qual:Str)(st:Stmt)(f:Addr)(fd:FuncData):Prop where
 ex:∃ (oc:Value) (od:Option Addr) (kV doc pm:Value) (an:Option Addr) (cdv ct:Value) (osl:Array (Option Value)),
  fd=PySem.W.fnOf x qual (qiS st) (qbZ st) (qat st) .none kV doc pm an cdv ct/\K.lookup f=some ⟨oc,od,.func fd,osl⟩/\PySem.W.codeIn K cdv qual=true
 kp:PySem.W.keepIn K (.ref f)=true
section
variable {P:Program}{w:World}{K:Frg}{mg:Str->Option Value}{base:Heap}
theorem Fun.ok{x qual:Str}{st:Stmt}{f:Addr}{fd:FuncData}{N ps:List Str}{k:Nat}{sp:Sp}(F:Fun K x qual st f fd)(S:qdc N ps (qat st))(len:∀ vs H Q E,sp vs H Q E->vs.length=ps.length)
 (hbody:∀ (cdv:Value) (A:Around) (outer:List Env) (s:Shared) (H:Hp) (vs:List V) (Q:VK) (E:XK),Room k (A.deeper (envOfC qual (qat st) s.heap.objs.size f cdv))->sp vs H Q E->
  ∃ t,PSs (qpN CX0 P w K mg base N qual (qat st) f cdv A outer s H E).nox (qbZ st) t/\t { nx:=fun _ H'=>Q .non H',rt:=Q } (start N vs) H):FnOk P w K mg base CX0 (k+1) f fd ps sp:=by
 obtain⟨oc,od,kV,doc,pm,an,cdv,ct,osl,rfl,lk,hcd⟩:=F.ex;refine qxO lk hcd S len fun A outer s H vs Q E hr hsp=>?_
 obtain⟨t,h,q⟩:=hbody cdv A outer s H vs Q E hr hsp;exact⟨t,h.nox,q⟩
theorem Fun.binds{x qual:Str}{st:Stmt}{f:Addr}{fd:FuncData}{ps:List Str}(F:Fun K x qual st f fd)
 (h:∀ (kV doc pm:Value) (an:Option Addr) (cdv ct:Value) (us:List Value),us.length=ps.length->bindArgs (PySem.W.fnOf x qual (qiS st) (qbZ st) (qat st) .none kV doc pm an cdv ct) ⟨us,[]⟩=pure (ps.zip us)):Binds K fd ps []:=by
 obtain⟨oc,od,kV,doc,pm,an,cdv,ct,osl,rfl,lk,hcd⟩:=F.ex;exact .all (h kV doc pm an cdv ct)
end
theorem qhi{A:Around}{k:Nat}(hr:Room k A):A.units+1<cLine:=waJ (Nat.add_le_add_left (by decide:1<=64) _) hr.units
theorem qrm{A B:Prop}(h:B):if false=true then A else B:=by
 rw[if_neg wan];exact h
theorem qrl{A B:Prop}(h:A):if true=true then A else B:=by
 rw[if_pos rfl];exact h
def Same(H H':Hp):Prop:=∀ b o,H b=some o->H' b=some o
theorem Same.refl(H:Hp):Same H H:=fun _ _ h=>h
theorem Same.trans{H H1 H2:Hp}(a:Same H H1)(b:Same H1 H2):Same H H2:=fun c o h=>b c o (a c o h)
theorem Same.free{H H':Hp}(e:Same H H'){l:Addr}(h:H' l=Option.none):H l=Option.none:=by
 cases q:H l with
 |none=>rfl
 |some o=>
  rw[e l o q]at h;cases h
theorem Same.seq{K:Frg}{H H':Hp}{a:Addr}{xs:List V}(e:Same H H')(h:SqL K H a xs):SqL K H' a xs:=by
 rcases h with(h|⟨o,h⟩)|h
 · exact .inl (.inl (e _ _ h))
 · exact .inl (.inr ⟨o,e _ _ h⟩)
 · exact .inr h
section
variable {X:Cx}
theorem qm0:CallR X (.builtin "len") (fun xs H Q=>∃ a kvs,xs= [V.ref a]/\H a=some (.dK kvs)/\Q (.int kvs.length) H):=by
 intro pins s σ H xs us Q I r h;obtain⟨a,kvs,rfl,ha,q⟩:=h;obtain⟨u,rfl,ru⟩:=vals1 r;cases ru;exact qxV I (.inl ha) fun t s' I'=>⟨.int kvs.length,H,I',⟨t,rfl⟩,q⟩
end
section
variable {κ:Type}[DecidableEq κ]
theorem qpU{kvs:List (κ×V)}{k:κ}{v:V}(h:qeF kvs k=some v):k∈kvs.map (·.1):=by
 have q:(kvs.any fun kv=>decide (kv.1=k))=true:=by
  rw[qdM,h]
  all_goals rfl
 obtain⟨p,hp,e⟩:=List.any_eq_true.mp q;exact wai.mpr ⟨p,hp,of_decide_eq_true e⟩
end
end L2
namespace R
open PySem PySem.Spec PyProof.Rows L2
inductive RV where
 |non|bl (b:Bool)|int (i:Int)|str (x:Str)|ref (a:Addr)|ty (n:String)
 |tup (xs:List RV)|ls (xs:List RV)
def Fz(K:Frg)(H:Hp)(a:Addr)(vs:List V):Prop:=
 (∃ o,H a=some (.frz o (.lst vs)))∨
  ∃ (o:Obj) (its:Array Value) (n:Nat),K.lookup a=some o/\o.cls= .type "list"/\o.dict=Option.none/\o.data= .seq its n/\its.size<=sizeLine/\Vals vs its.toList
theorem Fz.sq{K:Frg}{H:Hp}{a:Addr}{vs:List V}(h:Fz K H a vs):SqL K H a vs:=by
 rcases h with⟨o,h⟩|h
 · exact .inl (.inr ⟨o,h⟩)
 · exact .inr h
instance {K:Frg} {H:Hp} {a:Addr} {xs:List V}:Coe (H a=some (HO.tup xs)) (SqT K H a xs):=⟨SqT.of⟩
mutual
def Rep(K:Frg)(H:Hp):RV->V->Prop
 | .non,v=>v= .non
 | .bl b,v=>v= .bl b
 | .int i,v=>v= .int i
 | .str x,v=>v= .str x
 | .ref a,v=>v= .ref a
 | .ty n,v=>v= .ty n
 | .tup xs,v=>∃ a vs,v= .ref a/\H a=some (.tup vs)/\Reps K H xs vs
 | .ls xs,v=>∃ a vs,v= .ref a/\Fz K H a vs/\Reps K H xs vs
def Reps(K:Frg)(H:Hp):List RV->List V->Prop
 | [],vs=>vs= []
 |x::xs,vs=>∃ v r,vs=v::r/\Rep K H x v/\Reps K H xs r
end
def qmi:HO->Bool
 | .dK _=>true
 | .dT _=>true
 |_=>false
structure ExtW(H H':Hp):Prop where
 tups:∀ b xs,H b=some (.tup xs)->H' b=some (.tup xs)
 frzs:∀ b o u,qmi u=false->H b=some (.frz o u)->H' b=some (.frz o u)
structure Ext(H H':Hp):Prop where
 tups:∀ b xs,H b=some (.tup xs)->H' b=some (.tup xs)
 frzs:∀ b o u,H b=some (.frz o u)->H' b=some (.frz o u)
theorem Ext.w{H H':Hp}(e:Ext H H'):ExtW H H':=⟨e.tups,fun b o u _ h=>e.frzs b o u h⟩
theorem Ext.refl(H:Hp):Ext H H:=⟨fun _ _ h=>h,fun _ _ _ h=>h⟩
theorem Ext.trans{H H1 H2:Hp}(a:Ext H H1)(b:Ext H1 H2):Ext H H2:=⟨fun c x h=>b.tups c x (a.tups c x h),fun c o x h=>b.frzs c o x (a.frzs c o x h)⟩
theorem ExtW.trans{H H1 H2:Hp}(a:ExtW H H1)(b:ExtW H1 H2):ExtW H H2:=⟨fun c x h=>b.tups c x (a.tups c x h),fun c o x n h=>b.frzs c o x n (a.frzs c o x n h)⟩
theorem Ext.new{H:Hp}{p:Addr}{o:HO}(h:H p=none):Ext H (upd H p o):=
 ⟨fun b xs e=>by rw[qae (qah e h)];exact e,fun b o xs e=>by rw[qae (qah e h)];exact e⟩
def qD7:HO->Bool
 | .tup _=>false
 | .frz _ _=>false
 |_=>true
theorem ExtW.thaw{H:Hp}{p:Addr}{o:Obj}{u:HO}(h:H p=some (.frz o u))(s:qmi u=true){v:HO}:ExtW H (upd H p v):=by
 refine⟨fun b xs e=>?_,fun b ob xs nd e=>?_⟩
 · have n:b≠p:=by rintro rfl;rw[h]at e;cases e
   rw[qae n];exact e
 · have n:b≠p:=by rintro rfl;rw[h]at e;cases e;rw[s]at nd;cases nd
   rw[qae n];exact e
theorem Ext.write{H:Hp}{p:Addr}{o o':HO}(h:H p=some o)(s:qD7 o=true):Ext H (upd H p o'):=by
 refine⟨fun b xs e=>?_,fun b ob xs e=>?_⟩
 · have n:b≠p:=by rintro rfl;rw[h]at e;cases e;cases s
   rw[qae n];exact e
 · have n:b≠p:=by rintro rfl;rw[h]at e;cases e;cases s
   rw[qae n];exact e
theorem SqT.extw{K:Frg}{H H':Hp}{a:Addr}{vs:List V}(e:ExtW H H')(h:SqT K H a vs):SqT K H' a vs:=by
 rcases h with(h|⟨o,h⟩)|h
 · exact .inl (.inl (e.tups _ _ h))
 · exact .inl (.inr ⟨o,e.frzs _ _ _ rfl h⟩)
 · exact .inr h
theorem Fz.extw{K:Frg}{H H':Hp}{a:Addr}{vs:List V}(e:ExtW H H')(h:Fz K H a vs):Fz K H' a vs:=by
 rcases h with⟨o,h⟩|h
 · exact .inl ⟨o,e.frzs _ _ _ rfl h⟩
 · exact .inr h
mutual
theorem Rep.extw{K:Frg}{H H':Hp}(e:ExtW H H'):∀ (r:RV) (v:V),Rep K H r v->Rep K H' r v
 | .non,v,h=>by simpa only[Rep]using h
 | .bl _,v,h=>by simpa only[Rep]using h
 | .int _,v,h=>by simpa only[Rep]using h
 | .str _,v,h=>by simpa only[Rep]using h
 | .ref _,v,h=>by simpa only[Rep]using h
 | .ty _,v,h=>by simpa only[Rep]using h
 | .tup xs,v,h=>by
  simp only[Rep]at h ⊢;obtain⟨a,vs,e1,h1,h2⟩:=h;exact⟨a,vs,e1,e.tups _ _ h1,Reps.extw e xs vs h2⟩
 | .ls xs,v,h=>by
  simp only[Rep]at h ⊢;obtain⟨a,vs,e1,h1,h2⟩:=h;exact⟨a,vs,e1,h1.extw e,Reps.extw e xs vs h2⟩
theorem Reps.extw{K:Frg}{H H':Hp}(e:ExtW H H'):∀ (rs:List RV) (vs:List V),Reps K H rs vs->Reps K H' rs vs
 | [],vs,h=>by simpa only[Reps]using h
 |x::xs,vs,h=>by
  simp only[Reps]at h ⊢;obtain⟨v,r,e1,h1,h2⟩:=h;exact⟨v,r,e1,Rep.extw e x v h1,Reps.extw e xs r h2⟩
end
section
variable {K:Frg}{H:Hp}
theorem Reps.nil_iff{vs:List V}:Reps K H [] vs↔vs= []:=by simp only[Reps]
theorem Reps.cons{x:RV}{xs:List RV}{v:V}{vs:List V}(h:Rep K H x v)(t:Reps K H xs vs):Reps K H (x::xs) (v::vs):=by
 simp only[Reps];exact⟨v,vs,rfl,h,t⟩
theorem Reps.nil:Reps K H [] []:=by simp only[Reps]
theorem Reps.length:∀ {xs:List RV} {vs:List V},Reps K H xs vs->xs.length=vs.length
 | [],vs,h=>by simp only[Reps]at h;subst h;rfl
 |x::xs,vs,h=>by
  simp only[Reps]at h;obtain⟨v,r,rfl,_,t⟩:=h;simp[Reps.length t]
theorem Reps.get:∀ {xs:List RV} {vs:List V} {i:Nat} {x:RV},Reps K H xs vs->xs[i]? =some x->∃ v,vs[i]? =some v/\Rep K H x v
 | [],_,_,_,_,e=>by simp at e
 |y::xs,vs,0,x,h,e=>by
  simp only[Reps]at h;obtain⟨v,r,rfl,h1,_⟩:=h;simp at e;subst e;exact⟨v,by simp,h1⟩
 |y::xs,vs,i+1,x,h,e=>by
  simp only[Reps]at h;obtain⟨v,r,rfl,_,t⟩:=h;obtain⟨u,h1,h2⟩:=Reps.get (i:=i) t (by simpa using e)
  exact⟨u,by simpa using h1,h2⟩
theorem Reps.append:∀ {xs ys:List RV} {vs ws:List V},Reps K H xs vs->Reps K H ys ws->Reps K H (xs++ys) (vs++ws)
 | [],_,vs,_,h,t=>by simp only[Reps]at h;subst h;simpa using t
 |x::xs,ys,vs,ws,h,t=>by
  simp only[Reps]at h;obtain⟨v,r,rfl,h1,h2⟩:=h;exact Reps.cons h1 (Reps.append h2 t)
theorem Reps.take:∀ {xs:List RV} {vs:List V} (n:Nat),Reps K H xs vs->Reps K H (xs.take n) (vs.take n)
 |_,_,0,_=>by simpa using Reps.nil
 | [],vs,n+1,h=>by simp only[Reps]at h;subst h;simpa using Reps.nil
 |x::xs,vs,n+1,h=>by
  simp only[Reps]at h;obtain⟨v,r,rfl,h1,h2⟩:=h;exact Reps.cons h1 (Reps.take n h2)
theorem Reps.drop:∀ {xs:List RV} {vs:List V} (n:Nat),Reps K H xs vs->Reps K H (xs.drop n) (vs.drop n)
 |_,_,0,h=>by simpa using h
 | [],vs,n+1,h=>by simp only[Reps]at h;subst h;simpa using Reps.nil
 |x::xs,vs,n+1,h=>by
  simp only[Reps]at h;obtain⟨v,r,rfl,h1,h2⟩:=h;exact Reps.drop n h2
theorem Reps.set{x:RV}{v:V}(hx:Rep K H x v):∀ {xs:List RV} {vs:List V} (i:Nat),Reps K H xs vs->Reps K H (xs.set i x) (vs.set i v)
 | [],vs,i,h=>by simp only[Reps]at h;subst h;simpa using Reps.nil
 |y::xs,vs,0,h=>by
  simp only[Reps]at h;obtain⟨w,r,rfl,h1,h2⟩:=h;exact Reps.cons hx h2
 |y::xs,vs,i+1,h=>by
  simp only[Reps]at h;obtain⟨w,r,rfl,h1,h2⟩:=h;exact Reps.cons h1 (Reps.set hx i h2)
theorem Reps.atI{xs:List RV}{vs:List V}{i:Int}{x:RV}(h:Reps K H xs vs)(e:L2.atI xs i=some x):∃ v,L2.atI vs i=some v/\Rep K H x v:=by
 unfold L2.atI at e ⊢;rw[<-h.length];cases q:ixN xs.length i with
 |none=>rw[q]at e;cases e
 |some j=>rw[q]at e;exact h.get (by simpa using e)
end
inductive RO where
 |lst (xs:List RV)
 |dk (kvs:List (Key×RV))
 |dt (kvs:List (List qbv×RV))
 |ins (C:Addr) (fs:List (Str×RV))
 |fk (kvs:List (Key×RV))
 |ft (kvs:List (List qbv×RV))
abbrev RM:=Addr->Option RO
def put(M:RM)(a:Addr)(o:RO):RM:=fun b=>if b=a then some o else M b
theorem qad{M:RM}{a:Addr}{o:RO}:put M a o a=some o:=by unfold put;rw[if_pos rfl]
theorem qaa{M:RM}{a b:Addr}{o:RO}(h:b≠a):put M a o b=M b:=by unfold put;rw[if_neg h]
theorem qav{M:RM}{a:Addr}{o o':RO}:put (put M a o) a o'=put M a o':=by
 funext b;unfold put;split<;>rfl
noncomputable def RepP {κ:Type}(K:Frg)(H:Hp):List (κ×RV)->List (κ×V)->Prop
 | [],ws=>ws= []
 |(k,x)::r,ws=>∃ v t,ws=(k,v)::t/\Rep K H x v/\RepP K H r t
theorem RepP.extw{κ:Type}{K:Frg}{H H':Hp}(e:ExtW H H'):∀ {xs:List (κ×RV)} {ws:List (κ×V)},RepP K H xs ws->RepP K H' xs ws
 | [],_,h=>h
 |(k,x)::r,ws,h=>by
  obtain⟨v,t,e1,h1,h2⟩:=h;exact⟨v,t,e1,Rep.extw e x v h1,RepP.extw e h2⟩
noncomputable def RepO (K:Frg)(H:Hp):RO->HO->Prop
 | .lst xs,o=>∃ vs,o= .lst vs/\Reps K H xs vs
 | .dk kvs,o=>∃ ws,o= .dK ws/\RepP K H kvs ws
 | .dt kvs,o=>∃ ws,o= .dT ws/\RepP K H kvs ws
 | .ins C fs,o=>∃ dx gs,o= .ins C dx gs/\RepP K H fs gs
 | .fk kvs,o=>∃ ob ws,o= .frz ob (.dK ws)/\RepP K H kvs ws
 | .ft kvs,o=>∃ ob ws,o= .frz ob (.dT ws)/\RepP K H kvs ws
theorem RepO.extw{K:Frg}{H H':Hp}(e:ExtW H H'):∀ {o:RO} {ho:HO},RepO K H o ho->RepO K H' o ho
 | .lst xs,_,h=>by obtain⟨vs,e1,h1⟩:=h;exact⟨vs,e1,Reps.extw e xs vs h1⟩
 | .dk _,_,h=>by obtain⟨ws,e1,h1⟩:=h;exact⟨ws,e1,h1.extw e⟩
 | .dt _,_,h=>by obtain⟨ws,e1,h1⟩:=h;exact⟨ws,e1,h1.extw e⟩
 | .ins _ _,_,h=>by obtain⟨dx,gs,e1,h1⟩:=h;exact⟨dx,gs,e1,h1.extw e⟩
 | .fk _,_,h=>by obtain⟨dx,gs,e1,h1⟩:=h;exact⟨dx,gs,e1,h1.extw e⟩
 | .ft _,_,h=>by obtain⟨dx,gs,e1,h1⟩:=h;exact⟨dx,gs,e1,h1.extw e⟩
theorem RepO.extW{K:Frg}{H:Hp}{p:Addr}{v:HO}:∀ {o:RO} {ho:HO},RepO K H o ho->H p=some ho->ExtW H (upd H p v)
 | .lst _,_,h,e=>by obtain⟨_,rfl,_⟩:=h;exact(Ext.write e rfl).w
 | .dk _,_,h,e=>by obtain⟨_,rfl,_⟩:=h;exact(Ext.write e rfl).w
 | .dt _,_,h,e=>by obtain⟨_,rfl,_⟩:=h;exact(Ext.write e rfl).w
 | .ins _ _,_,h,e=>by obtain⟨_,_,rfl,_⟩:=h;exact(Ext.write e rfl).w
 | .fk _,_,h,e=>by obtain⟨_,_,rfl,_⟩:=h;exact ExtW.thaw e rfl
 | .ft _,_,h,e=>by obtain⟨_,_,rfl,_⟩:=h;exact ExtW.thaw e rfl
section
variable {K:Frg}{H H':Hp}
theorem SqT.ext{a:Addr}{vs:List V}(e:Ext H H')(h:SqT K H a vs):SqT K H' a vs:=SqT.extw e.w h
theorem Fz.ext{a:Addr}{vs:List V}(h:Fz K H a vs)(e:Ext H H'):Fz K H' a vs:=h.extw e.w
theorem Rep.ext(e:Ext H H')(r:RV)(v:V)(h:Rep K H r v):Rep K H' r v:=Rep.extw e.w r v h
theorem Reps.ext(e:Ext H H')(r:List RV)(v:List V)(h:Reps K H r v):Reps K H' r v:=Reps.extw e.w r v h
theorem RepP.ext{κ:Type}{xs:List (κ×RV)}{ws:List (κ×V)}(h:RepP K H xs ws)(e:Ext H H'):RepP K H' xs ws:=RepP.extw e.w h
theorem RepO.ext{o:RO}{ho:HO}(h:RepO K H o ho)(e:Ext H H'):RepO K H' o ho:=RepO.extw e.w h
end
def View(K:Frg)(H:Hp)(M:RM):Prop:=∀ a o,M a=some o->∃ ho,H a=some ho/\RepO K H o ho
section
variable {K:Frg}{H H':Hp}{M:RM}{p:Addr}{ho:HO}{o:RO}
theorem View.free(w:View K H M)(h:H p=none):M p=none:=by
 cases q:M p with
 |none=>rfl
 |some o=>obtain⟨ho,e,_⟩:=w p o q;rw[h]at e;cases e
theorem View.new(w:View K H M)(h:H p=none):View K (upd H p ho) M:=fun a o e=>by
 obtain⟨ho',e1,r⟩:=w a o e;exact⟨ho',by rw[qae (qah e1 h)];exact e1,r.ext (Ext.new h)⟩
theorem View.newPut(w:View K H M)(h:H p=none)(r:RepO K (upd H p ho) o ho):View K (upd H p ho) (put M p o):=fun a o' e=>by
 by_cases ha:a=p
 · subst ha;rw[qad]at e;cases e;exact⟨ho,qaj,r⟩
 · rw[qaa ha]at e;exact w.new h a o' e
theorem View.write{o':RO}(w:View K H M)(h:M p=some o')(r:RepO K (upd H p ho) o ho):View K (upd H p ho) (put M p o):=fun a o'' e=>by
 by_cases ha:a=p
 · subst ha;rw[qad]at e;cases e;exact⟨ho,qaj,r⟩
 · rw[qaa ha]at e
   obtain⟨ho',e1,r1⟩:=w a o'' e;obtain⟨hp,e2,r2⟩:=w p o' h;exact⟨ho',by rw[qae ha];exact e1,RepO.extw (r2.extW e2) r1⟩
end
abbrev RSt:=List (Option RV)
abbrev RVK:=RV->RM->Prop
abbrev RTE:=RSt->RM->RVK->Prop
abbrev RTT:=RSt->RM->(Bool->RM->Prop)->Prop
abbrev RTA:=RSt->RM->(List RV->RM->Prop)->Prop
def RepSt(K:Frg)(H:Hp)(σ:RSt)(σ0:L2.St):Prop:=σ.length=σ0.length/\∀ (i:Nat) r,σ[i]? =some (some r)->∃ v,σ0[i]? =some (some v)/\Rep K H r v
theorem RepSt.extw{K:Frg}{H H':Hp}{σ:RSt}{σ0:L2.St}(h:RepSt K H σ σ0)(e:ExtW H H'):RepSt K H' σ σ0:=
 ⟨h.1,fun i r q=>by obtain⟨v,e1,h1⟩:=h.2 i r q;exact⟨v,e1,Rep.extw e r v h1⟩⟩
theorem RepSt.ext{K:Frg}{H H':Hp}{σ:RSt}{σ0:L2.St}(h:RepSt K H σ σ0)(e:Ext H H'):RepSt K H' σ σ0:=h.extw e.w
theorem RepSt.set{K:Frg}{H:Hp}{σ:RSt}{σ0:L2.St}{r:RV}{v:V}(h:RepSt K H σ σ0)(hr:Rep K H r v)(i:Nat):RepSt K H (σ.set i (some r)) (σ0.set i (some v)):=by
 refine⟨by simp[h.1],fun j r' q=>?_⟩
 by_cases hj:i=j
 · subst hj
   rw[List.getElem?_set]at q;split at q
   · split at q
     · cases q;rename_i hl _ ;exact⟨v,by rw[List.getElem?_set_self (by rw[<-h.1];assumption)],hr⟩
     · cases q
   · rename_i z;exact absurd rfl z
 · rw[List.getElem?_set_ne hj]at q
   obtain⟨w,e1,h1⟩:=h.2 j r' q;exact⟨w,by rw[List.getElem?_set_ne hj];exact e1,h1⟩
def UpK(K:Frg)(H:Hp)(Q:RVK)(Q0:VK):Prop:=∀ rv M' v H',Q rv M'->Ext H H'->View K H' M'->Rep K H' rv v->Q0 v H'
theorem UpK.ext{K:Frg}{H H':Hp}{Q:RVK}{Q0:VK}(h:UpK K H Q Q0)(e:Ext H H'):UpK K H' Q Q0:=fun rv M' v H2 q e2 w r=>h rv M' v H2 q (e.trans e2) w r
def up(K:Frg)(t:RTE):TE:=fun σ0 H Q0=>∃ σ M Q,RepSt K H σ σ0/\View K H M/\t σ M Q/\UpK K H Q Q0
def upT(K:Frg)(t:RTT):TT:=fun σ0 H Q0=>∃ σ M Q,RepSt K H σ σ0/\View K H M/\t σ M Q/\∀ b M' H',Q b M'->Ext H H'->View K H' M'->Q0 b H'
noncomputable def upA (K:Frg)(t:RTA):TA:=fun σ0 H Q0=>∃ σ M Q,RepSt K H σ σ0/\View K H M/\t σ M Q/\∀ rs M' vs H',Q rs M'->Ext H H'->View K H' M'->Reps K H' rs vs->Q0 vs H'
structure RD where
 nx:RSt->RM->Prop
 rt:RVK
 bk:RSt->RM->Prop:=fun _ _=>False
 ct:RSt->RM->Prop:=fun _ _=>False
abbrev RTS:=RD->RSt->RM->Prop
def UpS(K:Frg)(H:Hp)(q:RSt->RM->Prop)(q0:L2.St->Hp->Prop):Prop:=∀ σ M σ0 H',q σ M->Ext H H'->View K H' M->RepSt K H' σ σ0->q0 σ0 H'
theorem UpS.ext{K:Frg}{H H':Hp}{Q:RSt->RM->Prop}{Q0:L2.St->Hp->Prop}(h:UpS K H Q Q0)(e:Ext H H'):UpS K H' Q Q0:=fun σ M σ0 H2 q e2 w r=>h σ M σ0 H2 q (e.trans e2) w r
structure UpD(K:Frg)(H:Hp)(D:RD)(D0:Ends):Prop where
 nx:UpS K H D.nx D0.nx
 rt:UpK K H D.rt D0.rt
 bk:UpS K H D.bk D0.bk
 ct:UpS K H D.ct D0.ct
theorem UpD.ext{K:Frg}{H H':Hp}{D:RD}{D0:Ends}(h:UpD K H D D0)(e:Ext H H'):UpD K H' D D0:=⟨h.nx.ext e,h.rt.ext e,h.bk.ext e,h.ct.ext e⟩
def upS(K:Frg)(t:RTS):TS:=fun D0 σ0 H=>∃ σ M D,RepSt K H σ σ0/\View K H M/\t D σ M/\UpD K H D D0
def RPE(X:Cx)(e:Expr)(t:RTE):Prop:=PE X e (up X.K t)
def RPT(X:Cx)(e:Expr)(t:RTT):Prop:=PT X e (upT X.K t)
def RPW(X:Cx)(e:Expr)(t:RTT):Prop:=PW X e (upT X.K t)
def RPA(X:Cx)(es:List Expr)(t:RTA):Prop:=PA X es (upA X.K t)
def RPS(X:Cx)(s:Stmt)(t:RTS):Prop:=PS X s (upS X.K t)
def qm7(X:Cx)(s:List Stmt)(t:RTS):Prop:=PSs X s (upS X.K t)
section
variable {X:Cx}
theorem PE.imp{e:Expr}{t t':TE}(h:PE X e t)(i:∀ σ H Q,t' σ H Q->t σ H Q):PE X e t':=fun pins s σ H Q I w=>h pins s σ H Q I (i σ H Q w)
theorem PT.imp{e:Expr}{t t':TT}(h:PT X e t)(i:∀ σ H Q,t' σ H Q->t σ H Q):PT X e t':=fun pins s σ H Q I w=>h pins s σ H Q I (i σ H Q w)
theorem PW.imp{e:Expr}{t t':TT}(h:PW X e t)(i:∀ σ H Q,t' σ H Q->t σ H Q):PW X e t':=fun wh pins s σ H Q I w=>h wh pins s σ H Q I (i σ H Q w)
theorem PA.imp{e:List Expr}{t t':TA}(h:PA X e t)(i:∀ σ H Q,t' σ H Q->t σ H Q):PA X e t':=fun pos pins s σ H Q I w=>h pos pins s σ H Q I (i σ H Q w)
theorem PS.imp{e:Stmt}{t t':TS}(h:PS X e t)(i:∀ D σ H,t' D σ H->t D σ H):PS X e t':=fun pins s σ H D I w=>h pins s σ H D I (i D σ H w)
theorem PSs.imp{e:List Stmt}{t t':TS}(h:PSs X e t)(i:∀ D σ H,t' D σ H->t D σ H):PSs X e t':=fun pins s σ H D I w=>h pins s σ H D I (i D σ H w)
end
section
variable {X:Cx}{a b c:Expr}{ta tb tc:RTE}{tA tB:RTT}{pos:Pos}{rest:List Expr}
def qqt(i:Nat):RTE:=fun σ M Q=>match σ[i]? with|some (some v)=>Q v M|_=>False
def rC(v:RV):RTE:=fun _ M Q=>Q v M
theorem rv(i:Nat){x:Str}{pos:Pos}(hN:X.N[i]? =some x:=by rfl)(hv:Vis X.env.scope x:=by first|exact Or.inl rfl|exact Or.inr (Or.inl rfl)|exact Or.inr (Or.inr rfl))(hd:(x==("__debug__":Str))=false:=by decide)
 (hcd:(x==("__classdict__":Str))=false:=by decide):RPE X (.Name x pos) (qqt i):=PE.imp (qtG hN hv hd hcd) fun σ0 H Q h=>by
 obtain⟨σ,M,Qr,hs,hv,ht,hk⟩:=h;unfold qqt at ht;split at ht
 · rename_i r e
   obtain⟨v,e1,h1⟩:=hs.2 i r e;exact⟨v,e1,hk r M v H ht (.refl H) hv h1⟩
 · exact ht.elim
theorem qe4{e:Expr}{v:V}{r:RV}(h:PE X e (tC v))(hr:∀ H,Rep X.K H r v):RPE X e (rC r):=PE.imp h fun σ0 H Q h=>by
 obtain⟨σ,M,Qr,hs,hv,ht,hk⟩:=h;exact hk r M v H ht (.refl H) hv (hr H)
theorem ri{i j pos}:RPE X (.Constant (.int i) j pos) (rC (.int i)):=qe4 qpk fun H=>by simp only[Rep]
theorem rb{b j pos}:RPE X (.Constant (.bool b) j pos) (rC (.bl b)):=qe4 qxa fun H=>by simp only[Rep]
theorem rn{j pos}:RPE X (.Constant .none j pos) (rC .non):=qe4 qtK fun H=>by simp only[Rep]
theorem rs{x j pos}:RPE X (.Constant (.str x) j pos) (rC (.str x)):=qe4 qpi fun H=>by simp only[Rep]
theorem qsU{x:Str}{v:V}{r:RV}{u:Value}{pos:Pos}(hm:X.mg x=some u)(rl:RelV v u)(hr:∀ H,Rep X.K H r v)(hg:Gl X x:=by rfl)(hd:(x==("__debug__":Str))=false:=by decide):RPE X (.Name x pos) (rC r):=
 qe4 (qqK hg hm rl hd) hr
theorem qlj{x:Str}{v:V}{r:RV}{u:Value}{pos:Pos}(hm:X.mg x=none)(hv:bootBuiltins x=some u)(rl:RelV v u)(hr:∀ H,Rep X.K H r v)(hg:Gl X x:=by rfl)(hn:x≠"__name__":=by decide)(hd:(x==("__debug__":Str))=false:=by decide):RPE X (.Name x pos) (rC r):=
 qe4 (qqN hg hm hv rl hn hd) hr
abbrev RR2:=RV->RV->RM->RVK->Prop
def upO(K:Frg)(rr:RR2):R2:=fun x y H Q0=>∃ rx ry M Q,Rep K H rx x/\Rep K H ry y/\View K H M/\rr rx ry M Q/\UpK K H Q Q0
def ROp(X:Cx)(f:Value->Value->Sem Value)(rr:RR2):Prop:=OpR X f (upO X.K rr)
def rOp(rr:RR2)(ta tb:RTE):RTE:=fun σ M Q=>ta σ M fun x M1=>tb σ M1 fun y M2=>rr x y M2 Q
theorem qfv{K:Frg}{rr:RR2}{σ0:L2.St}{H:Hp}{Q0:VK}(h:up K (rOp rr ta tb) σ0 H Q0):tOp (upO K rr) (up K ta) (up K tb) σ0 H Q0:=by
 obtain⟨σ,M,Q,hs,hv,ht,hk⟩:=h;refine⟨σ,M,_,hs,hv,ht,fun rx M1 x H1 hb e1 v1 r1=>?_⟩
 refine⟨σ,M1,_,hs.ext e1,v1,hb,fun ry M2 y H2 hr e2 v2 r2=>?_⟩
 exact⟨rx,ry,M2,Q,Rep.ext e2 rx x r1,r2,v2,hr,hk.ext (e1.trans e2)⟩
theorem rop{op:Operator}{rr:RR2}(ho:ROp X (binaryOp op) rr)(ha:RPE X a ta)(hb:RPE X b tb):RPE X (.BinOp a op b pos) (rOp rr ta tb):=PE.imp (qw7 ho ha hb) fun _ _ _ h=>qfv h
theorem qC8{op:CmpOp}{rr:RR2}(ho:ROp X (compareOp op) rr)(ha:RPE X a ta)(hb:RPE X b tb)(hm:behindInMarks op b=false:=by first|exact qpp _|(with_unfolding_all rfl)):RPE X (.Compare a [op] [b] pos) (rOp rr ta tb):=
 PE.imp (qlH ho ha hb hm) fun _ _ _ h=>qfv h
def qfA(t:RTE):RTT:=fun σ M Q=>t σ M fun v M'=>match v with| .bl k=>Q k M'|_=>False
theorem qcd{K:Frg}{H:Hp}{Q:Bool->RM->Prop}{Q0:Bool->Hp->Prop}(hk:∀ b M' H',Q b M'->Ext H H'->View K H' M'->Q0 b H'):
 UpK K H (fun v M'=>match v with| .bl k=>Q k M'|_=>False) (fun x H'=>∃ k,x= .bl k/\Q0 k H'):=fun rv M' v H' q e w r=>by
 cases rv with
 |bl k=>simp only[Rep]at r;exact⟨k,r,hk k M' H' q e w⟩
 |_=>exact q.elim
theorem qwD{op:CmpOp}{rr:RR2}(ho:ROp X (compareOp op) rr)(ha:RPE X a ta)(hb:RPE X b tb)(hm:behindInMarks op b=false:=by first|exact qpp _|(with_unfolding_all rfl)):RPT X (.Compare a [op] [b] pos) (qfA (rOp rr ta tb)):=
 PT.imp (qlz ho ha hb hm) fun σ0 H Q0 h=>by
  obtain⟨σ,M,Q,hs,hv,ht,hk⟩:=h;exact qfv ⟨σ,M,_,hs,hv,ht,qcd hk⟩
theorem qwB{e:Expr}{t:RTE}(h:RPE X e t)(he:∀ whole,isTrue e X.env whole=(do let v<-whole;standAt e.pos;holding [v] (truthy v)):=by intro _;rfl):RPT X e (qfA t):=
 PT.imp (qtt h he) fun σ0 H Q0 h=>by
  obtain⟨σ,M,Q,hs,hv,ht,hk⟩:=h;exact⟨σ,M,_,hs,hv,ht,qcd hk⟩
noncomputable def qe8 (rr rr':RR2)(ta tb tc:RTE):RTE:=fun σ M Q=>ta σ M fun x M1=>tb σ M1 fun y M2=>rr x y M2 fun z M3=>match z with
 | .bl k=>(k=true->tc σ M3 fun w M4=>rr' y w M4 Q)/\(k=false->Q (.bl false) M3)
 |_=>False
theorem qhx{K:Frg}{rr rr':RR2}{σ0:L2.St}{H:Hp}{Q0:VK}(h:up K (qe8 rr rr' ta tb tc) σ0 H Q0):qkQ (upO K rr) (upO K rr') (up K ta) (up K tb) (up K tc) σ0 H Q0:=by
 obtain⟨σ,M,Q,hs,hv,ht,hk⟩:=h;refine⟨σ,M,_,hs,hv,ht,fun rx M1 x H1 hb e1 v1 r1=>?_⟩
 refine⟨σ,M1,_,hs.ext e1,v1,hb,fun ry M2 y H2 hr e2 v2 r2=>?_⟩
 refine⟨rx,ry,M2,_,Rep.ext e2 rx x r1,r2,v2,hr,fun rz M3 z H3 hz e3 v3 r3=>?_⟩
 cases rz with
 |bl k=>
  simp only[Rep]at r3;refine⟨k,r3,?_⟩;have e13:=(e1.trans e2).trans e3;cases k with
  |true=>
   refine qrl ?_;refine⟨σ,M3,_,hs.ext e13,v3,hz.1 rfl,fun rw M4 w H4 hw e4 v4 r4=>?_⟩
   exact⟨ry,rw,M4,Q,Rep.ext (e3.trans e4) ry y r2,r4,v4,hw,hk.ext (e13.trans e4)⟩
  |false=>exact qrm (hk _ M3 _ H3 (hz.2 rfl) e13 v3 (by simp only[Rep]))
 |_=>exact hz.elim
theorem qs1{op op':CmpOp}{rr rr':RR2}(ho:ROp X (compareOp op) rr)(ho':ROp X (compareOp op') rr')(ha:RPE X a ta)(hb:RPE X b tb)(hc:RPE X c tc)(hm:lastMarks [op,op'] [b,c]=false:=by with_unfolding_all rfl):
 RPE X (.Compare a [op,op'] [b,c] pos) (qe8 rr rr' ta tb tc):=PE.imp (qn6 ho ho' ha hb hc hm) fun _ _ _ h=>qhx h
theorem qqe{op op':CmpOp}{rr rr':RR2}(ho:ROp X (compareOp op) rr)(ho':ROp X (compareOp op') rr')(ha:RPE X a ta)(hb:RPE X b tb)(hc:RPE X c tc)(hm:lastMarks [op,op'] [b,c]=false:=by with_unfolding_all rfl):
 RPT X (.Compare a [op,op'] [b,c] pos) (qfA (qe8 rr rr' ta tb tc)):=PT.imp (qnU ho ho' ha hb hc hm) fun σ0 H Q0 h=>by
 obtain⟨σ,M,Q,hs,hv,ht,hk⟩:=h;exact qhx ⟨σ,M,_,hs,hv,ht,qcd hk⟩
def rUn(g:RV->RM->RVK->Prop)(ta:RTE):RTE:=fun σ M Q=>ta σ M fun x M1=>g x M1 Q
def upU(K:Frg)(g:RV->RM->RVK->Prop):V->Hp->VK->Prop:=fun x H Q0=>∃ rx M Q,Rep K H rx x/\View K H M/\g rx M Q/\UpK K H Q Q0
theorem qqb{K:Frg}{g:RV->RM->RVK->Prop}{σ0:L2.St}{H:Hp}{Q0:VK}(h:up K (rUn g ta) σ0 H Q0):tUn (upU K g) (up K ta) σ0 H Q0:=by
 obtain⟨σ,M,Q,hs,hv,ht,hk⟩:=h;exact⟨σ,M,_,hs,hv,ht,fun rx M1 x H1 hb e1 v1 r1=>⟨rx,M1,Q,r1,v1,hb,hk.ext e1⟩⟩
theorem run{op:UnaryOp}{g:RV->RM->RVK->Prop}(ho:UnR X (unaryOp op) (upU X.K g))(ha:RPE X a ta):RPE X (.UnaryOp op a pos) (rUn g ta):=PE.imp (qw5 ho ha) fun _ _ _ h=>qqb h
def qvH(t u:RTT):RTT:=fun σ M Q=>t σ M fun c M1=>(c=true->u σ M1 Q)/\(c=false->Q false M1)
def rOr(t u:RTT):RTT:=fun σ M Q=>t σ M fun c M1=>(c=true->Q true M1)/\(c=false->u σ M1 Q)
def qAu(t:RTT):RTT:=fun σ M Q=>t σ M fun c M1=>Q (!c) M1
theorem qwN(ha:RPT X a tA):RPW X (.BoolOp .And [a] pos) tA:=qqy ha
theorem qC4(ha:RPT X a tA):RPW X (.BoolOp .Or [a] pos) tA:=qtr ha
theorem rand(ha:RPT X a tA)(hb:RPW X (.BoolOp .And (b::rest) pos) tB):RPW X (.BoolOp .And (a::b::rest) pos) (qvH tA tB):=PW.imp (qts ha hb) fun σ0 H Q0 h=>by
 obtain⟨σ,M,Q,hs,hv,ht,hk⟩:=h;refine⟨σ,M,_,hs,hv,ht,fun k M1 H1 q e1 v1=>?_⟩
 cases k with
 |true=>exact qrl ⟨σ,M1,Q,hs.ext e1,v1,q.1 rfl,fun b M' H' z e2 w=>hk b M' H' z (e1.trans e2) w⟩
 |false=>exact qrm (hk false M1 H1 (q.2 rfl) e1 v1)
theorem ror(ha:RPT X a tA)(hb:RPW X (.BoolOp .Or (b::rest) pos) tB):RPW X (.BoolOp .Or (a::b::rest) pos) (rOr tA tB):=PW.imp (qw0 ha hb) fun σ0 H Q0 h=>by
 obtain⟨σ,M,Q,hs,hv,ht,hk⟩:=h;refine⟨σ,M,_,hs,hv,ht,fun k M1 H1 q e1 v1=>?_⟩
 cases k with
 |true=>exact qrl (hk true M1 H1 (q.1 rfl) e1 v1)
 |false=>exact qrm ⟨σ,M1,Q,hs.ext e1,v1,q.2 rfl,fun b M' H' z e2 w=>hk b M' H' z (e1.trans e2) w⟩
theorem rtw(h:RPW X a tA):RPT X a tA:=PW.pt h
theorem qwC(ha:RPT X a tA):RPT X (.UnaryOp .Not a pos) (qAu tA):=PT.imp (qtu ha) fun σ0 H Q0 h=>by
 obtain⟨σ,M,Q,hs,hv,ht,hk⟩:=h;exact⟨σ,M,_,hs,hv,ht,fun k M1 H1 q e1 v1=>hk (!k) M1 H1 q e1 v1⟩
def qnR(ta tb:RTE):RTE:=fun σ M Q=>ta σ M fun x M1=>match x with| .bl c=>(c=true->tb σ M1 Q)/\(c=false->Q (.bl false) M1)|_=>False
def qvB(ta tb:RTE):RTE:=fun σ M Q=>ta σ M fun x M1=>match x with| .bl c=>(c=true->Q (.bl true) M1)/\(c=false->tb σ M1 Q)|_=>False
def qti(ta:RTE):RTE:=fun σ M Q=>ta σ M fun x M1=>match x with| .bl c=>Q (.bl (!c)) M1|_=>False
theorem qAm{op}{t:RTE}(h:RPE X a t):RPE X (.BoolOp op [a] pos) t:=qtI h
theorem qs4(ha:RPE X a ta)(hb:RPE X (.BoolOp .And (b::rest) pos) tb):RPE X (.BoolOp .And (a::b::rest) pos) (qnR ta tb):=PE.imp (qtM ha hb) fun σ0 H Q0 h=>by
 obtain⟨σ,M,Q,hs,hv,ht,hk⟩:=h;refine⟨σ,M,_,hs,hv,ht,fun rx M1 x H1 q e1 v1 r1=>?_⟩
 cases rx with
 |bl k=>
  simp only[Rep]at r1;refine⟨k,r1,?_⟩;cases k with
  |true=>exact qrl ⟨σ,M1,Q,hs.ext e1,v1,q.1 rfl,hk.ext e1⟩
  |false=>exact qrm (hk _ M1 _ H1 (q.2 rfl) e1 v1 (by simp only[Rep]))
 |_=>exact q.elim
theorem qAl(ha:RPE X a ta)(hb:RPE X (.BoolOp .Or (b::rest) pos) tb):RPE X (.BoolOp .Or (a::b::rest) pos) (qvB ta tb):=PE.imp (qw6 ha hb) fun σ0 H Q0 h=>by
 obtain⟨σ,M,Q,hs,hv,ht,hk⟩:=h;refine⟨σ,M,_,hs,hv,ht,fun rx M1 x H1 q e1 v1 r1=>?_⟩
 cases rx with
 |bl k=>
  simp only[Rep]at r1;refine⟨k,r1,?_⟩;cases k with
  |true=>exact qrl (hk _ M1 _ H1 (q.1 rfl) e1 v1 (by simp only[Rep]))
  |false=>exact qrm ⟨σ,M1,Q,hs.ext e1,v1,q.2 rfl,hk.ext e1⟩
 |_=>exact q.elim
theorem qwF(ha:RPE X a ta):RPE X (.UnaryOp .Not a pos) (qti ta):=PE.imp (qtJ ha) fun σ0 H Q0 h=>by
 obtain⟨σ,M,Q,hs,hv,ht,hk⟩:=h;refine⟨σ,M,_,hs,hv,ht,fun rx M1 x H1 q e1 v1 r1=>?_⟩
 cases rx with
 |bl k=>simp only[Rep]at r1;exact⟨k,r1,hk _ M1 _ H1 q e1 v1 (by simp only[Rep])⟩
 |_=>exact q.elim
def rIf(t:RTT)(ta tb:RTE):RTE:=fun σ M Q=>t σ M fun c M1=>(c=true->ta σ M1 Q)/\(c=false->tb σ M1 Q)
theorem rif{c:Expr}(hc:RPT X c tA)(ha:RPE X a ta)(hb:RPE X b tb):RPE X (.IfExp c a b pos) (rIf tA ta tb):=PE.imp (qn2 hc ha hb) fun σ0 H Q0 h=>by
 obtain⟨σ,M,Q,hs,hv,ht,hk⟩:=h;refine⟨σ,M,_,hs,hv,ht,fun k M1 H1 q e1 v1=>?_⟩
 cases k with
 |true=>exact qrl ⟨σ,M1,Q,hs.ext e1,v1,q.1 rfl,hk.ext e1⟩
 |false=>exact qrm ⟨σ,M1,Q,hs.ext e1,v1,q.2 rfl,hk.ext e1⟩
variable {e:Expr}{es:List Expr}{te:RTE}{t:RTA}
def qnq:RTA:=fun _ M Q=>Q [] M
def qgL(ta:RTE)(tr:RTA):RTA:=fun σ M Q=>ta σ M fun x M1=>tr σ M1 fun xs M2=>Q (x::xs) M2
theorem qvM:RPA X [] qnq:=PA.imp qtN fun σ0 H Q0 h=>by
 obtain⟨σ,M,Q,hs,hv,ht,hk⟩:=h;exact hk [] M [] H ht (.refl H) hv Reps.nil
theorem qkE(ha:RPE X e te)(hr:RPA X es t)(hs:starEach (e::es) X.env=(false,eval e X.env)::starEach es X.env:=by rfl):RPA X (e::es) (qgL te t):=PA.imp (qqO ha hr hs) fun σ0 H Q0 h=>by
 obtain⟨σ,M,Q,hs,hv,ht,hk⟩:=h;refine⟨σ,M,_,hs,hv,ht,fun rx M1 x H1 q e1 v1 r1=>?_⟩
 refine⟨σ,M1,_,hs.ext e1,v1,q,fun rs M2 vs H2 q2 e2 v2 r2=>?_⟩
 exact hk (rx::rs) M2 (x::vs) H2 q2 (e1.trans e2) v2 (Reps.cons (Rep.ext e2 rx x r1) r2)
def qAn(t:RTA):RTE:=fun σ M Q=>t σ M fun rs M1=>rs.length<=sizeLine/\Q (.tup rs) M1
theorem qcY{K:Frg}{H:Hp}{p:Addr}{rs:List RV}{vs:List V}(h:H p=none)(r:Reps K H rs vs):Rep K (upd H p (.tup vs)) (.tup rs) (.ref p):=by
 simp only[Rep];exact⟨p,vs,rfl,qaj,Reps.ext (Ext.new h) rs vs r⟩
theorem qcb{K:Frg}{H:Hp}{p:Addr}{o:Obj}{rs:List RV}{vs:List V}(h:H p=none)(r:Reps K H rs vs):Rep K (upd H p (.frz o (.lst vs))) (.ls rs) (.ref p):=by
 simp only[Rep];exact⟨p,vs,rfl,.inl ⟨o,qaj⟩,Reps.ext (Ext.new h) rs vs r⟩
theorem qC2{x1}(h:RPA X es t):RPE X (.Tuple es x1 pos) (qAn t):=PE.imp (qtH h) fun σ0 H Q0 h=>by
 obtain⟨σ,M,Q,hs,hv,ht,hk⟩:=h;refine⟨σ,M,_,hs,hv,ht,fun rs M1 vs H1 q e1 v1 r1=>⟨by rw[<-r1.length];exact q.1,fun p hp=>?_⟩⟩
 exact hk _ M1 _ _ q.2 (e1.trans (Ext.new hp)) (v1.new hp) (qcY hp r1)
def qAz(t:RTA):RTE:=fun σ M Q=>t σ M fun rs M1=>rs.length<=sizeLine/\∀ p,M1 p=none->Q (.ref p) (put M1 p (.lst rs))
theorem qC5(h:RPA X es t):RPE X (.List es pos) (qAz t):=PE.imp (qpj h) fun σ0 H Q0 h=>by
 obtain⟨σ,M,Q,hs,hv,ht,hk⟩:=h;refine⟨σ,M,_,hs,hv,ht,fun rs M1 vs H1 q e1 v1 r1=>⟨by rw[<-r1.length];exact q.1,fun p hp=>?_⟩⟩
 exact hk _ _ _ _ (q.2 p (v1.free hp)) (e1.trans (Ext.new hp)) (v1.newPut hp ⟨vs,rfl,Reps.ext (Ext.new hp) rs vs r1⟩) (by simp only[Rep])
end
section
variable {X:Cx}{pins:List (Addr×Obj)}{σ:L2.St}{H:Hp}{s:Shared}
theorem freeze{p:Addr}{xs:List V}(I:Inv X pins σ H s)(h:H p=some (.lst xs)):∃ o,Inv X pins σ (upd H p (.frz o (.lst xs))) s:=by
 have hz:xs.length<=sizeLine/\∃ (its:List Value) (n:Nat),Vals xs its/\s.heap.get? p=some { cls:=.type "list",data:=.seq its.toArray n }:=I.hok p _ h;obtain⟨z,its,n,r,e⟩:=id hz;have np:∀ b,H b=none->b≠p:=fun b q w=>by subst w;rw[h]at q;cases q
 refine⟨{ cls:=.type "list",data:=.seq its.toArray n },⟨I.ok,I.os,I.bare,⟨I.base.keep,I.base.slot,fun b o q w x=>?_,I.base.there,fun b xs' q=>?_,fun b o u q=>?_,fun b ps q=>?_⟩,I.loc,I.cell,?_,fun x c q=>?_,fun q hq=>?_,fun b u q=>?_,I.len⟩⟩
 · have:=I.base.free b o q w x
   rw[qae (np b this)];exact this
 · have e1:=I.base.tups b xs' q
   rw[qae (qeQ e1 h (by intro z;cases z))];exact e1
 · have e1:=I.base.frzs b o u q
   rw[qae (qeQ e1 h (by intro z;cases z))];exact e1
 · obtain⟨more,e1⟩:=I.base.tbls b ps q
   exact⟨more,by rw[qae (qeQ e1 h (by intro z;cases z))];exact e1⟩
 · rw[qae (np _ I.free)];exact I.free
 · have:=I.freeC x c q
   rw[qae (np _ this)];exact this
 · obtain⟨a1,a2,a3⟩:=I.pin q hq
   exact⟨a1,by rw[qae (np _ a2)];exact a2,a3⟩
 · by_cases hb:b=p
   · subst hb
     rw[qaj]at q;cases q;exact⟨e,z,its,n,r,e⟩
   · rw[qae hb]at q
     refine(I.hok b u q).stay (fun _ _ _ q=>q) (fun c q=>?_) fun c ys q=>?_
     · rw[qae (qeQ q h (by intro z;cases z))];exact q
     · rw[qae (qeQ q h (by intro z;cases z))];exact q
theorem frozen{Q:VK}{u:Value}(h:EP X pins σ (fun v H'=>∃ H1 p xs,v= .ref p/\H1 p=none/\H'=upd H1 p (.lst xs)/\∀ o,Q (.ref p) (upd H1 p (.frz o (.lst xs)))) u s):EP X pins σ Q u s:=by
 obtain⟨v,H',I,r,H1,p,xs,rfl,hn,rfl,q⟩:=h;obtain⟨o,I'⟩:=freeze I (p:=p) (xs:=xs) qaj;rw[qkI]at I';exact⟨.ref p,_,I',r,q o⟩
end
section
variable {X:Cx}{es:List Expr}{t:RTA}{pos:Pos}
def qAA(t:RTA):RTE:=fun σ M Q=>t σ M fun rs M1=>rs.length<=sizeLine/\Q (.ls rs) M1
theorem qC6(h:RPA X es t):RPE X (.List es pos) (qAA t):=fun pins s σ0 H Q0 I hw=>by
 obtain⟨σ,M,Q,hs,hv,ht,hk⟩:=hw;refine thn (qpj h pins s σ0 H (fun v H'=>∃ H1 p xs,v= .ref p/\H1 p=none/\H'=upd H1 p (.lst xs)/\∀ o,Q0 (.ref p) (upd H1 p (.frz o (.lst xs)))) I ?_) fun _ _ e=>frozen e
 refine⟨σ,M,_,hs,hv,ht,fun rs M1 vs H1 q e1 v1 r1=>⟨by rw[<-r1.length];exact q.1,fun p hp=>⟨H1,p,vs,rfl,hp,rfl,fun o=>?_⟩⟩⟩
 exact hk _ M1 _ _ q.2 (e1.trans (Ext.new hp)) (v1.new hp) (qcb hp r1)
end
section
variable {X:Cx}{st:Stmt}{rest:List Stmt}{t u:RTS}{e:Expr}{te:RTE}{pos:Pos}
def qtj:RTS:=fun D σ M=>D.nx σ M
def qAp(t u:RTS):RTS:=fun D σ M=>t { D with nx:=u D } σ M
theorem qCD:qm7 X [] qtj:=PSs.imp qqA fun D0 σ0 H h=>by
 obtain⟨σ,M,D,hs,hv,ht,hd⟩:=h;exact hd.nx σ M σ0 H ht (.refl H) hv hs
theorem qwn(h1:RPS X st t)(h2:qm7 X rest u):qm7 X (st::rest) (qAp t u):=PSs.imp (qnV h1 h2) fun D0 σ0 H h=>by
 obtain⟨σ,M,D,hs,hv,ht,hd⟩:=h;refine⟨σ,M,_,hs,hv,ht,⟨fun σ' M' σ0' H' q e w r=>?_,hd.rt,hd.bk,hd.ct⟩⟩
 exact⟨σ',M',D,r,w,q,hd.ext e⟩
def qto(te:RTE):RTS:=fun D σ M=>te σ M fun _ M1=>D.nx σ M1
theorem qwl(he:RPE X e te)(hs:swapsWith e none pos.line X.env=pure false:=by rfl):RPS X (.Expr e pos) (qto te):=PS.imp (qqB he hs) fun D0 σ0 H h=>by
 obtain⟨σ,M,D,hs,hv,ht,hd⟩:=h;exact⟨σ,M,_,hs,hv,ht,fun rx M1 x H1 q e1 v1 r1=>hd.nx σ M1 σ0 H1 q e1 v1 (hs.ext e1)⟩
def qAq(te:RTE):RTS:=fun D σ M=>te σ M D.rt
theorem qCB(he:RPE X e te):RPS X (.Return (some e) pos) (qAq te):=PS.imp (qty he) fun D0 σ0 H h=>by
 obtain⟨σ,M,D,hs,hv,ht,hd⟩:=h;exact⟨σ,M,_,hs,hv,ht,hd.rt⟩
def qvF(c:RTT)(t u:RTS):RTS:=fun D σ M=>c σ M fun b M1=>(b=true->t D σ M1)/\(b=false->u D σ M1)
theorem sif{c:Expr}{a b:List Stmt}{tc:RTT}(hc:RPT X c tc)(ha:qm7 X a t)(hb:qm7 X b u):RPS X (.If c a b pos) (qvF tc t u):=PS.imp (qw2 hc ha hb) fun D0 σ0 H h=>by
 obtain⟨σ,M,D,hs,hv,ht,hd⟩:=h;refine⟨σ,M,_,hs,hv,ht,fun k M1 H1 q e1 v1=>?_⟩
 cases k with
 |true=>exact qrl ⟨σ,M1,D,hs.ext e1,v1,q.1 rfl,hd.ext e1⟩
 |false=>exact qrm ⟨σ,M1,D,hs.ext e1,v1,q.2 rfl,hd.ext e1⟩
def qtg(i:Nat)(te:RTE):RTS:=fun D σ M=>te σ M fun x M1=>D.nx (σ.set i (some x)) M1
theorem sset(i:Nat){x:Str}{pos':Pos}(he:RPE X e te)(hN:X.N.Nodup)(hi:X.N[i]? =some x:=by rfl)(hx:Loc X.env.scope x:=by first|exact Or.inl rfl|exact Or.inr rfl)(hs:swapsWith e (some (.Name x pos')) pos.line X.env=pure false:=by rfl)
 (hf:X.fn x=true∨X.env.scope.names.lookup x=some .local:=by first|exact .inl rfl|exact .inr rfl):RPS X (.Assign [.Name x pos'] e pos) (qtg i te):=PS.imp (qtx hN hi hx he hs hf) fun D0 σ0 H h=>by
 obtain⟨σ,M,D,hs,hv,ht,hd⟩:=h;exact⟨σ,M,_,hs,hv,ht,fun rx M1 x H1 q e1 v1 r1=>hd.nx _ M1 _ H1 q e1 v1 ((hs.ext e1).set r1 i)⟩
abbrev RTG:=RV->RSt->RM->(RSt->RM->Prop)->Prop
def upG(K:Frg)(g:RTG):TG:=fun v σ0 H Q0=>∃ rv σ M Q,Rep K H rv v/\RepSt K H σ σ0/\View K H M/\g rv σ M Q/\UpS K H Q Q0
def RPG(X:Cx)(target:Expr)(g:RTG):Prop:=PG X target (upG X.K g)
theorem PG.imp{tg:Expr}{t t':TG}(h:PG X tg t)(i:∀ v σ H Q,t' v σ H Q->t v σ H Q):PG X tg t':=fun pins s σ H v u Q I r w=>h pins s σ H v u Q I r (i v σ H Q w)
def rgN(i:Nat):RTG:=fun x σ M Q=>Q (σ.set i (some x)) M
theorem qxK(i:Nat){x:Str}{pos:Pos}(hN:X.N.Nodup)(hi:X.N[i]? =some x:=by rfl)(hx:Loc X.env.scope x:=by first|exact Or.inl rfl|exact Or.inr rfl)
 (hf:X.fn x=true∨X.env.scope.names.lookup x=some .local:=by first|exact .inl rfl|exact .inr rfl):RPG X (.Name x pos) (rgN i):=PG.imp (qfH hN hi hx hf) fun v σ0 H Q0 h=>by
 obtain⟨rv,σ,M,Q,hr,hs,hv,hg,hk⟩:=h;exact hk _ M _ H hg (.refl H) hv (hs.set hr i)
def qdY:RSt->List Nat->List RV->RSt
 |σ,i::is,x::xs=>qdY (σ.set i (some x)) is xs
 |σ,_,_=>σ
def qow:List Nat->TGs
 | []=>qAQ
 |i::is=>quJ (qrA i) (qow is)
theorem qmF{K:Frg}{H:Hp}{Q0:L2.St->Hp->Prop}:∀ {is:List Nat} {rs:List RV} {vs:List V} {σ:RSt} {σ0:L2.St},rs.length=is.length->Reps K H rs vs->RepSt K H σ σ0->
 (∀ σ0',RepSt K H (qdY σ is rs) σ0'->Q0 σ0' H)->qow is vs σ0 H Q0
 | [],[],vs,σ,σ0,_,r,hs,k=>by
  simp only[Reps]at r;exact⟨r,k σ0 hs⟩
 |i::is,x::rs,vs,σ,σ0,hl,r,hs,k=>by
  simp only[Reps]at r;obtain⟨v,vs',rfl,h1,h2⟩:=r;refine⟨v,vs',rfl,?_⟩;show qow is vs' (σ0.set i (some v)) H Q0;exact qmF (σ:=σ.set i (some x)) (by simpa using hl) h2 (hs.set h1 i) k
def rgU(is:List Nat):RTG:=fun x σ M Q=>match x with| .tup xs=>xs.length=is.length/\Q (qdY σ is xs) M|_=>False
theorem qDz{es:List Expr}{k:Nat}{is:List Nat}{n:Nat}{pos:Pos}(hc:X.calm=true)(h:PGs X es (qow is))(hl:n=is.length:=by rfl)
 (hn:(assignEach es X.env).length=n:=by rfl) (hst:(assignEach es X.env).findIdx? (·.1)=none:=by rfl):RPG X (.Tuple es k pos) (rgU is):=PG.imp (qph hc h hn hst) fun v σ0 H Q0 h=>by
 obtain⟨rv,σ,M,Q,hr,hs,hv,hg,hk⟩:=h;cases rv with
 |tup xs=>
  simp only[Rep]at hr;obtain⟨a,vs,rfl,h1,h2⟩:=hr;exact⟨a,vs,rfl,SqT.of h1,by rw[<-h2.length,hl];exact hg.1,qmF hg.1 h2 hs fun σ0' q=>hk _ M σ0' H hg.2 (.refl H) hv q⟩
 |_=>exact hg.elim
def qwY(te:RTE)(g:RTG):RTS:=fun D σ M=>te σ M fun x M1=>g x σ M1 D.nx
theorem qAi{tg e:Expr}{te:RTE}{g:RTG}{pos:Pos}(he:RPE X e te)(hg:RPG X tg g)(hs:swapsWithSole [tg] e pos.line X.env=pure false:=by rfl)(hw:swappedStores [tg] e X.env=pure none:=by rfl)
 (h1:(assignEach [tg] X.env).map (·.2)= [assign tg X.env]:=by rfl):RPS X (.Assign [tg] e pos) (qwY te g):=PS.imp (qtC he hg hs hw h1) fun D0 σ0 H h=>by
 obtain⟨σ,M,D,hs,hv,ht,hd⟩:=h;exact⟨σ,M,_,hs,hv,ht,fun rx M1 x H1 q e1 v1 r1=>⟨rx,σ,M1,D.nx,r1,hs.ext e1,v1,q,hd.nx.ext e1⟩⟩
abbrev qoX:=RV->RV->RV->RM->(RM->Prop)->Prop
noncomputable def qsr (K:Frg)(g:qoX):qvN:=fun o i v H Q0=>∃ ro ri rx M Q,Rep K H ro o/\Rep K H ri i/\Rep K H rx v/\View K H M/\g ro ri rx M Q/\∀ M' H',Q M'->Ext H H'->View K H' M'->Q0 H'
def qsV(to ti:RTE)(g:qoX):RTG:=fun v σ M Q=>to σ M fun o M1=>ti σ M1 fun i M2=>g o i v M2 fun M3=>Q σ M3
theorem qDA{o i:Expr}{to ti:RTE}{g:qoX}{pos:Pos}(ho:RPE X o to)(hi:RPE X i ti)(hs:qvO X (qsr X.K g))
 (ha:∀ v,assign (.Subscript o i pos) X.env v=(do
  let ov<-holding [v] (eval o X.env)
  let iv<-holding [v,ov] (eval i X.env)
  standAt pos
  holding [v,ov,iv] (setItem ov iv v)
  release [v,ov,iv] []):=by intro _;rfl):RPG X (.Subscript o i pos) (qsV to ti g):=PG.imp (qtF ho hi hs ha) fun v σ0 H Q0 h=>by
 obtain⟨rv,σ,M,Q,hr,hs,hv,hg,hk⟩:=h;refine⟨σ,M,_,hs,hv,hg,fun ro M1 o H1 q e1 v1 r1=>?_⟩
 refine⟨σ,M1,_,hs.ext e1,v1,q,fun ri M2 i H2 q2 e2 v2 r2=>?_⟩
 refine⟨ro,ri,rv,M2,_,Rep.ext e2 ro o r1,r2,Rep.ext (e1.trans e2) rv v hr,v2,q2,fun M3 H3 q3 e3 v3=>?_⟩
 have e:=(e1.trans e2).trans e3;exact hk σ M3 σ0 H3 q3 e v3 (hs.ext e)
noncomputable def qdA (g:RTG)(tb:RTS)(D:RD)(ok:RM->Prop)(un:RM->RM):List RV->RSt->RM->Prop
 | [],σ,M=>ok M/\D.nx σ (un M)
 |x::r,σ,M=>ok M/\g x σ M fun σ2 M2=>tb { D with nx:=qdA g tb D ok un r,ct:=qdA g tb D ok un r,bk:=fun σ M=>ok M/\D.nx σ (un M),rt:=fun v M=>ok M/\D.rt v (un M) } σ2 M2
end
open PySem.SeqAt (EqAt RcAt RcNeAt)
mutual
def eqR:RV->RV->Bool
 | .non,.non=>true
 | .bl a,.bl b=>a==b
 | .bl a,.int b=>(if a then 1 else 0)==b
 | .int a,.bl b=>a==(if b then 1 else 0)
 | .int a,.int b=>a==b
 | .str a,.str b=>a==b
 | .tup xs,.tup ys=>qfg xs ys
 | .ls xs,.ls ys=>qfg xs ys
 |_,_=>false
def qfg:List RV->List RV->Bool
 | [],[]=>true
 |x::xs,y::ys=>eqR x y&&qfg xs ys
 |_,_=>false
end
noncomputable def okR:Nat->RV->Bool
 |_,.non=>true
 |_,.bl _=>true
 |_,.int _=>true
 |_,.str _=>true
 |n+1,.tup xs=>xs.all (okR n)
 |n+1,.ls xs=>xs.all (okR n)
 |_,_=>false
mutual
def Den(h:Heap):RV->Value->Prop
 | .non,u=>u= .none
 | .bl b,u=>u= .bool b
 | .int i,u=>∃ t,u= .int i t
 | .str x,u=>∃ t,u= .str x t
 | .tup xs,u=>∃ a its,u= .ref a/\h.IsTuple a its.toArray/\Dens h xs its
 | .ls xs,u=>∃ a its,u= .ref a/\h.IsList a its.toArray/\Dens h xs its
 | .ref _,_=>False
 | .ty _,_=>False
def Dens(h:Heap):List RV->List Value->Prop
 | [],us=>us= []
 |x::xs,us=>∃ u r,us=u::r/\Den h x u/\Dens h xs r
end
theorem Dens.length{h:Heap}:∀ {xs:List RV} {us:List Value},Dens h xs us->xs.length=us.length
 | [],us,d=>by simp only[Dens]at d;subst d;rfl
 |x::xs,us,d=>by
  simp only[Dens]at d;obtain⟨u,r,rfl,_,t⟩:=d;simp[Dens.length t]
theorem Dens.get{h:Heap}:∀ {xs:List RV} {us:List Value} {j:Nat} {u:Value},Dens h xs us->us[j]? =some u->Den h (xs.getD j .non) u/\xs.getD j .non∈xs
 | [],us,_,_,d,e=>by simp only[Dens]at d;subst d;simp at e
 |x::xs,us,0,u,d,e=>by
  simp only[Dens]at d;obtain⟨v,r,rfl,h1,_⟩:=d;simp at e;subst e;exact⟨by simpa using h1,by simp⟩
 |x::xs,us,j+1,u,d,e=>by
  simp only[Dens]at d;obtain⟨v,r,rfl,_,t⟩:=d;obtain⟨a,b⟩:=Dens.get (j:=j) t (by simpa using e)
  exact⟨by simpa using a,by simp only[List.getD_cons_succ];exact wap _ b⟩
section
variable {X:Cx}{pins:List (Addr×Obj)}{σ:L2.St}{H:Hp}{s:Shared}
theorem Vals.cons_inv{v:V}{vs:List V}{us:List Value}(r:Vals (v::vs) us):∃ u us',us=u::us'/\RelV v u/\Vals vs us':=by
 cases r with
 |cons a b=>exact⟨_,_,rfl,a,b⟩
theorem qbD(I:Inv X pins σ H s):∀ (n:Nat),(∀ (r:RV) (v:V) (u:Value),okR n r=true->Rep X.K H r v->RelV v u->Den s.heap r u):=by
 intro n
 induction n with
 |zero=>
  intro r v u o h w;cases r with
  |non=>simp only[Rep]at h;subst h;simp only[Den];exact w
  |bl b=>simp only[Rep]at h;subst h;simp only[Den];exact w
  |int i=>simp only[Rep]at h;subst h;simp only[Den];exact w
  |str x=>simp only[Rep]at h;subst h;simp only[Den];exact w
  |_=>simp[okR]at o
 |succ n ih=>
  have all:∀ (rs:List RV) (vs:List V) (us:List Value),rs.all (okR n)=true->Reps X.K H rs vs->Vals vs us->Dens s.heap rs us:=by
   intro rs
   induction rs with
   |nil=>
    intro vs us _ h w;simp only[Reps]at h;subst h;cases w;simp only[Dens]
   |cons x xs ihx=>
    intro vs us o h w;simp only[Reps]at h;obtain⟨v,r,rfl,h1,h2⟩:=h;obtain⟨u,us',rfl,w1,w2⟩:=Vals.cons_inv w;rw[wat,waa]at o;simp only[Dens];exact⟨u,us',rfl,ih x v u o.1 h1 w1,ihx r us' o.2 h2 w2⟩
  intro r v u o h w;cases r with
  |non=>simp only[Rep]at h;subst h;simp only[Den];exact w
  |bl b=>simp only[Rep]at h;subst h;simp only[Den];exact w
  |int i=>simp only[Rep]at h;subst h;simp only[Den];exact w
  |str x=>simp only[Rep]at h;subst h;simp only[Den];exact w
  |tup xs=>
   simp only[Rep]at h;obtain⟨a,vs,rfl,h1,h2⟩:=h;obtain⟨its,rv,ht,_⟩:=I.tuple (SqT.of h1);simp only[Den];exact⟨a,its,w,ht,all xs vs its o h2 rv⟩
  |ls xs=>
   simp only[Rep]at h;obtain⟨a,vs,rfl,h1,h2⟩:=h;obtain⟨its,rv,ht,_⟩:=I.list h1.sq;simp only[Den];exact⟨a,its,w,ht.isList,all xs vs its o h2 rv⟩
  |_=>simp[okR]at o
end
theorem qkX{h:Heap}{a:Addr}{xs ys:List Value}(p:h.IsTuple a xs.toArray)(q:h.IsTuple a ys.toArray):xs=ys:=by
 obtain⟨o,e,_,n,d⟩:=p;obtain⟨o',e',_,n',d'⟩:=q;rw[e]at e';cases e';rw[d]at d';injection d' with d1 _
 simpa using congrArg Array.toList d1
theorem qlY{h:Heap}{a:Addr}{xs ys:List Value}(p:h.IsList a xs.toArray)(q:h.IsList a ys.toArray):xs=ys:=by
 obtain⟨o,e,_,n,d⟩:=p;obtain⟨o',e',_,n',d'⟩:=q;rw[e]at e';cases e';rw[d]at d';injection d' with d1 _
 simpa using congrArg Array.toList d1
theorem qjo{h:Heap}{a:Addr}{xs ys:Array Value}(p:h.IsList a xs)(q:h.IsTuple a ys):False:=by
 obtain⟨o,e,c,_⟩:=p;obtain⟨o',e',c',_⟩:=q;rw[e]at e';cases e';rw[c]at c';exact absurd c' (by decide+kernel)
def isS:RV->Bool
 | .non=>true
 | .bl _=>true
 | .int _=>true
 | .str _=>true
 |_=>false
def qAZ:Value->Option RV
 | .none=>some .non
 | .bool b=>some (.bl b)
 | .int i _=>some (.int i)
 | .str x _=>some (.str x)
 |_=>none
theorem quP{h:Heap}{u:Value}:∀ {x:RV},isS x=true->Den h x u->qAZ u=some x
 | .non,_,d=>by simp only[Den]at d;subst d;rfl
 | .bl _,_,d=>by simp only[Den]at d;subst d;rfl
 | .int _,_,d=>by simp only[Den]at d;obtain⟨t,rfl⟩:=d;rfl
 | .str _,_,d=>by simp only[Den]at d;obtain⟨t,rfl⟩:=d;rfl
theorem qxU{h:Heap}{u:Value}:∀ {x:RV},isS x=false->Den h x u->qAZ u=none
 | .tup _,_,d=>by simp only[Den]at d;obtain⟨a,its,rfl,_⟩:=d;rfl
 | .ls _,_,d=>by simp only[Den]at d;obtain⟨a,its,rfl,_⟩:=d;rfl
 | .ref _,_,d=>by simp only[Den]at d
 | .ty _,_,d=>by simp only[Den]at d
theorem qiR{h:Heap}:∀ (n:Nat) (x y:RV) (u:Value),okR n x=true->okR n y=true->Den h x u->Den h y u->x=y:=by
 intro n;have sc:∀ (x y:RV) (u:Value),isS x=true->Den h x u->Den h y u->x=y:=by
  intro x y u sx dx dy;have ex:=quP sx dx;cases sy:isS y with
  |true=>
   have ey:=quP sy dy;rw[ex]at ey;exact Option.some.inj ey
  |false=>
   have ey:=qxU sy dy;rw[ex]at ey;cases ey
 induction n with
 |zero=>
  intro x y u ox oy dx dy;have sx:isS x=true:=by cases x<;>first|rfl|(simp[okR]at ox)
  exact sc x y u sx dx dy
 |succ n ih=>
  have all:∀ (xs ys:List RV) (us:List Value),xs.all (okR n)=true->ys.all (okR n)=true->Dens h xs us->Dens h ys us->xs=ys:=by
   intro xs
   induction xs with
   |nil=>
    intro ys us _ _ d e;simp only[Dens]at d;subst d;cases ys with
    |nil=>rfl
    |cons y ys=>simp only[Dens]at e;obtain⟨_,_,z,_⟩:=e;cases z
   |cons x xs ihx=>
    intro ys us ox oy d e;simp only[Dens]at d;obtain⟨u,r,rfl,d1,d2⟩:=d;cases ys with
    |nil=>simp only[Dens]at e;cases e
    |cons y ys=>
     simp only[Dens]at e;obtain⟨u',r',z,e1,e2⟩:=e;cases z;rw[wat,waa]at ox oy;rw[ih x y u ox.1 oy.1 d1 e1,ihx ys r ox.2 oy.2 d2 e2]
  intro x y u ox oy dx dy;cases sx:isS x with
  |true=>exact sc x y u sx dx dy
  |false=>
   cases sy:isS y with
   |true=>exact(sc y x u sy dy dx).symm
   |false=>
    cases x with
    |tup xs=>
     simp only[Den]at dx;obtain⟨a,its,rfl,p,d⟩:=dx;cases y with
     |tup ys=>
      simp only[Den]at dy;obtain⟨a',its',z,p',d'⟩:=dy;cases z;obtain rfl:=qkX p p';rw[all xs ys its ox oy d d']
     |ls ys=>
      simp only[Den]at dy;obtain⟨a',its',z,p',d'⟩:=dy;cases z;exact(qjo p' p).elim
     |ref _=>simp only[Den]at dy
     |ty _=>simp only[Den]at dy
     |_=>cases sy
    |ls xs=>
     simp only[Den]at dx;obtain⟨a,its,rfl,p,d⟩:=dx;cases y with
     |ls ys=>
      simp only[Den]at dy;obtain⟨a',its',z,p',d'⟩:=dy;cases z;obtain rfl:=qlY p p';rw[all xs ys its ox oy d d']
     |tup ys=>
      simp only[Den]at dy;obtain⟨a',its',z,p',d'⟩:=dy;cases z;exact(qjo p p').elim
     |ref _=>simp only[Den]at dy
     |ty _=>simp only[Den]at dy
     |_=>cases sy
    |ref _=>simp only[Den]at dx
    |ty _=>simp only[Den]at dx
    |_=>cases sx
mutual
theorem qfW:∀ (x:RV),(∃ n,okR n x=true)->eqR x x=true
 | .non,_=>by simp[eqR]
 | .bl _,_=>by simp[eqR]
 | .int _,_=>by simp[eqR]
 | .str _,_=>by simp[eqR]
 | .tup xs,⟨n,o⟩=>by
  rw[eqR];refine qew xs ?_;cases n with
  |zero=>simp[okR]at o
  |succ n=>exact⟨n,o⟩
 | .ls xs,⟨n,o⟩=>by
  rw[eqR];refine qew xs ?_;cases n with
  |zero=>simp[okR]at o
  |succ n=>exact⟨n,o⟩
 | .ref _,⟨n,o⟩=>by cases n<;>simp[okR]at o
 | .ty _,⟨n,o⟩=>by cases n<;>simp[okR]at o
theorem qew:∀ (xs:List RV),(∃ n,xs.all (okR n)=true)->qfg xs xs=true
 | [],_=>by simp[qfg]
 |x::xs,⟨n,o⟩=>by
  rw[wat,waa]at o;rw[qfg,qfW x ⟨n,o.1⟩,qew xs ⟨n,o.2⟩];rfl
end
abbrev qij(xs ys:List RV)(j:Nat):Bool:=eqR (xs.getD j .non) (ys.getD j .non)
theorem qc9:∀ xs ys:List RV,((List.range (min xs.length ys.length)).all (qij xs ys)&&xs.length==ys.length)=qfg xs ys
 | [],[]=>by simp[qfg]
 | [],_::_=>by simp[qfg]
 |_::_,[]=>by simp[qfg]
 |x::xs,y::ys=>by
  have ih:=qc9 xs ys;have e1:min (x::xs).length (y::ys).length=min xs.length ys.length+1:=by simp only[waf];omega
  have e2:((x::xs).length==(y::ys).length)=(xs.length==ys.length):=by simp
  have e3:(List.range (min xs.length ys.length+1)).all (qij (x::xs) (y::ys))=(eqR x y&&(List.range (min xs.length ys.length)).all (qij xs ys)):=by
   rw[List.range_succ_eq_map,wat,wbd];rfl
  rw[e1,e2,e3,qfg,<-ih,Bool.and_assoc]
theorem qev{xs ys:List RV}(h:xs.length=ys.length):(List.range xs.length).all (qij xs ys)=qfg xs ys:=by
 have:=qc9 xs ys;rw[<-h,Nat.min_self]at this;simpa using this
theorem qc8{xs ys:List RV}(h:xs.length≠ys.length):qfg xs ys=false:=by
 have:=qc9 xs ys;rw[<-this];simp[h]
theorem in1_units(A:Around):A.in1.units=A.units+1:=rfl
theorem qfX:∀ (n:Nat) (x y:RV) (A:Around) (s:Shared) (u w:Value),okR n x=true->okR n y=true->Den s.heap x u->Den s.heap y w->A.units+n<cLine->EqAt A s u w (eqR x y):=by
 intro n
 induction n with
 |zero=>
  intro x y A s u w ox oy dx dy hu;cases x<;>cases y<;>first|(simp only[Den]at dx;done)|(simp only[Den]at dy;done)|(simp[okR]at ox;done)|(simp[okR]at oy;done)|(simp only[Den]at dx dy;(first|subst dx|obtain⟨t1,rfl⟩:=dx|obtain⟨a1,its1,rfl,p1,d1⟩:=dx);(first|subst dy|obtain⟨t2,rfl⟩:=dy|obtain⟨a2,its2,rfl,p2,d2⟩:=dy);first|(simp only[eqR,Bool.not_false,Bool.not_true];with_reducible first|exact EqAt.same _|exact EqAt.none_bool _|exact EqAt.none_int _ _|exact EqAt.none_str _ _|exact EqAt.bool_none _|exact EqAt.bool_bool _ _|exact EqAt.bool_int _ _ _|exact EqAt.bool_str _ _ _|exact EqAt.int_none _ _|exact EqAt.int_bool _ _ _|exact EqAt.int_int _ _ _ _|exact EqAt.int_str _ _ _ _|exact EqAt.str_none _ _|exact EqAt.str_bool _ _ _|exact EqAt.str_int _ _ _ _|exact EqAt.str_str _ _ _ _))
 |succ n ih=>
  intro x y A s u w ox oy dx dy hu;have hu0:A.units<cLine:=by omega
  have item:∀ (xs ys:List RV) (us ws:List Value),xs.all (okR n)=true->ys.all (okR n)=true->Dens s.heap xs us->Dens s.heap ys ws->
   ∀ j (j1:j<us.toArray.size) (j2:j<ws.toArray.size),EqAt A.in1 s us.toArray[j] ws.toArray[j] (qij xs ys j):=fun xs ys us ws o1 o2 d1 d2 j j1 j2=>by
   obtain⟨a1,b1⟩:=d1.get (j:=j) (u:=us.toArray[j]) (by simp)
   obtain⟨a2,b2⟩:=d2.get (j:=j) (u:=ws.toArray[j]) (by simp)
   exact ih _ _ A.in1 s _ _ (wak.mp o1 _ b1) (wak.mp o2 _ b2) a1 a2 (by rw[in1_units];omega)
  have same_EqAt_tup:∀ (xs ys:List RV) (a a':Addr) (its its':List Value),s.heap.IsTuple a its.toArray->s.heap.IsTuple a' its'.toArray->Dens s.heap xs its->Dens s.heap ys its'->okR (n+1) (.tup xs)=true->okR (n+1) (.tup ys)=true->EqAt A s (.ref a) (.ref a') (eqR (RV.tup xs) (RV.tup ys)):=by
   intro xs ys a a' its its' p p' d d' ox oy
   by_cases ha:a=a'
   · subst ha
     obtain rfl:=qkX p p';have e:RV.tup xs=RV.tup ys:=qiR (n+1) _ _ (.ref a) ox oy (by simp only[Den];exact⟨a,its,rfl,p,d⟩) (by simp only[Den];exact⟨a,its,rfl,p,d'⟩)
     rw[<-e,qfW _ ⟨_,ox⟩];exact EqAt.same _
   refine EqAt.of_refs ha ?_;rw[eqR,<-qc9,d.length,d'.length];have:=RcAt.tuples p p' hu0 (item xs ys its its' ox oy d d');simpa using this
  have same_EqAt_ls:∀ (xs ys:List RV) (a a':Addr) (its its':List Value),s.heap.IsList a its.toArray->s.heap.IsList a' its'.toArray->Dens s.heap xs its->Dens s.heap ys its'->okR (n+1) (.ls xs)=true->okR (n+1) (.ls ys)=true->EqAt A s (.ref a) (.ref a') (eqR (RV.ls xs) (RV.ls ys)):=by
   intro xs ys a a' its its' p p' d d' ox oy
   by_cases ha:a=a'
   · subst ha
     obtain rfl:=qlY p p';have e:RV.ls xs=RV.ls ys:=qiR (n+1) _ _ (.ref a) ox oy (by simp only[Den];exact⟨a,its,rfl,p,d⟩) (by simp only[Den];exact⟨a,its,rfl,p,d'⟩)
     rw[<-e,qfW _ ⟨_,ox⟩];exact EqAt.same _
   refine EqAt.of_refs ha ?_;rw[eqR]
   by_cases hz:xs.length=ys.length
   · rw[<-qev hz,d.length]
     have:=RcAt.lists p p' (by simp[<-d.length,<-d'.length,hz]) hu0 (item xs ys its its' ox oy d d')
     simpa using this
   · rw[qc8 hz]
     exact RcAt.lists_lengths p p' (by simp[<-d.length,<-d'.length,hz]) hu0
  cases x<;>cases y<;>first|(simp only[Den]at dx;done)|(simp only[Den]at dy;done)|(simp only[Den]at dx dy;(first|subst dx|obtain⟨t1,rfl⟩:=dx|obtain⟨a1,its1,rfl,p1,d1⟩:=dx);(first|subst dy|obtain⟨t2,rfl⟩:=dy|obtain⟨a2,its2,rfl,p2,d2⟩:=dy);first|with_reducible exact same_EqAt_tup _ _ _ _ _ _ p1 p2 d1 d2 ox oy|with_reducible exact same_EqAt_ls _ _ _ _ _ _ p1 p2 d1 d2 ox oy|(simp only[eqR,Bool.not_false,Bool.not_true];with_reducible first|exact EqAt.same _|exact EqAt.none_bool _|exact EqAt.none_int _ _|exact EqAt.none_str _ _|exact EqAt.bool_none _|exact EqAt.bool_bool _ _|exact EqAt.bool_int _ _ _|exact EqAt.bool_str _ _ _|exact EqAt.int_none _ _|exact EqAt.int_bool _ _ _|exact EqAt.int_int _ _ _ _|exact EqAt.int_str _ _ _ _|exact EqAt.str_none _ _|exact EqAt.str_bool _ _ _|exact EqAt.str_int _ _ _ _|exact EqAt.str_str _ _ _ _|exact EqAt.tuple_none p1 hu0|exact EqAt.tuple_bool _ p1 hu0|exact EqAt.tuple_int _ _ p1 hu0|exact EqAt.tuple_str _ _ p1 hu0|exact EqAt.list_none p1 hu0|exact EqAt.list_bool _ p1 hu0|exact EqAt.list_int _ _ p1 hu0|exact EqAt.list_str _ _ p1 hu0|exact EqAt.none_tuple p2 hu0|exact EqAt.bool_tuple _ p2 hu0|exact EqAt.int_tuple _ _ p2 hu0|exact EqAt.str_tuple _ _ p2 hu0|exact EqAt.none_list p2 hu0|exact EqAt.bool_list _ p2 hu0|exact EqAt.int_list _ _ p2 hu0|exact EqAt.str_list _ _ p2 hu0|exact EqAt.tuple_list p1 p2 hu0|exact EqAt.list_tuple p1 p2 hu0))
theorem qe6(n:Nat)(x y:RV)(A:Around)(s:Shared)(u w:Value)(ox:okR (n+1) x=true)(oy:okR (n+1) y=true)(dx:Den s.heap x u)(dy:Den s.heap y w)(hu:A.units+(n+1)<cLine):RcNeAt A s u w (!eqR x y):=by
 have hu0:A.units<cLine:=by omega
 have item:∀ (xs ys:List RV) (us ws:List Value),xs.all (okR n)=true->ys.all (okR n)=true->Dens s.heap xs us->Dens s.heap ys ws->
  ∀ j (j1:j<us.toArray.size) (j2:j<ws.toArray.size),EqAt A.in1 s us.toArray[j] ws.toArray[j] (qij xs ys j):=fun xs ys us ws o1 o2 d1 d2 j j1 j2=>by
  obtain⟨a1,b1⟩:=d1.get (j:=j) (u:=us.toArray[j]) (by simp)
  obtain⟨a2,b2⟩:=d2.get (j:=j) (u:=ws.toArray[j]) (by simp)
  exact qfX n _ _ A.in1 s _ _ (wak.mp o1 _ b1) (wak.mp o2 _ b2) a1 a2 (by rw[in1_units];omega)
 have same_RcNeAt_tup:∀ (xs ys:List RV) (a a':Addr) (its its':List Value),s.heap.IsTuple a its.toArray->s.heap.IsTuple a' its'.toArray->Dens s.heap xs its->Dens s.heap ys its'->okR (n+1) (.tup xs)=true->okR (n+1) (.tup ys)=true->RcNeAt A s (.ref a) (.ref a') (!eqR (RV.tup xs) (RV.tup ys)):=by
  intro xs ys a a' its its' p p' d d' ox oy;rw[eqR,<-qc9,d.length,d'.length];have:=RcNeAt.tuples p p' hu0 (item xs ys its its' ox oy d d');simpa using this
 have same_RcNeAt_ls:∀ (xs ys:List RV) (a a':Addr) (its its':List Value),s.heap.IsList a its.toArray->s.heap.IsList a' its'.toArray->Dens s.heap xs its->Dens s.heap ys its'->okR (n+1) (.ls xs)=true->okR (n+1) (.ls ys)=true->RcNeAt A s (.ref a) (.ref a') (!eqR (RV.ls xs) (RV.ls ys)):=by
  intro xs ys a a' its its' p p' d d' ox oy;rw[eqR]
  by_cases hz:xs.length=ys.length
  · rw[<-qev hz,d.length]
    have:=RcNeAt.lists p p' (by simp[<-d.length,<-d'.length,hz]) hu0 (item xs ys its its' ox oy d d')
    simpa using this
  · rw[qc8 hz]
    exact RcNeAt.lists_lengths p p' (by simp[<-d.length,<-d'.length,hz]) hu0
 cases x<;>cases y<;>first|(simp only[Den]at dx;done)|(simp only[Den]at dy;done)|(simp only[Den]at dx dy;(first|subst dx|obtain⟨t1,rfl⟩:=dx|obtain⟨a1,its1,rfl,p1,d1⟩:=dx);(first|subst dy|obtain⟨t2,rfl⟩:=dy|obtain⟨a2,its2,rfl,p2,d2⟩:=dy);first|with_reducible exact same_RcNeAt_tup _ _ _ _ _ _ p1 p2 d1 d2 ox oy|with_reducible exact same_RcNeAt_ls _ _ _ _ _ _ p1 p2 d1 d2 ox oy|(simp only[eqR,Bool.not_false,Bool.not_true];with_reducible first|exact RcNeAt.none_none|exact RcNeAt.none_bool _|exact RcNeAt.none_int _ _|exact RcNeAt.none_str _ _|exact RcNeAt.bool_none _|exact RcNeAt.bool_bool _ _|exact RcNeAt.bool_int _ _ _|exact RcNeAt.bool_str _ _ _|exact RcNeAt.int_none _ _|exact RcNeAt.int_bool _ _ _|exact RcNeAt.int_int _ _ _ _|exact RcNeAt.int_str _ _ _ _|exact RcNeAt.str_none _ _|exact RcNeAt.str_bool _ _ _|exact RcNeAt.str_int _ _ _ _|exact RcNeAt.str_str _ _ _ _|exact RcNeAt.tuple_none p1 hu0|exact RcNeAt.tuple_bool _ p1 hu0|exact RcNeAt.tuple_int _ _ p1 hu0|exact RcNeAt.tuple_str _ _ p1 hu0|exact RcNeAt.list_none p1 hu0|exact RcNeAt.list_bool _ p1 hu0|exact RcNeAt.list_int _ _ p1 hu0|exact RcNeAt.list_str _ _ p1 hu0|exact RcNeAt.none_tuple p2 hu0|exact RcNeAt.bool_tuple _ p2 hu0|exact RcNeAt.int_tuple _ _ p2 hu0|exact RcNeAt.str_tuple _ _ p2 hu0|exact RcNeAt.none_list p2 hu0|exact RcNeAt.bool_list _ p2 hu0|exact RcNeAt.int_list _ _ p2 hu0|exact RcNeAt.str_list _ _ p2 hu0|exact RcNeAt.tuple_list p1 p2 hu0|exact RcNeAt.list_tuple p1 p2 hu0))
theorem qnL(n:Nat)(x y:RV)(A:Around)(s:Shared)(u w:Value)(ox:okR (n+1) x=true)(oy:okR (n+1) y=true)(dx:Den s.heap x u)(dy:Den s.heap y w)(hu:A.units+(n+1)<cLine):RcAt A s u w (eqR x y):=by
 have hu0:A.units<cLine:=by omega
 have item:∀ (xs ys:List RV) (us ws:List Value),xs.all (okR n)=true->ys.all (okR n)=true->Dens s.heap xs us->Dens s.heap ys ws->
  ∀ j (j1:j<us.toArray.size) (j2:j<ws.toArray.size),EqAt A.in1 s us.toArray[j] ws.toArray[j] (qij xs ys j):=fun xs ys us ws o1 o2 d1 d2 j j1 j2=>by
  obtain⟨a1,b1⟩:=d1.get (j:=j) (u:=us.toArray[j]) (by simp)
  obtain⟨a2,b2⟩:=d2.get (j:=j) (u:=ws.toArray[j]) (by simp)
  exact qfX n _ _ A.in1 s _ _ (wak.mp o1 _ b1) (wak.mp o2 _ b2) a1 a2 (by rw[in1_units];omega)
 have same_RcAt_tup:∀ (xs ys:List RV) (a a':Addr) (its its':List Value),s.heap.IsTuple a its.toArray->s.heap.IsTuple a' its'.toArray->Dens s.heap xs its->Dens s.heap ys its'->okR (n+1) (.tup xs)=true->okR (n+1) (.tup ys)=true->RcAt A s (.ref a) (.ref a') (eqR (RV.tup xs) (RV.tup ys)):=by
  intro xs ys a a' its its' p p' d d' ox oy;rw[eqR,<-qc9,d.length,d'.length];have:=RcAt.tuples p p' hu0 (item xs ys its its' ox oy d d');simpa using this
 have same_RcAt_ls:∀ (xs ys:List RV) (a a':Addr) (its its':List Value),s.heap.IsList a its.toArray->s.heap.IsList a' its'.toArray->Dens s.heap xs its->Dens s.heap ys its'->okR (n+1) (.ls xs)=true->okR (n+1) (.ls ys)=true->RcAt A s (.ref a) (.ref a') (eqR (RV.ls xs) (RV.ls ys)):=by
  intro xs ys a a' its its' p p' d d' ox oy;rw[eqR]
  by_cases hz:xs.length=ys.length
  · rw[<-qev hz,d.length]
    have:=RcAt.lists p p' (by simp[<-d.length,<-d'.length,hz]) hu0 (item xs ys its its' ox oy d d')
    simpa using this
  · rw[qc8 hz]
    exact RcAt.lists_lengths p p' (by simp[<-d.length,<-d'.length,hz]) hu0
 cases x<;>cases y<;>first|(simp only[Den]at dx;done)|(simp only[Den]at dy;done)|(simp only[Den]at dx dy;(first|subst dx|obtain⟨t1,rfl⟩:=dx|obtain⟨a1,its1,rfl,p1,d1⟩:=dx);(first|subst dy|obtain⟨t2,rfl⟩:=dy|obtain⟨a2,its2,rfl,p2,d2⟩:=dy);first|with_reducible exact same_RcAt_tup _ _ _ _ _ _ p1 p2 d1 d2 ox oy|with_reducible exact same_RcAt_ls _ _ _ _ _ _ p1 p2 d1 d2 ox oy|(simp only[eqR,Bool.not_false,Bool.not_true];with_reducible first|exact RcAt.none_none|exact RcAt.none_bool _|exact RcAt.none_int _ _|exact RcAt.none_str _ _|exact RcAt.bool_none _|exact RcAt.bool_bool _ _|exact RcAt.bool_int _ _ _|exact RcAt.bool_str _ _ _|exact RcAt.int_none _ _|exact RcAt.int_bool _ _ _|exact RcAt.int_int _ _ _ _|exact RcAt.int_str _ _ _ _|exact RcAt.str_none _ _|exact RcAt.str_bool _ _ _|exact RcAt.str_int _ _ _ _|exact RcAt.str_str _ _ _ _|exact RcAt.tuple_none p1 hu0|exact RcAt.tuple_bool _ p1 hu0|exact RcAt.tuple_int _ _ p1 hu0|exact RcAt.tuple_str _ _ p1 hu0|exact RcAt.list_none p1 hu0|exact RcAt.list_bool _ p1 hu0|exact RcAt.list_int _ _ p1 hu0|exact RcAt.list_str _ _ p1 hu0|exact RcAt.none_tuple p2 hu0|exact RcAt.bool_tuple _ p2 hu0|exact RcAt.int_tuple _ _ p2 hu0|exact RcAt.str_tuple _ _ p2 hu0|exact RcAt.none_list p2 hu0|exact RcAt.bool_list _ p2 hu0|exact RcAt.int_list _ _ p2 hu0|exact RcAt.str_list _ _ p2 hu0|exact RcAt.tuple_list p1 p2 hu0|exact RcAt.list_tuple p1 p2 hu0))
section
variable {X:Cx}
theorem qo7{f:Value->Value->Sem Value}{r:R2}{rr:RR2}(h:OpR X f r)(ri:∀ (i j:Int) M Q (H:Hp) (Q0:VK),rr (.int i) (.int j) M Q->(∀ z:RV,Q z M->∀ v,Rep X.K H z v->Q0 v H)->r (.int i) (.int j) H Q0)
 (no:∀ x y M Q,rr x y M Q->∃ i j,x= .int i/\y= .int j):ROp X f rr:=by
 intro pins s σ H x y v u Q0 I rx ry h';obtain⟨a,b,M,Q,ra,rb,hv,hq,hk⟩:=h';obtain⟨i,j,rfl,rfl⟩:=no a b M Q hq;simp only[Rep]at ra rb;subst ra;subst rb;exact h pins s σ H _ _ v u Q0 I rx ry (ri i j M Q H Q0 hq fun z q v' rz=>hk z M v' H q (.refl H) hv rz)
def qlv(C:Int->Int->Prop)(g:Int->Int->RV):RR2:=fun x y M Q=>match x,y with| .int i,.int j=>C i j/\Q (g i j) M|_,_=>False
def qig(g:Int->Int->RV):RR2:=fun x y M Q=>match x,y with| .int i,.int j=>Q (g i j) M|_,_=>False
theorem qfC{C:Int->Int->Prop}{g:Int->Int->RV}(x y:RV)(M:RM)(Q:RVK)(h:qlv C g x y M Q):∃ i j,x= .int i/\y= .int j:=by
 unfold qlv at h;split at h
 · exact⟨_,_,rfl,rfl⟩
 · exact h.elim
theorem qct{g:Int->Int->RV}(x y:RV)(M:RM)(Q:RVK)(h:qig g x y M Q):∃ i j,x= .int i/\y= .int j:=by
 unfold qig at h;split at h
 · exact⟨_,_,rfl,rfl⟩
 · exact h.elim
abbrev qAo:RR2:=qig fun i j=>.int (i-j)
theorem qDi:ROp X (binaryOp .Sub) qAo:=qo7 qtP (fun i j M Q H Q0 h k=>⟨i,j,rfl,rfl,k _ h _ (by simp only[Rep])⟩) qct
abbrev qAy:RR2:=qlv (fun _ j=>0<j) fun i j=>.int (i % j)
theorem qDn:ROp X (binaryOp .Mod) qAy:=qo7 qtT (fun i j M Q H Q0 h k=>⟨i,j,rfl,rfl,h.1,k _ h.2 _ (by simp only[Rep])⟩) qfC
abbrev qAH:RR2:=qlv (fun _ j=>0<j/\j<1073741824) fun i j=>.int (i / j)
theorem qDq:ROp X (binaryOp .FloorDiv) qAH:=qo7 qqS (fun i j M Q H Q0 h k=>⟨i,j,rfl,rfl,h.1,k _ h.2 _ (by simp only[Rep])⟩) qfC
abbrev qAr:RR2:=qlv (fun i j=>0<=j/\j<=1000000/\i.natAbs<2 ^ 64) fun i j=>.int (i ^ j.toNat)
theorem qDk:ROp X (binaryOp .Pow) qAr:=qo7 qtR (fun i j M Q H Q0 h k=>⟨i,j,rfl,rfl,h.1,k _ h.2 _ (by simp only[Rep])⟩) qfC
abbrev rLt:RR2:=qig fun i j=>.bl (decide (i<j))
theorem olt:ROp X (compareOp .Lt) rLt:=qo7 qxc (fun i j M Q H Q0 h k=>⟨i,j,rfl,rfl,k _ h _ (by simp only[Rep])⟩) qct
abbrev rLe:RR2:=qig fun i j=>.bl (decide (i<=j))
theorem ole:ROp X (compareOp .LtE) rLe:=qo7 qxd (fun i j M Q H Q0 h k=>⟨i,j,rfl,rfl,k _ h _ (by simp only[Rep])⟩) qct
abbrev rGt:RR2:=qig fun i j=>.bl (decide (j<i))
theorem ogt:ROp X (compareOp .Gt) rGt:=qo7 qxe (fun i j M Q H Q0 h k=>⟨i,j,rfl,rfl,k _ h _ (by simp only[Rep])⟩) qct
abbrev rGe:RR2:=qig fun i j=>.bl (decide (j<=i))
theorem oge:ROp X (compareOp .GtE) rGe:=qo7 qxf (fun i j M Q H Q0 h k=>⟨i,j,rfl,rfl,k _ h _ (by simp only[Rep])⟩) qct
noncomputable def qAx:RR2:=fun x y M Q=>match x,y with
 | .int i,.int j=>CMul i j/\Q (.int (i*j)) M
 | .ref a,.int k=>∃ xs,M a=some (.lst xs)/\-(2 ^ 63)<=k/\k<2 ^ 63/\xs.length*k.toNat<=sizeLine/\Q (.ls (List.replicate k.toNat xs).flatten) M
 |_,_=>False
theorem qgz{K:Frg}{H:Hp}{xs:List RV}{vs:List V}(r:Reps K H xs vs):∀ n:Nat,Reps K H (List.replicate n xs).flatten (List.replicate n vs).flatten
 |0=>by simpa using Reps.nil
 |n+1=>by
  rw[waI,waR,waI,waR];exact r.append (qgz r n)
theorem qDm:ROp X (binaryOp .Mult) qAx:=by
 intro pins s σ H x y v u Q0 I rx ry h;obtain⟨a,b,M,Q,ra,rb,hv,hq,hk⟩:=h;cases a with
 |int i=>
  cases b with
  |int j=>simp only[Rep]at ra rb;exact qtS pins s σ H x y v u Q0 I rx ry ⟨i,j,ra,rb,hq.1,hk _ M _ H hq.2 (.refl H) hv (by simp only[Rep])⟩
  |_=>exact(show False from hq).elim
 |ref p=>
  cases b with
  |int k=>
   simp only[Rep]at ra rb;obtain⟨xs,hm,h1,h2,h3,h4⟩:=hq;obtain⟨ho,e,r⟩:=hv p _ hm;obtain⟨vs,rfl,rr⟩:=r;refine thn (qtQ pins s σ H x y v u (fun v H'=>∃ H1 p xs,v= .ref p/\H1 p=none/\H'=upd H1 p (.lst xs)/\∀ o,Q0 (.ref p) (upd H1 p (.frz o (.lst xs)))) I rx ry ⟨p,k,vs,ra,rb,e,h1,h2,by rw[<-rr.length];exact h3,fun q hq=>⟨H,q,_,rfl,hq,rfl,fun o=>?_⟩⟩) fun _ _ e=>frozen e
   exact hk _ M _ _ h4 (Ext.new hq) (hv.new hq) (qcb hq (qgz rr _))
  |_=>exact(show False from hq).elim
 |_=>cases b<;>exact(show False from hq).elim
noncomputable def qAJ:RR2:=fun x y M Q=>match x,y with
 | .int i,.int j=>Q (.int (i+j)) M
 | .str i,.str j=>i.length+j.length<=sizeLine/\Q (.str (i++j)) M
 | .tup xs,.tup ys=>xs.length+ys.length<=sizeLine/\Q (.tup (xs++ys)) M
 | .ls xs,.ls ys=>xs.length+ys.length<=sizeLine/\Q (.ls (xs++ys)) M
 |_,_=>False
theorem qoM{prog:Program}{w:World}{A:Around}{E:Value->Shared->Prop}{s:Shared}{t b:Addr}{ws:List Value}{Q:Value->Shared->Prop}(ht:IsTup s.heap t ([]:List Value).toArray)(hb:IsTup s.heap b ws.toArray)(h:Q (.ref b) s):
 wpAny (model prog w) A (binaryOp .Add (.ref t) (.ref b)) Q E s:=by
 obtain⟨⟨cls,dd,data,sl⟩,ho,hc,n,hd⟩:=id ht;obtain⟨⟨cls2,dd2,data2,sl2⟩,ho2,hc2,n2,hd2⟩:=id hb;simp only at hc hd hc2 hd2;subst hc hd hc2 hd2;exact concat_meets ⟨_,ho,rfl⟩ ⟨_,ho2,rfl⟩ noFill_tuple_add seq_tuple_add PySem.F.slot_tuple_add PySem.F.entry_tuple_add (PySem.F.args_tuple_add_2 _ _)
  (tuple_addW0 t b [].toArray ws.toArray n n2 dd dd2 sl sl2 (by simp)) ⟨ho,ho2,h⟩
theorem qrR{prog:Program}{w:World}{A:Around}{E:Value->Shared->Prop}{s:Shared}{l b:Addr}{vs ws:List Value}{Q:Value->Shared->Prop}(hl:s.heap.IsList l vs.toArray)(hb:s.heap.IsList b ws.toArray)
 (h:Q (.ref s.heap.objs.size) { s with heap:=s.heap.push { cls:=.type "list",data:=.seq (vs++ws).toArray } }) (hsz:vs.length+ws.length<=sizeLine):
 wpAny (model prog w) A (binaryOp .Add (.ref l) (.ref b)) Q E s:=by
 obtain⟨⟨cls,dd,data,sl⟩,ho,hc,n,hd⟩:=id hl;obtain⟨⟨cls2,dd2,data2,sl2⟩,ho2,hc2,n2,hd2⟩:=id hb;simp only at hc hd hc2 hd2;subst hc hd hc2 hd2;have e:vs.toArray++ws.toArray=(vs++ws).toArray:=by simp
 refine concat_meets ⟨_,ho,rfl⟩ ⟨_,ho2,rfl⟩ noFill_list_add seq_list_add PySem.F.slot_list_add PySem.F.entry_list_add (PySem.F.args_list_add_2 _ _) (list_addW l b vs.toArray ws.toArray n n2 dd dd2 sl sl2 (by simpa using hsz)) ⟨ho,ho2,?_⟩
 rw[e];exact h
theorem qDr:ROp X (binaryOp .Add) qAJ:=by
 intro pins s σ H x y v u Q0 I rx ry h;obtain⟨a,b,M,Q,ra,rb,hv,hq,hk⟩:=h;cases a with
 |int i=>
  cases b with
  |int j=>simp only[Rep]at ra rb;exact qtV pins s σ H x y v u Q0 I rx ry ⟨i,j,ra,rb,hk _ M _ H hq (.refl H) hv (by simp only[Rep])⟩
  |_=>exact(show False from hq).elim
 |str i=>
  cases b with
  |str j=>simp only[Rep]at ra rb;exact qj3 pins s σ H x y v u Q0 I rx ry ⟨i,j,ra,rb,hq.1,hk _ M _ H hq.2 (.refl H) hv (by simp only[Rep])⟩
  |_=>exact(show False from hq).elim
 |tup xs=>
  cases b with
  |tup ys=>
   obtain⟨hz,hq⟩:=hq;simp only[Rep]at ra rb;obtain⟨p,vs,rfl,hp,hr⟩:=ra;obtain⟨q,ws,rfl,hp2,hr2⟩:=rb
   by_cases hn:vs= []
   · subst hn
     have hx:xs= []:=by have:=hr.length;simpa using this
     subst hx;cases rx;cases ry;obtain⟨its,r1,p1,_⟩:=I.tuple (SqT.of hp);obtain⟨its2,r2,p2,_⟩:=I.tuple (SqT.of hp2);cases r1;exact qoM p1 p2 ⟨.ref q,H,I,rfl,hk _ M _ H hq (.refl H) hv (by simp only[Rep,waD];exact⟨q,ws,rfl,hp2,hr2⟩)⟩
   · refine qqT pins s σ H _ _ v u Q0 I rx ry ⟨p,q,vs,ws,rfl,rfl,hp,hp2,hn,by rw[<-hr.length,<-hr2.length];exact hz,fun e=>?_,fun e l hl=>?_⟩
     · subst e
       have hy:ys= []:=by have:=hr2.length;simpa using this
       subst hy;exact hk _ M _ H hq (.refl H) hv (by simp only[Rep,waP];exact⟨p,vs,rfl,hp,hr⟩)
     · exact hk _ M _ _ hq (Ext.new hl) (hv.new hl) (qcY hl (hr.append hr2))
  |_=>exact(show False from hq).elim
 |ls xs=>
  cases b with
  |ls ys=>
   obtain⟨hz,hq⟩:=hq;simp only[Rep]at ra rb;obtain⟨p,vs,rfl,hp,hr⟩:=ra;obtain⟨q,ws,rfl,hp2,hr2⟩:=rb;cases rx;cases ry;obtain⟨its,r1,p1,z1⟩:=I.list hp.sq;obtain⟨its2,r2,p2,z2⟩:=I.list hp2.sq;have hz':vs.length+ws.length<=sizeLine:=by rw[<-hr.length,<-hr2.length];exact hz
   refine thn (qrR (Q:=EP X pins σ (fun v H'=>∃ H1 p xs,v= .ref p/\H1 p=none/\H'=upd H1 p (.lst xs)/\∀ o,Q0 (.ref p) (upd H1 p (.frz o (.lst xs))))) p1.isList p2.isList ?_ (by rw[<-r1.length,<-r2.length];exact hz')) fun _ _ e=>frozen e
   have hf:=I.hok.fresh (wac s.heap.objs.size);refine⟨.ref s.heap.objs.size,upd H s.heap.objs.size (.lst (vs++ws)),I.laid (t':=s.toks) (fun b ob q=>Heap.get?_push_of_some _ q) (wac _) ?_,rfl,H,_,_,rfl,hf,rfl,fun o=>?_⟩
   · exact⟨by rw[wao];exact hz',_,0,r1.append r2,Heap.get?_push_size _ rfl⟩
   · exact hk _ M _ _ hq (Ext.new hf) (hv.new hf) (qcb hf (hr.append hr2))
  |_=>exact(show False from hq).elim
 |_=>cases b<;>exact(show False from hq).elim
def qDd:RR2:=fun x y M Q=>okR 16 x=true/\okR 16 y=true/\Q (.bl (!eqR x y)) M
theorem one(hu:X.A.units+64<cLine):ROp X (compareOp .NotEq) qDd:=by
 intro pins s σ H x y v u Q0 I rx ry h;obtain⟨a,b,M,Q,ra,rb,hv,⟨o1,o2,hq⟩,hk⟩:=h;exact qe6 15 a b X.A s v u o1 o2 (qbD I 16 a x v o1 ra rx) (qbD I 16 b y u o2 rb ry) (by omega) _ _ _ _ ⟨.bl (!eqR a b),H,I,rfl,hk _ M _ H hq (.refl H) hv (by simp only[Rep])⟩
def isN:RV->Bool
 | .non=>true
 |_=>false
theorem qmh{K:Frg}{H:Hp}:∀ {a:RV} {x:V},Rep K H a x->decide (x= .non)=isN a:=by
 intro a x h;cases a with
 |tup xs=>simp only[Rep]at h;obtain⟨p,vs,rfl,_⟩:=h;simp[isN]
 |ls xs=>simp only[Rep]at h;obtain⟨p,vs,rfl,_⟩:=h;simp[isN]
 |_=>simp only[Rep]at h;subst h;simp[isN]
def rIs:RR2:=fun x y M Q=>match y with| .non=>Q (.bl (isN x)) M|_=>False
def qpd:RR2:=fun x y M Q=>match y with| .non=>Q (.bl (!isN x)) M|_=>False
theorem ois:ROp X (compareOp .Is) rIs:=by
 intro pins s σ H x y v u Q0 I rx ry h;obtain⟨a,b,M,Q,ra,rb,hv,hq,hk⟩:=h;cases b with
 |non=>simp only[Rep]at rb;exact qtU pins s σ H x y v u Q0 I rx ry ⟨rb,by rw[qmh ra];exact hk _ M _ H hq (.refl H) hv (by simp only[Rep])⟩
 |_=>exact(show False from hq).elim
theorem qt0:ROp X (compareOp .IsNot) qpd:=by
 intro pins s σ H x y v u Q0 I rx ry h;obtain⟨a,b,M,Q,ra,rb,hv,hq,hk⟩:=h;cases b with
 |non=>simp only[Rep]at rb;exact qqR pins s σ H x y v u Q0 I rx ry ⟨rb,by rw[qmh ra];exact hk _ M _ H hq (.refl H) hv (by simp only[Rep])⟩
 |_=>exact(show False from hq).elim
noncomputable def rIx:RR2:=fun x y M Q=>match x,y with
 | .tup xs,.int i=>match atI xs i with|some v=>Q v M|none=>False
 | .ls xs,.int i=>match atI xs i with|some v=>Q v M|none=>False
 | .ref a,.int i=>match M a with
  |some (.lst xs)=>match atI xs i with|some v=>Q v M|none=>False
  |_=>False
 | .str z,.int i=>z.length<=sizeLine/\match atI z.cps.toList i with|some c=>Q (.str ⟨#[c]⟩) M|none=>False
 |_,_=>False
theorem oix:IxR X (upO X.K rIx):=by
 intro value slice pins s σ H x y v u Q0 I rx ry h hs;obtain⟨a,b,M,Q,ra,rb,hv,hq,hk⟩:=h;cases b with
 |int i=>
  simp only[Rep]at rb;cases a with
  |tup xs=>
   simp only[Rep]at ra;obtain⟨p,vs,rfl,hp,hr⟩:=ra;simp only[rIx]at hq;cases e:atI xs i with
   |none=>rw[e]at hq;exact hq.elim
   |some z=>
    rw[e]at hq;obtain⟨w,e1,r1⟩:=hr.atI e;exact quu value slice pins s σ H _ y v u Q0 I rx ry ⟨p,vs,i,w,rfl,rb,hp,e1,hk _ M _ H hq (.refl H) hv r1⟩ hs
  |ls xs=>
   simp only[Rep]at ra;obtain⟨p,vs,rfl,hp,hr⟩:=ra;simp only[rIx]at hq;cases e:atI xs i with
   |none=>rw[e]at hq;exact hq.elim
   |some z=>
    rw[e]at hq;obtain⟨w,e1,r1⟩:=hr.atI e;exact qmd value slice pins s σ H _ y v u Q0 I rx ry ⟨p,vs,i,w,rfl,rb,hp.sq,e1,hk _ M _ H hq (.refl H) hv r1⟩ hs
  |ref p=>
   simp only[Rep]at ra;simp only[rIx]at hq;split at hq
   · rename_i xs em
     obtain⟨ho,e,r⟩:=hv p _ em;obtain⟨vs,rfl,hr⟩:=r;cases e2:atI xs i with
     |none=>rw[e2]at hq;exact hq.elim
     |some z=>
      rw[e2]at hq;obtain⟨w,e1,r1⟩:=hr.atI e2;exact qmd value slice pins s σ H x y v u Q0 I rx ry ⟨p,vs,i,w,ra,rb,SqL.of e,e1,hk _ M _ H hq (.refl H) hv r1⟩ hs
   · exact hq.elim
  |str z=>
   simp only[Rep]at ra;simp only[rIx]at hq;obtain⟨hz,hq⟩:=hq;cases e:atI z.cps.toList i with
   |none=>rw[e]at hq;exact hq.elim
   |some c=>
    rw[e]at hq;exact quv value slice pins s σ H x y v u Q0 I rx ry ⟨z,i,c,ra,rb,hz,e,hk _ M _ H hq (.refl H) hv (by simp only[Rep])⟩ hs
  |_=>exact(show False from hq).elim
 |_=>cases a<;>exact(show False from hq).elim
theorem rix{a b:Expr}{ta tb:RTE}{pos:Pos}(ha:RPE X a ta)(hb:RPE X b tb)(hs:qm8 b:=by intro _ _;rfl):RPE X (.Subscript a b pos) (rOp rIx ta tb):=PE.imp (qw8 oix ha hb hs) fun _ _ _ h=>qfv h
noncomputable def qif:qoX:=fun o i v M Q=>match o,i with
 | .ref p,.int k=>match M p with
  |some (.lst xs)=>match ixN xs.length k with|some j=>Q (put M p (.lst (xs.set j v)))|none=>False
  |_=>False
 |_,_=>False
theorem qxb:qvO X (qsr X.K qif):=by
 intro pins s σ H o i v ov iv u Q0 I ro ri rv h;obtain⟨a,b,c,M,Q,ra,rb,rc,hv,hq,hk⟩:=h;cases a with
 |ref p=>
  cases b with
  |int k=>
   simp only[Rep]at ra rb;simp only[qif]at hq;split at hq
   · rename_i xs em
     obtain⟨ho,e,r⟩:=hv p _ em;obtain⟨vs,rfl,hr⟩:=r;cases e2:ixN xs.length k with
     |none=>rw[e2]at hq;exact hq.elim
     |some j=>
      rw[e2]at hq;have ex:Ext H (upd H p (.lst (vs.set j v))):=Ext.write e rfl;exact set_list pins s σ H o i v ov iv u Q0 I ro ri rv ⟨p,vs,k,j,ra,rb,e,by rw[<-hr.length];exact e2,hk _ _ hq ex (hv.write em ⟨_,rfl,Reps.ext ex _ _ (hr.set rc j)⟩)⟩
   · exact hq.elim
  |_=>exact(show False from hq).elim
 |_=>cases b<;>exact(show False from hq).elim
def upC(K:Frg)(r:List RV->RM->RVK->Prop):List V->Hp->VK->Prop:=fun vs H Q0=>∃ rs M Q,Reps K H rs vs/\View K H M/\r rs M Q/\UpK K H Q Q0
def qeP(r:List RV->RM->RVK->Prop)(t:RTA):RTE:=fun σ M Q=>t σ M fun rs M1=>r rs M1 Q
theorem qgE{K:Frg}{r:List RV->RM->RVK->Prop}{t:RTA}{σ0:L2.St}{H:Hp}{Q0:VK}(h:up K (qeP r t) σ0 H Q0):tCB (upC K r) (upA K t) σ0 H Q0:=by
 obtain⟨σ,M,Q,hs,hv,ht,hk⟩:=h;exact⟨σ,M,_,hs,hv,ht,fun rs M1 vs H1 q e1 v1 r1=>⟨rs,M1,Q,r1,v1,q,hk.ext e1⟩⟩
variable {x:Str}{p pos:Pos}{e:Expr}{es:List Expr}{t:RTA}{id T:String}{r:List RV->RM->RVK->Prop}
theorem qe5(hc:CallR X (.builtin id) (upC X.K r))(hm:X.mg x=none)(hv:bootBuiltins x=some (.builtin id))(ha:RPA X (e::es) t)(hg:Gl X x:=by rfl)(hn:x≠"__name__":=by decide)(hdb:(x==("__debug__":Str))=false:=by decide)
 (he:starEach (e::es) X.env=(false,eval e X.env)::starEach es X.env:=by rfl) (hpl:(backTo pos (starEach es X.env)).any (·.1)=false:=by rfl):RPE X (.Call (.Name x p) (e::es) [] pos) (qeP r t):=
 PE.imp (qn7 hc hg hm hv ha hn hdb he hpl) fun _ _ _ h=>qgE h
theorem qo9(hc:CallR X (.type T) (upC X.K r))(hm:X.mg x=none)(hv:bootBuiltins x=some (.type T))(ha:RPA X (e::es) t)(hg:Gl X x:=by rfl)(hn:x≠"__name__":=by decide)(hdb:(x==("__debug__":Str))=false:=by decide)
 (he:starEach (e::es) X.env=(false,eval e X.env)::starEach es X.env:=by rfl) (hpl:(backTo pos (starEach es X.env)).any (·.1)=false:=by rfl):RPE X (.Call (.Name x p) (e::es) [] pos) (qeP r t):=
 PE.imp (qlI hc hg hm hv ha hn hdb he hpl) fun _ _ _ h=>qgE h
theorem Reps.one{K:Frg}{H:Hp}{x:RV}{vs:List V}(h:Reps K H [x] vs):∃ v,vs= [v]/\Rep K H x v:=by
 simp only[Reps]at h;obtain⟨v,r,rfl,h1,rfl⟩:=h;exact⟨v,rfl,h1⟩
theorem Reps.two{K:Frg}{H:Hp}{x y:RV}{vs:List V}(h:Reps K H [x,y] vs):∃ v w,vs= [v,w]/\Rep K H x v/\Rep K H y w:=by
 simp only[Reps]at h;obtain⟨v,r,rfl,h1,w,r',rfl,h2,rfl⟩:=h;exact⟨v,w,rfl,h1,h2⟩
noncomputable def qvC:List RV->RM->RVK->Prop:=fun rs M Q=>match rs with
 | [.tup xs]=>Q (.int xs.length) M
 | [.ls xs]=>Q (.int xs.length) M
 | [.str z]=>z.length<=sizeLine/\Q (.int z.length) M
 | [.ref a]=>match M a with|some (.lst xs)=>Q (.int xs.length) M|_=>False
 |_=>False
theorem qAT:CallR X (.builtin "len") (upC X.K qvC):=by
 intro pins s σ H xs us Q0 I rl h;obtain⟨rs,M,Q,rr,hv,hq,hk⟩:=h;unfold qvC at hq;split at hq
 · rename_i ys
   obtain⟨v,rfl,r1⟩:=rr.one;simp only[Rep]at r1;obtain⟨q,vs,rfl,hp,hr⟩:=r1;exact qb0 pins s σ H _ us Q0 I rl ⟨q,vs,rfl,.inr hp,by rw[<-hr.length];exact hk _ M _ H hq (.refl H) hv (by simp only[Rep])⟩
 · rename_i ys
   obtain⟨v,rfl,r1⟩:=rr.one;simp only[Rep]at r1;obtain⟨q,vs,rfl,hp,hr⟩:=r1;exact qb0 pins s σ H _ us Q0 I rl ⟨q,vs,rfl,.inl hp.sq,by rw[<-hr.length];exact hk _ M _ H hq (.refl H) hv (by simp only[Rep])⟩
 · rename_i z
   obtain⟨v,rfl,r1⟩:=rr.one;simp only[Rep]at r1;subst r1;exact qhz pins s σ H _ us Q0 I rl ⟨z,rfl,hq.1,hk _ M _ H hq.2 (.refl H) hv (by simp only[Rep])⟩
 · rename_i a
   obtain⟨v,rfl,r1⟩:=rr.one;simp only[Rep]at r1;subst r1;split at hq
   · rename_i ys em
     obtain⟨ho,e,r⟩:=hv a _ em;obtain⟨vs,rfl,hr⟩:=r;exact qb0 pins s σ H _ us Q0 I rl ⟨a,vs,rfl,.inl (SqL.of e),by rw[<-hr.length];exact hk _ M _ H hq (.refl H) hv (by simp only[Rep])⟩
   · exact hq.elim
 · exact hq.elim
noncomputable def qlr:List RV->RM->RVK->Prop:=fun rs M Q=>match rs with
 | [.tup xs]=>Q (.tup xs) M
 | [.ls xs]=>Q (.tup xs) M
 | [.ref a]=>match M a with|some (.lst xs)=>Q (.tup xs) M|_=>False
 |_=>False
theorem quZ:CallR X (.type "tuple") (upC X.K qlr):=by
 intro pins s σ H xs us Q0 I rl h;obtain⟨rs,M,Q,rr,hv,hq,hk⟩:=h;unfold qlr at hq;split at hq
 · rename_i ys
   obtain⟨v,rfl,r1⟩:=rr.one;simp only[Rep]at r1;obtain⟨q,vs,rfl,hp,hr⟩:=r1;exact qbP pins s σ H _ us Q0 I rl ⟨q,vs,rfl,.inr ⟨hp,hk _ M _ H hq (.refl H) hv (by simp only[Rep];exact⟨q,vs,rfl,hp,hr⟩)⟩⟩
 · rename_i ys
   obtain⟨v,rfl,r1⟩:=rr.one;simp only[Rep]at r1;obtain⟨q,vs,rfl,hp,hr⟩:=r1;exact qbP pins s σ H _ us Q0 I rl ⟨q,vs,rfl,.inl ⟨hp.sq,fun l hl=>hk _ M _ _ hq (Ext.new hl) (hv.new hl) (qcY hl hr)⟩⟩
 · rename_i a
   obtain⟨v,rfl,r1⟩:=rr.one;simp only[Rep]at r1;subst r1;split at hq
   · rename_i ys em
     obtain⟨ho,e,r⟩:=hv a _ em;obtain⟨vs,rfl,hr⟩:=r;exact qbP pins s σ H _ us Q0 I rl ⟨a,vs,rfl,.inl ⟨SqL.of e,fun l hl=>hk _ M _ _ hq (Ext.new hl) (hv.new hl) (qcY hl hr)⟩⟩
   · exact hq.elim
 · exact hq.elim
end
open HT
section
variable {prog:Program}{w:World}{A:Around}{E:Value->Shared->Prop}{s:Shared}
theorem qcl{t sl:Addr}{items:Array Value}{vl vu:Value}{lo hi:Option Int}{Q:Value->Shared->Prop}(ht:IsTup s.heap t items)(hs:s.heap.IsSliceOf sl vl vu .none)(pl:IsPart vl lo)(pu:IsPart vu hi)
 (h0:sIx items.size 0 lo=0) (h1:sIx items.size items.size hi=items.size)
 (h:Q (.ref t) s):wpAny (model prog w) A (getItem (.ref t) (.ref sl)) Q E s:=by
 obtain⟨os,hos,hcs,hds⟩:=id hs;have hTs:s.TypeIs (.ref sl) "slice":=⟨os,hos,hcs⟩;unfold getItem
 try with_reducible refine wpAny_holding ?_
 first|refine wpAny_bind (wpAny_pure ?_)|skip
 refine wpAny_bind (wpAny_sequenceKey ht.typeIs (by decide) ?_)
 refine wpAny_bind (wpAny_callSpecial?_slot (name:=Str.ofString "__getitem__") ht.typeIs waH
  (wpAny_call_entry waH ht.typeIs entry_tuple_getitem ?_ (args_tuple_getitem _ _)))
 show wpAny _ _ (Builtin.Tuple.tupleItemsOf (.ref t) >>= _) _ _ s;refine wpAny_bind (tupleItemsOf_ ht ?_);refine wpAny_bind (wpAny_typeOf hTs ?_);rw[if_pos (by decide)]
 refine wpAny_bind (qbQ hs pl pu ?_);have hyes:(((sIx items.size 0 lo:Nat):Int)==0&&(1:Int)==1&&(sIx items.size items.size hi-sIx items.size 0 lo)==items.size)=true:=by
  rw[h0,h1];simp
 show wpAny _ _ (if(((sIx items.size 0 lo:Nat):Int)==0&&(1:Int)==1&&(sIx items.size items.size hi-sIx items.size 0 lo)==items.size)=true then _ else _) _ _ s
 rw[if_pos hyes];show wpAny _ _ (Builtin.Tuple.tupleIsExact (.ref t) >>= _) _ _ s;unfold Builtin.Tuple.tupleIsExact;refine wpAny_bind (wpAny_bind (wpAny_typeOf ht.typeIs (wpAny_pure ?_)));rw[if_pos (by decide)]
 refine wpAny_bind (wpAny_rule ?_);refine wpAny_bind (wpAny_pure ?_);exact wpAny_pure ⟨_,rfl,wpAny_pure h⟩
end
section
variable {X:Cx}
abbrev RTO:=RSt->RM->(Option Int->RM->Prop)->Prop
def upP(K:Frg)(t:RTO):TO:=fun σ0 H Q0=>∃ σ M Q,RepSt K H σ σ0/\View K H M/\t σ M Q/\∀ o M' H',Q o M'->Ext H H'->View K H' M'->Q0 o H'
def RPO(X:Cx)(e:Option Expr)(t:RTO):Prop:=PO X e (upP X.K t)
def qAv:RTO:=fun _ M Q=>Q none M
def qth(t:RTE):RTO:=fun σ M Q=>t σ M fun x M1=>match x with| .int i=>Q (some i) M1|_=>False
theorem PO.imp{e:Option Expr}{t t':TO}(h:PO X e t)(i:∀ σ H Q,t' σ H Q->t σ H Q):PO X e t':=fun pins s σ H Q I w=>h pins s σ H Q I (i σ H Q w)
theorem qw4:RPO X none qAv:=PO.imp qqG fun σ0 H Q0 h=>by
 obtain⟨σ,M,Q,hs,hv,ht,hk⟩:=h;exact hk none M H ht (.refl H) hv
theorem qw1{e:Expr}{te:RTE}(h:RPE X e te):RPO X (some e) (qth te):=PO.imp (qqF h) fun σ0 H Q0 h=>by
 obtain⟨σ,M,Q,hs,hv,ht,hk⟩:=h;refine⟨σ,M,_,hs,hv,ht,fun rx M1 x H1 q e1 v1 r1=>?_⟩
 cases rx with
 |int i=>simp only[Rep]at r1;exact⟨i,r1,hk _ M1 H1 q e1 v1⟩
 |_=>exact(show False from q).elim
def qhv(xs:List RV)(lo hi:Option Int):List RV:=(xs.drop (sIx xs.length 0 lo)).take (sIx xs.length xs.length hi-sIx xs.length 0 lo)
theorem qi9{K:Frg}{H:Hp}{xs:List RV}{vs:List V}(r:Reps K H xs vs)(lo hi:Option Int):Reps K H (qhv xs lo hi) (qpO vs lo hi):=by
 unfold qhv qpO;rw[r.length];exact(r.drop _).take _
noncomputable def qnQ:RV->Option Int->Option Int->RM->RVK->Prop:=fun x lo hi M Q=>match x with
 | .tup xs=>Q (.tup (qhv xs lo hi)) M
 | .ls xs=>Q (.ls (qhv xs lo hi)) M
 | .ref a=>match M a with|some (.lst xs)=>Q (.ls (qhv xs lo hi)) M|_=>False
 |_=>False
noncomputable def upL (K:Frg)(r:RV->Option Int->Option Int->RM->RVK->Prop):V->Option Int->Option Int->Hp->VK->Prop:=fun x lo hi H Q0=>∃ rx M Q,Rep K H rx x/\View K H M/\r rx lo hi M Q/\UpK K H Q Q0
theorem qDj:SlR X (upL X.K qnQ):=by
 intro pins s σ H x v vl vu lo hi sl Q0 I rx hs pl pu h;obtain⟨a,M,Q,ra,hv,hq,hk⟩:=h;have lstcase:∀ (p:Addr) (xs:List RV) (vs:List V),x= .ref p->SqL X.K H p vs->Reps X.K H xs vs->Q (.ls (qhv xs lo hi)) M->
  ∃ T id,typeLookup (.type T) "__getitem__" =pure (some (.builtin id))/\s.TypeIs v T/\wpAny (model X.prog X.w) X.A (getItem v (.ref sl)) (EP X pins σ Q0) X.xe s:=by
  intro p xs vs ex hp hr hq;obtain⟨T,id,h1,h2,h3⟩:=qp5 pins s σ H x v vl vu lo hi sl (fun v H'=>∃ H1 p xs,v= .ref p/\H1 p=none/\H'=upd H1 p (.lst xs)/\∀ o,Q0 (.ref p) (upd H1 p (.frz o (.lst xs)))) I rx hs pl pu
   ⟨p,vs,ex,hp,fun q hq'=>⟨H,q,_,rfl,hq',rfl,fun o=>hk _ M _ _ hq (Ext.new hq') (hv.new hq') (qcb hq' (qi9 hr lo hi))⟩⟩
  exact⟨T,id,h1,h2,thn h3 fun _ _ e=>frozen e⟩
 cases a with
 |tup xs=>
  simp only[qnQ]at hq;simp only[Rep]at ra;obtain⟨p,vs,rfl,hp,hr⟩:=ra
  by_cases hw:sIx vs.length 0 lo=0/\sIx vs.length vs.length hi=vs.length
  · cases rx
    obtain⟨its,r,ht,hz⟩:=I.tuple (SqT.of hp);have hlen:its.toArray.size=vs.length:=by rw[wag];exact r.length.symm
    refine⟨"tuple",_,PyProof.Rows.slot_tuple_getitem.lookup,ht.typeIs,?_⟩;refine qcl ht hs pl pu (by rw[hlen];exact hw.1) (by rw[hlen];exact hw.2) ⟨.ref p,H,I,rfl,?_⟩
    have e:qhv xs lo hi=xs:=by
     unfold qhv;rw[hr.length,hw.1,hw.2,List.drop_zero,Nat.sub_zero,<-hr.length,List.take_length]
    rw[e]at hq;exact hk _ M _ H hq (.refl H) hv (by simp only[Rep];exact⟨p,vs,rfl,hp,hr⟩)
  · exact qsL pins s σ H _ v vl vu lo hi sl Q0 I rx hs pl pu ⟨p,vs,rfl,hp,hw,fun q hq'=>hk _ M _ _ hq (Ext.new hq') (hv.new hq') (qcY hq' (qi9 hr lo hi))⟩
 |ls xs=>
  simp only[qnQ]at hq;simp only[Rep]at ra;obtain⟨p,vs,rfl,hp,hr⟩:=ra;exact lstcase p xs vs rfl hp.sq hr hq
 |ref p=>
  simp only[qnQ]at hq;simp only[Rep]at ra;split at hq
  · rename_i xs em
    obtain⟨ho,e,r⟩:=hv p _ em;obtain⟨vs,rfl,hr⟩:=r;exact lstcase p xs vs ra (SqL.of e) hr hq
  · exact hq.elim
 |_=>exact(show False from hq).elim
def rSl(te:RTE)(tl th:RTO):RTE:=fun σ M Q=>te σ M fun x M1=>tl σ M1 fun l M2=>th σ M2 fun u M3=>qnQ x l u M3 Q
theorem rsl{e:Expr}{te:RTE}{lo hi:Option Expr}{tl th:RTO}{pos p2:Pos}(he:RPE X e te)(hl:RPO X lo tl)(hu:RPO X hi th):RPE X (.Subscript e (.Slice lo hi none p2) pos) (rSl te tl th):=PE.imp (qnZ qDj he hl hu) fun σ0 H Q0 h=>by
 obtain⟨σ,M,Q,hs,hv,ht,hk⟩:=h;refine⟨σ,M,_,hs,hv,ht,fun rx M1 x H1 q e1 v1 r1=>?_⟩
 refine⟨σ,M1,_,hs.ext e1,v1,q,fun l M2 H2 q2 e2 v2=>?_⟩
 refine⟨σ,M2,_,hs.ext (e1.trans e2),v2,q2,fun u M3 H3 q3 e3 v3=>?_⟩
 exact⟨rx,M3,Q,Rep.ext (e2.trans e3) rx x r1,v3,q3,hk.ext ((e1.trans e2).trans e3)⟩
theorem qiE(K:Frg):PySem.W.kitOne K (.type "NoneType") (.type "int")=some false:=by kernel_rfl
theorem qke(K:Frg):PySem.W.kitOne K (.type "bool") (.type "int")=some true:=by kernel_rfl
theorem qiH(K:Frg):PySem.W.kitOne K (.type "int") (.type "int")=some true:=by kernel_rfl
theorem qiC(K:Frg):PySem.W.kitOne K (.type "str") (.type "int")=some false:=by kernel_rfl
theorem qiA(K:Frg):PySem.W.kitOne K (.type "tuple") (.type "int")=some false:=by kernel_rfl
theorem qkc(K:Frg):PySem.W.kitOne K (.type "list") (.type "int")=some false:=by kernel_rfl
noncomputable def qpC:RV->Option Bool
 | .non=>some false
 | .bl _=>some true
 | .int _=>some true
 | .str _=>some false
 | .tup _=>some false
 | .ls _=>some false
 |_=>none
theorem qg8(K:Frg):PySem.W.kitOne K (.type "NoneType") (.type "bool")=some false:=by kernel_rfl
theorem qiJ(K:Frg):PySem.W.kitOne K (.type "bool") (.type "bool")=some true:=by kernel_rfl
theorem qhb(K:Frg):PySem.W.kitOne K (.type "int") (.type "bool")=some false:=by kernel_rfl
theorem qg6(K:Frg):PySem.W.kitOne K (.type "str") (.type "bool")=some false:=by kernel_rfl
theorem qg4(K:Frg):PySem.W.kitOne K (.type "tuple") (.type "bool")=some false:=by kernel_rfl
theorem qiF(K:Frg):PySem.W.kitOne K (.type "list") (.type "bool")=some false:=by kernel_rfl
noncomputable def is_bool:RV->Option Bool
 | .non=>some false
 | .bl _=>some true
 | .int _=>some false
 | .str _=>some false
 | .tup _=>some false
 | .ls _=>some false
 |_=>none
theorem qiD(K:Frg):PySem.W.kitOne K (.type "NoneType") (.type "str")=some false:=by kernel_rfl
theorem qkd(K:Frg):PySem.W.kitOne K (.type "bool") (.type "str")=some false:=by kernel_rfl
theorem qiG(K:Frg):PySem.W.kitOne K (.type "int") (.type "str")=some false:=by kernel_rfl
theorem qiB(K:Frg):PySem.W.kitOne K (.type "str") (.type "str")=some true:=by kernel_rfl
theorem qiz(K:Frg):PySem.W.kitOne K (.type "tuple") (.type "str")=some false:=by kernel_rfl
theorem qkb(K:Frg):PySem.W.kitOne K (.type "list") (.type "str")=some false:=by kernel_rfl
noncomputable def qpB:RV->Option Bool
 | .non=>some false
 | .bl _=>some false
 | .int _=>some false
 | .str _=>some true
 | .tup _=>some false
 | .ls _=>some false
 |_=>none
theorem qfQ(K:Frg):PySem.W.kitOne K (.type "NoneType") (.type "tuple")=some false:=by kernel_rfl
theorem qhc(K:Frg):PySem.W.kitOne K (.type "bool") (.type "tuple")=some false:=by kernel_rfl
theorem qfR(K:Frg):PySem.W.kitOne K (.type "int") (.type "tuple")=some false:=by kernel_rfl
theorem qfP(K:Frg):PySem.W.kitOne K (.type "str") (.type "tuple")=some false:=by kernel_rfl
theorem qfO(K:Frg):PySem.W.kitOne K (.type "tuple") (.type "tuple")=some true:=by kernel_rfl
theorem qg9(K:Frg):PySem.W.kitOne K (.type "list") (.type "tuple")=some false:=by kernel_rfl
noncomputable def qjq:RV->Option Bool
 | .non=>some false
 | .bl _=>some false
 | .int _=>some false
 | .str _=>some false
 | .tup _=>some true
 | .ls _=>some false
 |_=>none
theorem qg7(K:Frg):PySem.W.kitOne K (.type "NoneType") (.type "list")=some false:=by kernel_rfl
theorem qiI(K:Frg):PySem.W.kitOne K (.type "bool") (.type "list")=some false:=by kernel_rfl
theorem qha(K:Frg):PySem.W.kitOne K (.type "int") (.type "list")=some false:=by kernel_rfl
theorem qg5(K:Frg):PySem.W.kitOne K (.type "str") (.type "list")=some false:=by kernel_rfl
theorem qg3(K:Frg):PySem.W.kitOne K (.type "tuple") (.type "list")=some false:=by kernel_rfl
theorem qek(K:Frg):PySem.W.kitOne K (.type "list") (.type "list")=some true:=by kernel_rfl
noncomputable def qmf:RV->Option Bool
 | .non=>some false
 | .bl _=>some false
 | .int _=>some false
 | .str _=>some false
 | .tup _=>some false
 | .ls _=>some true
 |_=>none
noncomputable def tyN:RV->Option String
 | .non=>some "NoneType"
 | .bl _=>some "bool"
 | .int _=>some "int"
 | .str _=>some "str"
 | .tup _=>some "tuple"
 | .ls _=>some "list"
 |_=>none
noncomputable def qqv (T:String)(test:RV->Option Bool):List RV->RM->RVK->Prop:=fun rs M Q=>match rs with
 | [x,.ty T']=>T'=T/\(match test x with|some b=>Q (.bl b) M|none=>False)
 |_=>False
theorem qu1{T:String}{test:RV->Option Bool}(ht:∀ a b,test a=some b->∃ n,tyN a=some n/\PySem.W.kitOne X.K (.type n) (.type T)=some b):CallR X (.builtin "isinstance") (upC X.K (qqv T test)):=by
 intro pins s σ H xs us Q0 I rl h;obtain⟨rs,M,Q,rr,hv,hq,hk⟩:=h;unfold qqv at hq;split at hq
 · rename_i a T'
   obtain⟨rfl,hq⟩:=hq;obtain⟨v,w,rfl,r1,r2⟩:=rr.two;obtain⟨u,u',rfl,w1,w2⟩:=vals2 rl;simp only[Rep]at r2;subst r2;obtain rfl:u'=Value.type T':=w2;cases e:test a with
   |none=>rw[e]at hq;exact hq.elim
   |some b=>
    rw[e]at hq;obtain⟨n,en,ek⟩:=ht a b e;have fin:∀ tk,EP X pins σ Q0 (.bool b) { s with toks:=tk }:=fun tk=>⟨.bl b,H,I.tok tk,rfl,hk _ M _ H hq (.refl H) hv (by simp only[Rep])⟩
    cases a with
    |non=>cases en;simp only[Rep]at r1;subst r1;cases(show u=Value.none from w1);exact waS PySem.W.kitx_none I.kIn True.intro ek (fun z=>nomatch z) fin
    |bl y=>cases en;simp only[Rep]at r1;subst r1;cases(show u=Value.bool y from w1);exact waS PySem.W.kitx_bool I.kIn True.intro ek (fun z=>nomatch z) fin
    |int y=>cases en;simp only[Rep]at r1;subst r1;obtain⟨t,q⟩:=(show ∃ t,u=Value.int y t from w1);cases q;exact waS PySem.W.kitx_int I.kIn True.intro ek (fun z=>nomatch z) fin
    |str y=>cases en;simp only[Rep]at r1;subst r1;obtain⟨t,q⟩:=(show ∃ t,u=Value.str y t from w1);cases q;exact waS PySem.W.kitx_str I.kIn True.intro ek (fun z=>nomatch z) fin
    |tup ys=>
     cases en;simp only[Rep]at r1;obtain⟨p,vs,rfl,hp,hr⟩:=r1;cases(show u=Value.ref p from w1)
     obtain⟨its,_,pt,_⟩:=I.tuple (SqT.of hp);obtain⟨o,h1,h2,_⟩:=pt;exact waS PySem.W.kitx_tuple I.kIn ⟨o,h1,h2⟩ ek (fun z=>nomatch z) fin
    |ls ys=>
     cases en;simp only[Rep]at r1;obtain⟨p,vs,rfl,hp,hr⟩:=r1;cases(show u=Value.ref p from w1)
     obtain⟨its,_,pt,_⟩:=I.list hp.sq;obtain⟨o,h1,h2,_⟩:=pt.isList;exact waS PySem.W.kitx_list I.kIn ⟨o,h1,h2⟩ ek (fun z=>nomatch z) fin
    |_=>cases en
 · exact hq.elim
theorem qoK:CallR X (.builtin "isinstance") (upC X.K (qqv "int" qpC)):=qu1 fun a b e=>by
 cases a with
 |non=>cases e;exact⟨_,rfl,qiE X.K⟩
 |bl _=>cases e;exact⟨_,rfl,qke X.K⟩
 |int _=>cases e;exact⟨_,rfl,qiH X.K⟩
 |str _=>cases e;exact⟨_,rfl,qiC X.K⟩
 |tup _=>cases e;exact⟨_,rfl,qiA X.K⟩
 |ls _=>cases e;exact⟨_,rfl,qkc X.K⟩
 |_=>cases e
theorem qmY:CallR X (.builtin "isinstance") (upC X.K (qqv "bool" is_bool)):=qu1 fun a b e=>by
 cases a with
 |non=>cases e;exact⟨_,rfl,qg8 X.K⟩
 |bl _=>cases e;exact⟨_,rfl,qiJ X.K⟩
 |int _=>cases e;exact⟨_,rfl,qhb X.K⟩
 |str _=>cases e;exact⟨_,rfl,qg6 X.K⟩
 |tup _=>cases e;exact⟨_,rfl,qg4 X.K⟩
 |ls _=>cases e;exact⟨_,rfl,qiF X.K⟩
 |_=>cases e
theorem qoJ:CallR X (.builtin "isinstance") (upC X.K (qqv "str" qpB)):=qu1 fun a b e=>by
 cases a with
 |non=>cases e;exact⟨_,rfl,qiD X.K⟩
 |bl _=>cases e;exact⟨_,rfl,qkd X.K⟩
 |int _=>cases e;exact⟨_,rfl,qiG X.K⟩
 |str _=>cases e;exact⟨_,rfl,qiB X.K⟩
 |tup _=>cases e;exact⟨_,rfl,qiz X.K⟩
 |ls _=>cases e;exact⟨_,rfl,qkb X.K⟩
 |_=>cases e
theorem qkA:CallR X (.builtin "isinstance") (upC X.K (qqv "tuple" qjq)):=qu1 fun a b e=>by
 cases a with
 |non=>cases e;exact⟨_,rfl,qfQ X.K⟩
 |bl _=>cases e;exact⟨_,rfl,qhc X.K⟩
 |int _=>cases e;exact⟨_,rfl,qfR X.K⟩
 |str _=>cases e;exact⟨_,rfl,qfP X.K⟩
 |tup _=>cases e;exact⟨_,rfl,qfO X.K⟩
 |ls _=>cases e;exact⟨_,rfl,qg9 X.K⟩
 |_=>cases e
theorem qmX:CallR X (.builtin "isinstance") (upC X.K (qqv "list" qmf)):=qu1 fun a b e=>by
 cases a with
 |non=>cases e;exact⟨_,rfl,qg7 X.K⟩
 |bl _=>cases e;exact⟨_,rfl,qiI X.K⟩
 |int _=>cases e;exact⟨_,rfl,qha X.K⟩
 |str _=>cases e;exact⟨_,rfl,qg5 X.K⟩
 |tup _=>cases e;exact⟨_,rfl,qg3 X.K⟩
 |ls _=>cases e;exact⟨_,rfl,qek X.K⟩
 |_=>cases e
abbrev RSp:=List RV->RM->RVK->Prop
def qfl(K:Frg)(sp:RSp):Sp:=fun vs H Q0 _=>∃ rs M Q,Reps K H rs vs/\View K H M/\sp rs M Q/\UpK K H Q Q0
end
structure RFn(P:Program)(w:World)(K:Frg)(mg:Str->Option Value)(base:Heap)(k:Nat)(x:Str)(ps:List Str)(sp:RSp):Prop where
 ex:∃ (f:Addr) (fd:FuncData),mg x=some (.ref f)/\PySem.W.keepIn K (.ref f)=true/\Binds K fd ps []/\FnOk P w K mg base CX0 k f fd ps (qfl K sp)
section
variable {X:Cx}{x:Str}{p pos:Pos}{e:Expr}{es:List Expr}{t:RTA}{k:Nat}{ps:List Str}{sp:RSp}
theorem qs3(F:RFn X.prog X.w X.K X.mg X.base k x ps sp)(hr:Room k X.A)(ha:RPA X (e::es) t)(hg:Gl X x:=by rfl)(hdb:(x==("__debug__":Str))=false:=by decide)
 (he:starEach (e::es) X.env=(false,eval e X.env)::starEach es X.env:=by rfl) (hpl:(backTo pos (starEach es X.env)).any (·.1)=false:=by rfl):RPE X (.Call (.Name x p) (e::es) [] pos) (qeP sp t):=by
 obtain⟨f,fd,hm,hk,hb,F⟩:=F.ex;refine PE.imp (qqM F hr hg hm hk hb .nil qii ha hdb he hpl) fun σ0 H Q0 h=>?_
 obtain⟨σ,M,Q,hs,hv,ht,hk⟩:=h;exact⟨σ,M,_,hs,hv,ht,fun rs M1 vs H1 q e1 v1 r1=>⟨rs,M1,Q,by rw[waP];exact r1,v1,q,hk.ext e1⟩⟩
theorem qqo(F:RFn X.prog X.w X.K X.mg X.base k x ps sp)(hr:Room k X.A)(hg:Gl X x:=by rfl)(hdb:(x==("__debug__":Str))=false:=by decide):RPE X (.Call (.Name x p) [] [] pos) (qeP sp qnq):=by
 obtain⟨f,fd,hm,hk,hb,F⟩:=F.ex;refine PE.imp (qn8 F hr hg hm hk hb .nil qii hdb) fun σ0 H Q0 h=>?_
 obtain⟨σ,M,Q,hs,hv,ht,hk⟩:=h;exact⟨[],M,Q,Reps.nil,hv,ht,hk⟩
def qbR(N:List Str)(rs:List RV):RSt:=rs.map some++List.replicate (N.length-rs.length) none
theorem qkT{K:Frg}{H:Hp}{N:List Str}{rs:List RV}{vs:List V}(r:Reps K H rs vs):RepSt K H (qbR N rs) (L2.start N vs):=by
 unfold qbR L2.start;refine⟨by simp[r.length],fun i z e=>?_⟩
 have hi:i<rs.length:=by
  by_cases hi:i<rs.length
  · exact hi
  · rw[List.getElem?_append_right (by simpa using hi),List.getElem?_replicate]at e
    split at e<;>cases e
 rw[List.getElem?_append_left (by simpa using hi),List.getElem?_map]at e
 cases q:rs[i]? with
 |none=>rw[q]at e;cases e
 |some y=>
  rw[q]at e;cases e;obtain⟨v,e1,r1⟩:=r.get q;exact⟨v,by rw[List.getElem?_append_left (by rw[wab,<-r.length];exact hi),List.getElem?_map,e1];rfl,r1⟩
def nums(n:Nat):List RV:=(List.range n).map fun(i:Nat)=>RV.int (i:Int)
theorem qjj(n:Nat):(nums n).length=n:=by simp[nums]
end
def Thaw(H0 H H':Hp):Prop:=H'=H∨∃ d o u,H d=some (.frz o u)/\qmi u=true/\(∀ o' u',H0 d≠some (.frz o' u'))/\H'=upd H d u
theorem Thaw.inv{X:Cx}{pins:List (Addr×Obj)}{σ:L2.St}{H H':Hp}{s:Shared}(t:Thaw X.H₀ H H')(I:Inv X pins σ H s):Inv X pins σ H' s:=by
 rcases t with rfl|⟨p,ob,u,h,du,h0,rfl⟩
 · exact I
 have np:∀ b,H b=none->b≠p:=fun b q w=>by subst w;rw[h]at q;cases q
 refine⟨I.ok,I.os,I.bare,⟨I.base.keep,I.base.slot,fun b o q w x=>?_,I.base.there,fun b xs' q=>?_,fun b o u q=>?_,fun b ps q=>?_⟩,I.loc,I.cell,?_,fun x c q=>?_,fun q hq=>?_,fun b v q=>?_,I.len⟩
 · have:=I.base.free b o q w x
   rw[qae (np b this)];exact this
 · have e1:=I.base.tups b xs' q
   rw[qae (qeQ e1 h (by intro z;cases z))];exact e1
 · have e1:=I.base.frzs b o u q
   rw[qae (by rintro rfl;exact h0 _ _ q)];exact e1
 · obtain⟨more,e1⟩:=I.base.tbls b ps q
   exact⟨more,by rw[qae (qeQ e1 h (by intro z;cases z))];exact e1⟩
 · rw[qae (np _ I.free)];exact I.free
 · have:=I.freeC x c q
   rw[qae (np _ this)];exact this
 · obtain⟨a1,a2,a3⟩:=I.pin q hq
   exact⟨a1,by rw[qae (np _ a2)];exact a2,a3⟩
 · have st:∀ c v,ObjOk X.prog X.w H s.heap c v->ObjOk X.prog X.w (upd H p u) s.heap c v:=fun c v z=>z.stay (fun _ _ _ q=>q) (fun c q=>by rw[qae (qeQ q h (by intro z;cases z))];exact q) fun c ys q=>by rw[qae (qeQ q h (by intro z;cases z))];exact q
   by_cases hb:b=p
   · subst hb
     rw[qaj]at q;cases q;exact st _ _ (I.hok b _ h).2
   · rw[qae hb]at q
     exact st _ _ (I.hok b v q)
theorem qeu{X:Cx}{pins:List (Addr×Obj)}{σ:L2.St}{H:Hp}{s:Shared}{p:Addr}{u:HO}(I:Inv X pins σ H s)(h:H p=some u)(du:qmi u=true):∃ o,s.heap.get? p=some o/\Inv X pins σ (upd H p (.frz o u)) s/\∀ o' u',X.H₀ p≠some (.frz o' u'):=by
 have hz:=I.hok p u h;obtain⟨ob,e⟩:∃ o,s.heap.get? p=some o:=by
  cases u<;>first|(cases du;done)|skip
  · obtain⟨_,_,_,_,o,_,_,e,_⟩:=hz;exact⟨o,e⟩
  · obtain⟨_,_,_,_,o,_,_,e,_⟩:=hz;exact⟨o,e⟩
 have nf:∀ o' u',H p≠some (.frz o' u'):=fun o' u' z=>by rw[h]at z;cases z;cases du
 have np:∀ b,H b=none->b≠p:=fun b q w=>by subst w;rw[h]at q;cases q
 have nt:∀ c xs,H c=some (.tup xs)->c≠p:=fun c xs q w=>by subst w;rw[h]at q;cases q;cases du
 have no:∀ c y,H c=some (.own y)->c≠p:=fun c y q w=>by subst w;rw[h]at q;cases q;cases du
 refine⟨ob,e,⟨I.ok,I.os,I.bare,⟨I.base.keep,I.base.slot,fun b o q w x=>?_,I.base.there,fun b xs' q=>?_,fun b o u q=>?_,fun b ps q=>?_⟩,I.loc,I.cell,?_,fun x c q=>?_,fun q hq=>?_,fun b v q=>?_,I.len⟩,fun o' u' z=>nf o' u' (I.base.frzs _ _ _ z)⟩
 · have:=I.base.free b o q w x
   rw[qae (np b this)];exact this
 · have e1:=I.base.tups b xs' q
   rw[qae (nt _ _ e1)];exact e1
 · have e1:=I.base.frzs b o u q
   rw[qae (by rintro rfl;exact nf _ _ e1)];exact e1
 · obtain⟨more,e1⟩:=I.base.tbls b ps q
   exact⟨more,by rw[qae (by rintro rfl;rw[h]at e1;cases e1;cases du)];exact e1⟩
 · rw[qae (np _ I.free)];exact I.free
 · have:=I.freeC x c q
   rw[qae (np _ this)];exact this
 · obtain⟨a1,a2,a3⟩:=I.pin q hq
   exact⟨a1,by rw[qae (np _ a2)];exact a2,a3⟩
 · have st:∀ c v,ObjOk X.prog X.w H s.heap c v->ObjOk X.prog X.w (upd H p (.frz ob u)) s.heap c v:=fun c v z=>z.stay (fun _ _ _ q=>q) (fun c q=>by rw[qae (no _ _ q)];exact q) fun c ys q=>by rw[qae (nt _ _ q)];exact q
   by_cases hb:b=p
   · subst hb
     rw[qaj]at q;cases q;exact⟨e,st _ _ hz⟩
   · rw[qae hb]at q
     exact st _ _ (I.hok b v q)
structure qjD(H0 Hs:Hp)(K:Frg)(J:It)(xs:List RV)(ok:RM->Prop)(un:RM->RM)(H1:Hp):Prop where
 turn:∀ i H M,Ext H1 H->View K H M->ok M->∀ x,xs[i]? =some x->J.go i H/\∀ v H',J.yld i H v H'->Ext H H'/\(∀ M,View K H M->View K H' M)/\Rep K H' x v
 stop:∀ i H M,Ext H1 H->View K H M->ok M->xs.length<=i->J.stop i H
 thaw:∀ H M,Ext H1 H->View K H M->ok M->∃ H',Thaw H0 H H'/\ExtW H H'/\Ext Hs H'/\View K H' (un M)
abbrev RTI:=RSt->RM->(List RV->(RM->Prop)->(RM->RM)->RM->Prop)->Prop
abbrev okT:RM->Prop:=fun _=>True
noncomputable def upI (H0:Hp)(K:Frg)(ti:RTI):TI:=fun σ0 H R=>∃ σ M Q,RepSt K H σ σ0/\View K H M/\ti σ M Q/\∀ xs ok un M' J H',Q xs ok un M'->Ext H H'->View K H' M'->qjD H0 H K J xs ok un H'->R J H'
def RPI(X:Cx)(tg iter:Expr)(ti:RTI):Prop:=PI X tg iter (upI X.H₀ X.K ti)
section
variable {X:Cx}{tg:Expr}
noncomputable def qAC (te:RTE):RTI:=fun σ M Q=>te σ M fun v M1=>match v with
 | .tup xs=>Q xs okT id M1
 | .ls xs=>Q xs okT id M1
 | .ref a=>match M1 a with
  |some (.lst xs)=>Q xs (fun M=>M a=some (.lst xs)) id M1
  |_=>False
 |_=>False
theorem qbG{H0 Hs:Hp}{K:Frg}{H1:Hp}{ok:RM->Prop}(es:Ext Hs H1):∀ H M,Ext H1 H->View K H M->ok M->∃ H',Thaw H0 H H'/\ExtW H H'/\Ext Hs H'/\View K H' (id M):=fun H M e v _=>⟨H,.inl rfl,(Ext.refl H).w,es.trans e,v⟩
theorem quz{H0 Hs:Hp}{K:Frg}{H1:Hp}{a:Addr}{rs:List RV}{vs:List V}(h:Fz K H1 a vs)(r:Reps K H1 rs vs)(es:Ext Hs H1):qjD H0 Hs K (Itl K a) rs okT id H1 where
 turn:=fun i H M e _ _ x hx=>by
  obtain⟨v,e1,r1⟩:=r.get hx;refine⟨⟨vs,v,(h.ext e).sq,e1⟩,fun v' H' y=>?_⟩
  obtain⟨rfl,y⟩:=y;have:=y vs (h.ext e).sq;rw[e1]at this;cases this;exact⟨.refl _,fun _ w=>w,Rep.ext e x v r1⟩
 stop:=fun i H M e _ _ hi=>⟨vs,(h.ext e).sq,by rw[<-r.length];exact hi⟩
 thaw:=qbG es
theorem quw{H0 Hs:Hp}{K:Frg}{H1:Hp}{a:Addr}{rs:List RV}{vs:List V}(h:SqT K H1 a vs)(r:Reps K H1 rs vs)(es:Ext Hs H1):qjD H0 Hs K (Itt K a) rs okT id H1 where
 turn:=fun i H M e _ _ x hx=>by
  obtain⟨v,e1,r1⟩:=r.get hx;refine⟨⟨vs,v,SqT.ext e h,e1⟩,fun v' H' y=>?_⟩
  obtain⟨rfl,y⟩:=y;have:=y vs (SqT.ext e h);rw[e1]at this;cases this;exact⟨.refl _,fun _ w=>w,Rep.ext e x v r1⟩
 stop:=fun i H M e _ _ hi=>⟨vs,SqT.ext e h,by rw[<-r.length];exact hi⟩
 thaw:=qbG es
theorem qux{H0 Hs:Hp}{K:Frg}{H1:Hp}(n:Nat)(es:Ext Hs H1):qjD H0 Hs K (Itr 0 n) (nums n) okT id H1 where
 turn:=fun i H M e _ _ x hx=>by
  have hi:i<n:=by have:=(List.getElem?_eq_some_iff.mp hx).1;rw[qjj]at this;exact this
  have hx':x= .int (i:Int):=by simp[nums,hi]at hx;exact hx.symm
  subst hx';refine⟨hi,fun v' H' y=>?_⟩
  obtain⟨rfl,rfl⟩:=y;exact⟨.refl _,fun _ w=>w,by simp only[Rep];simp⟩
 stop:=fun i H M e _ _ hi=>by rw[qjj]at hi;exact hi
 thaw:=qbG es
theorem quy{H0 Hs:Hp}{K:Frg}{H1:Hp}{a:Addr}{rs:List RV}(es:Ext Hs H1):qjD H0 Hs K (Itl K a) rs (fun M=>M a=some (.lst rs)) id H1 where
 turn:=fun i H M e hv hm x hx=>by
  obtain⟨ho,eh,vs,rfl,r⟩:=hv a _ hm;obtain⟨v,e1,r1⟩:=r.get hx;refine⟨⟨vs,v,SqL.of eh,e1⟩,fun v' H' y=>?_⟩
  obtain⟨rfl,y⟩:=y;have:=y vs (SqL.of eh);rw[e1]at this;cases this;exact⟨.refl _,fun _ w=>w,r1⟩
 stop:=fun i H M e hv hm hi=>by
  obtain⟨ho,eh,vs,rfl,r⟩:=hv a _ hm;exact⟨vs,SqL.of eh,by rw[<-r.length];exact hi⟩
 thaw:=qbG es
theorem qDt{l:Expr}{te:RTE}(hl:RPE X l te):RPI X tg l (qAC te):=by
 intro pins s σ0 H R I h;obtain⟨σ,M,Q,hs,hv,ht,hk⟩:=h;refine thn (hl pins s σ0 H (fun x H1=>(∃ a vs rs ok M1,x= .ref a/\SqL X.K H1 a vs/\qjD X.H₀ H X.K (Itl X.K a) rs ok id H1/\Q rs ok id M1/\Ext H H1/\View X.K H1 M1)∨∃ a vs rs M1,x= .ref a/\SqT X.K H1 a vs/\Reps X.K H1 rs vs/\Q rs okT id M1/\Ext H H1/\View X.K H1 M1) I ⟨σ,M,_,hs,hv,ht,fun rv M1 v H1 q e1 v1 r1=>?_⟩) fun u s1 ⟨v,H1,I1,r1,q1⟩=>?_
 · cases rv with
   |ls xs=>simp only[Rep]at r1;obtain⟨a,vs,rfl,h1,h2⟩:=r1;exact .inl ⟨a,vs,xs,okT,M1,rfl,h1.sq,quz h1 h2 e1,q,e1,v1⟩
   |tup xs=>simp only[Rep]at r1;obtain⟨a,vs,rfl,h1,h2⟩:=r1;exact .inr ⟨a,vs,xs,M1,rfl,SqT.of h1,h2,q,e1,v1⟩
   |ref a=>
    simp only[Rep]at r1;subst r1;dsimp only at q;split at q
    · rename_i xs hm
      obtain⟨ho,eh,vs,rfl,r⟩:=v1 a _ hm;exact .inl ⟨a,vs,xs,_,M1,rfl,SqL.of eh,quy e1,q,e1,v1⟩
    · exact q.elim
   |_=>exact(show False from q).elim
 · rcases q1 with⟨a,vs,rs,ok,M1,rfl,h1,h2,q,e1,v1⟩|⟨a,vs,rs,M1,rfl,h1,h2,q,e1,v1⟩
   · cases r1
     obtain⟨its,rv,p,hz⟩:=I1.list h1;refine wpAny_pyIter_list p.isList ?_;refine⟨s1.heap.objs.size,[s1.heap.objs.size],_,_,H1,rfl,I1.kept (t':=s1.toks) fun b o e=>Heap.get?_push_of_some _ e,qkK a _,⟨_,Heap.get?_push_size _ rfl,rfl,rfl⟩,fun b hb=>?_,hk rs ok id M1 _ H1 q e1 v1 h2⟩
     have e:b=s1.heap.objs.size:=by simpa using hb
     subst e;exact I1.fpOk (wac _) (I1.hok.fresh (wac _))
   · cases r1
     obtain⟨its,rv,p,hz⟩:=I1.tuple h1;refine wpAny_pyIter_tuple (show s1.heap.IsTuple a its.toArray from p) ?_
     refine⟨s1.heap.objs.size,[s1.heap.objs.size],_,_,H1,rfl,I1.kept (t':=s1.toks) fun b o e=>Heap.get?_push_of_some _ e,qjF a _,⟨_,Heap.get?_push_size _ rfl,rfl,rfl⟩,fun b hb=>?_,hk rs okT id M1 _ H1 q e1 v1 (quw h1 h2 e1)⟩
     have e:b=s1.heap.objs.size:=by simpa using hb
     subst e;exact I1.fpOk (wac _) (I1.hok.fresh (wac _))
noncomputable def qls (Q:List RV->(RM->Prop)->(RM->RM)->RM->Prop):List RV->RM->Prop:=fun rs M=>match rs with
 | [.int n]=>-(2 ^ 62)<=n/\n<2 ^ 62/\Q (nums n.toNat) okT id M
 |_=>False
def qAD(te:RTE):RTI:=fun σ M Q=>te σ M fun v M1=>qls Q [v] M1
theorem PI.imp{iter:Expr}{t t':TI}(h:PI X tg iter t)(i:∀ σ H R,t' σ H R->t σ H R):PI X tg iter t':=fun pins s σ H R I w=>h pins s σ H R I (i σ H R w)
theorem quB{a:Expr}{te:RTE}{p pos:Pos}(hm:X.mg "range" =none)(ha:RPE X a te)(hgl:Gl X "range":=by rfl)(hst:starEach [a] X.env= [(false,eval a X.env)]:=by rfl)(hsc:starEach (a::[]) X.env=(false,eval a X.env)::starEach [] X.env:=by rfl):
 RPI X tg (.Call (.Name "range" p) [a] [] pos) (qAD te):=PI.imp (qlE hgl hm (qkE ha qvM hsc) hst) fun σ0 H R h=>by
 obtain⟨σ,M,Q,hs,hv,ht,hk⟩:=h;refine⟨σ,M,qls Q,hs,hv,ht,fun rs M1 vs H1 q e1 v1 r1=>?_⟩
 unfold qls at q;split at q
 · rename_i n
   obtain⟨q1,q2,q⟩:=q;obtain⟨v,rfl,r2⟩:=r1.one;simp only[Rep]at r2;subst r2;exact⟨n,rfl,q1,q2,hk _ okT id M1 _ H1 q e1 v1 (qux _ e1)⟩
 · exact q.elim
def qtn(ti:RTI)(g:RTG)(tb:RTS):RTS:=fun D σ M=>ti σ M fun xs ok un M1=>qdA g tb D ok un xs σ M1
def qsx(H0:Hp)(D:Ends):Ends where
 nx:=fun σ H=>∃ H',Thaw H0 H H'/\D.nx σ H'
 rt:=fun v H=>∃ H',Thaw H0 H H'/\D.rt v H'
 bk:=D.bk
 ct:=D.ct
theorem qAh{iter:Expr}{body:List Stmt}{ti:RTI}{g:RTG}{tb:RTS}{pos:Pos}(hp:PassesOwn (model X.prog X.w) X.A X.env X.xe)(hc:X.calm=true)(hi:RPI X tg iter ti)(hg:RPG X tg g)(hb:qm7 X body tb)
 (hs:∀ x,foldedSetIterable iter X.env x=pure x:=by intro _;rfl):RPS X (.For tg iter body [] pos) (qtn ti g tb):=by
 intro pins s σ0 H D0 I h;refine thn (qtA hp hc hi hg hb hs pins s σ0 H (qsx X.H₀ D0) I ?_) fun f s' h'=>?_
 rotate_left
 · cases f with
   |next=>obtain⟨σ1,H1,I1,H2,t,q⟩:=h';exact⟨σ1,H2,t.inv I1,q⟩
   |brk=>exact h'
   |cont=>exact h'
   |ret v=>obtain⟨x1,σ1,H1,I1,r1,H2,t,q⟩:=h';exact⟨x1,σ1,H2,t.inv I1,r1,q⟩
 obtain⟨σ,M,D,hs,hv,ht,hd⟩:=h;refine⟨σ,M,_,hs,hv,ht,fun xs ok un M1 J H1 q e1 v1 hJ=>?_⟩
 have outN:∀ {σ4:RSt} {M4:RM} {σ04:L2.St} {H4:Hp},(ok M4/\D.nx σ4 (un M4))->Ext H1 H4->View X.K H4 M4->RepSt X.K H4 σ4 σ04->(qsx X.H₀ D0).nx σ04 H4:=fun q4 e4 v4 r4=>by
  obtain⟨H5,t5,e5,x5,v5⟩:=hJ.thaw _ _ e4 v4 q4.1;exact⟨H5,t5,hd.nx _ _ _ H5 q4.2 x5 v5 (r4.extw e5)⟩
 refine⟨fun i m σ0 H=>m=xs.length-i/\i<=xs.length/\∃ σ M,RepSt X.K H σ σ0/\View X.K H M/\qdA g tb D ok un (xs.drop i) σ M/\Ext H1 H,⟨_,rfl,waV _,σ,M1,hs.ext e1,v1,by simpa using q,.refl _⟩,?_⟩
 rintro i m σ0 H ⟨rfl,hi,σ,M,hs,hv,hf,e⟩
 by_cases hlt:i<xs.length
 · have ed:xs.drop i=xs[i]::xs.drop (i+1):=by simp
   rw[ed]at hf;obtain⟨hok,hf⟩:=hf;obtain⟨hgo,hy⟩:=hJ.turn i H M e hv hok xs[i] (by simp)
   refine .inr ⟨hgo,fun σ0 H=>∃ σ M,RepSt X.K H σ σ0/\View X.K H M/\qdA g tb D ok un (xs.drop (i+1)) σ M/\Ext H1 H,fun σ' H' h=>⟨_,by omega,rfl,hlt,h⟩,fun x H' y=>?_⟩
   obtain⟨e2,w2,r2⟩:=hy x H' y;refine⟨xs[i],σ,M,_,r2,hs.ext e2,w2 M hv,hf,fun σ' M' σ0' H'' q e3 v3 r3=>?_⟩
   have e13:=(e.trans e2).trans e3;refine⟨σ',M',_,r3,v3,q,⟨fun σ4 M4 σ04 H4 q4 e4 v4 r4=>⟨σ4,M4,r4,v4,q4,e13.trans e4⟩,fun rv M4 v H4 q4 e4 v4 r4=>?_,fun σ4 M4 σ04 H4 q4 e4 v4 r4=>outN q4 (e13.trans e4) v4 r4,fun σ4 M4 σ04 H4 q4 e4 v4 r4=>⟨σ4,M4,r4,v4,q4,e13.trans e4⟩⟩⟩
   obtain⟨H5,t5,e5,x5,v5⟩:=hJ.thaw _ _ (e13.trans e4) v4 q4.1;exact⟨H5,t5,hd.rt _ _ _ H5 q4.2 x5 v5 (Rep.extw e5 _ _ r4)⟩
 · have ei:i=xs.length:=by omega
   subst ei;rw[List.drop_length]at hf;exact .inl ⟨hJ.stop _ H M e hv hf.1 (wac _),outN hf e hv hs⟩
end
theorem qkz{env:Env}:∀ (scope:Scope),(∀ y∈scope.names,y.2= .free->∃ c,env.cells.lookup y.1=some c)->∃ cl,closureFor scope env=pure cl/\(∀ y c,cl.lookup y=some c->env.cells.lookup y=some c)/\∀ y∈scope.names,y.2= .free->∃ c,cl.lookup y.1=some c:=by
 intro scope h;have all:∀ (l:List (Str×NameKind)) (cs:List (Str×Addr)),(∀ y∈l,y.2= .free->∃ c,env.cells.lookup y.1=some c)->(∀ y c,cs.lookup y=some c->env.cells.lookup y=some c)->
  ∃ cl,(forIn l cs fun(x:Str×NameKind) (r:List (Str×Addr))=>(match x with|(name,kind)=>if(kind==NameKind.free)=true then do let c<-cellOf env name;pure (ForInStep.yield ((name,c)::r))else pure (ForInStep.yield r):Sem (ForInStep (List (Str×Addr)))))=(pure cl:Sem _)/\
   (∀ y c,cl.lookup y=some c->env.cells.lookup y=some c)/\(∀ y c,cs.lookup y=some c->∃ c',cl.lookup y=some c')/\∀ y∈l,y.2= .free->∃ c,cl.lookup y.1=some c:=by
  intro l
  induction l with
  |nil=>intro cs _ h2;exact⟨cs,by simp,h2,fun y c e=>⟨c,e⟩,fun y hy=>by cases hy⟩
  |cons x l ih=>
   intro cs h1 h2;obtain⟨n,k⟩:=x
   by_cases hk:k= .free
   · subst hk
     obtain⟨c,ec⟩:=h1 (n,.free) waw rfl;have e0:cellOf env n=pure c:=by unfold cellOf;rw[ec]
     obtain⟨cl,e1,e2,e3,e4⟩:=ih ((n,c)::cs) (fun y hy=>h1 y (wap _ hy)) (fun y d e=>by
      rw[waK]at e;split at e
      · rename_i z;cases e;rw[eq_of_beq z];exact ec
      · exact h2 y d e)
     refine⟨cl,?_,e2,fun y d e=>?_,fun y hy hf=>?_⟩
     · rw[wa7]
       simp only[beq_self_eq_true,if_true,e0,pure_bind];exact e1
     · by_cases hy:y=n
       · subst hy;exact e3 y c (by simp)
       · exact e3 y d (by rw[waK,beq_eq_false_iff_ne.mpr hy];exact e)
     · rcases was.mp hy with rfl|hy
       · exact e3 n c (by simp)
       · exact e4 y hy hf
   · obtain⟨cl,e1,e2,e3,e4⟩:=ih cs (fun y hy=>h1 y (wap _ hy)) h2
     have hb:(k==NameKind.free)=false:=by simpa using hk
     refine⟨cl,?_,e2,e3,fun y hy hf=>?_⟩
     · rw[wa7]
       simp only[hb,wav,if_false,pure_bind];exact e1
     · rcases was.mp hy with rfl|hy
       · exact absurd hf hk
       · exact e4 y hy hf
 obtain⟨cl,e1,e2,_,e4⟩:=all scope.names [] h (fun y c e=>by simp at e)
 refine⟨cl,?_,e2,e4⟩;unfold closureFor;have e5:=congrArg (fun m=>m >>= fun r=>(pure r:Sem (List (Str×Addr)))) e1
 simp only[pure_bind]at e5;rw[<-e5]
noncomputable def qgD (env:Env)(p:Str×NameKind):Str×NameKind:=if(p.2==NameKind.free&&env.scope.kind== .function&&env.kindOf p.1==some .cell)then(p.1,NameKind.cell)else(p.1,p.2)
theorem qnJ(env:Env)(p:Str×NameKind):(qgD env p).1=p.1:=by unfold qgD;split<;>rfl
theorem qfx(env:Env)(p:Str×NameKind):(qgD env p).2=p.2∨((qgD env p).2= .cell/\p.2= .free):=by
 unfold qgD;split
 · rename_i h
   rw[waa,waa]at h;exact .inr ⟨rfl,eq_of_beq h.1.1⟩
 · exact .inl rfl
theorem qbI{env:Env}{x:Str}:∀ {names:List (Str×NameKind)},(names.map (qgD env)).lookup x=(names.find? fun p=>x==p.1).map fun p=>(qgD env p).2
 | []=>rfl
 |p::r=>by
  rw[wad,List.find?_cons];obtain⟨n,k⟩:=p;have e:qgD env (n,k)=(n,(qgD env (n,k)).2):=Prod.ext (qnJ env (n,k)) rfl;rw[e,waK];cases hx:x==n with
  |true=>rfl
  |false=>exact qbI
theorem qbJ{x:Str}:∀ {names:List (Str×NameKind)},names.lookup x=(names.find? fun p=>x==p.1).map fun p=>p.2
 | []=>rfl
 |(n,k)::r=>by
  rw[waK,List.find?_cons];cases hx:x==n with
  |true=>rfl
  |false=>exact qbJ
theorem qde{env:Env}{names:List (Str×NameKind)}{x:Str}{k:NameKind}(hc:∀ y∈names,y.2≠.cell)(hk:k= .cell∨k= .free)
 (h:(names.map (qgD env)).lookup x=some k):names.lookup x=some .free:=by
 rw[qbI]at h;rw[qbJ];cases e:names.find? fun p=>x==p.1 with
 |none=>rw[e]at h;cases h
 |some p=>
  rw[e]at h;have h':(qgD env p).2=k:=Option.some.inj h;have hp:=List.mem_of_find?_eq_some e;show some p.2=some .free;rcases qfx env p with z|z
  · rcases hk with rfl|rfl
    · exact absurd (z.symm.trans h') (hc p hp)
    · rw[<-h',z]
  · rw[z.2]
theorem qdd{env:Env}{names:List (Str×NameKind)}{x:Str}(h:names.lookup x=some .free):(names.map (qgD env)).lookup x=some .cell∨(names.map (qgD env)).lookup x=some .free:=by
 rw[qbJ]at h;rw[qbI];cases e:names.find? fun p=>x==p.1 with
 |none=>rw[e]at h;cases h
 |some p=>
  rw[e]at h;have h':p.2= .free:=Option.some.inj h;show some (qgD env p).2=some .cell∨some (qgD env p).2=some .free;rcases qfx env p with z|z
  · right;rw[z,h']
  · left;rw[z.1]
noncomputable def blk (X:Cx)(scope:Scope)(cl:List (Str×Addr))(C:Addr)(Nc:List Str)(s:Shared)(H:Hp)(fp:List Addr):Cx:=
 { X with N:=Nc,s₀:=s,H₀:=H,env:=compEnvC scope cl C X.env,outer:=X.stack,ex:=fp,fn:=fun _=>false,pn:=[],xe:=fun _ _=>False }
theorem qvd{X:Cx}{pins:List (Addr×Obj)}{σ:L2.St}{H:Hp}{s:Shared}{scope:Scope}{cl:List (Str×Addr)}{C:Addr}{Nc:List Str}{fp:List Addr}(I:Inv X pins σ H s)(hf:∀ b∈fp,qo1 X pins H b)(hlt:∀ b∈fp,b<s.heap.objs.size)
 (hkind:scope.kind= .function) (hC:s.heap.objs.size<=C) (h1:∀ y c,cl.lookup y=some c->X.env.cells.lookup y=some c) (h2:∀ y∈scope.names,y.2= .free->∃ c,cl.lookup y.1=some c) (hcell:∀ y∈scope.names,y.2≠.cell):
 (blk X scope cl C Nc s H fp).Ok where
 mod:=I.ok.mod
 kind:=hkind
 glob:=I.ok.glob
 blt:=I.ok.blt
 above:=hC
 inj:=fun x y c e1 e2=>I.ok.inj x y c (h1 x c e1) (h1 y c e2)
 has:=fun x hx=>by
  have e:scope.names.lookup x=some .free:=by
   rcases hx with hx|hx
   · exact qde hcell (.inl rfl) hx
   · exact qde hcell (.inr rfl) hx
  exact h2 (x,.free) (PySem.mem_of_lookup e) rfl
 cab:=fun x c z=>by cases z
 hd:=I.ok.hd
 frames:=I.ok.frames
 stk:=.inl rfl
 exf:=fun b hb=>⟨fun z=>absurd (waj (hlt b hb) hC) (by rw[show b=C from z];exact waM _),fun x c e=>(hf b hb).2.2.2.2.1 x c (h1 x c e)⟩
 bs:=fun b o e=>I.bs b o e
 bsz:=wal I.ok.bsz I.sz
 noex:=fun b o e hb=>by
  rcases(hf b hb).2.2.2.1 with z|z
  · exact I.ok.noex b o e z
  · exact absurd (waj (wae e) (wal I.ok.bsz z)) (waM _)
 exfs:=fun b hb z=>by
  rcases was.mp (I.stkSub b z)with e|e
  · exact(hf b hb).2.1 e
  · exact(hf b hb).2.2.1 e
 funs:=I.stack
 frf:=I.stkFree
section
variable {prog:Program}{w:World}{A:Around}{R:Result->Shared->Prop}{s:Shared}
abbrev Nv:Value->Shared->Prop:=fun _ _=>False
noncomputable abbrev qhL (ifs:List Expr) (env:Env):Sem Bool:=forIn ifs true fun c r=>if r=true then do let ok<-isTrue c env (eval c env);pure (ForInStep.yield ok)else pure (ForInStep.yield r)
theorem qmT{elt target iter:Expr}{ifs:List Expr}{scope:Scope}{pos:Pos}{it acc:Value}{env:Env}(I:Nat->Shared->Prop)
 (turn:∀ n s,I n s->wpAny (model prog w) A (pyNext it) (fun r s₁=>(r=none/\R (.ok .next) s₁)∨∃ v,r=some v/\wpAny (model prog w) A (letOwnedTupleGo target it v) (fun _ s₁'=>wpAny (model prog w) A (assign target env v) (fun _ s₂=>
  wpAny (model prog w) A (qhL ifs env) (fun ok s₃=>
   if ok=true then wpAny (model prog w) A (eval elt env) (fun x s₄=>
    wpAny (model prog w) A (call (.builtin "list.append") [acc,x]) (fun _ s₅=>∃ m,m<n/\I m s₅) Nv s₄) Nv s₃
   else ∃ m,m<n/\I m s₃) Nv s₂) Nv s₁') Nv s₁) Nv s)
 (n:Nat) (h:I n s):
 codeAny (model prog w) A (.compLoop (.ListComp elt [⟨target,iter,ifs,0⟩] scope pos) 0 it acc env) R s:=by
 refine codeAny_loop rfl I (fun n s hI=>?_) n h
 show wpAny _ A ((compTurn (.ListComp elt [⟨target,iter,ifs,0⟩] scope pos) 0 it acc env).onRaise (fun x=>do noteFrame x env;theTreesLotGoes x)) _ _ s
 refine wpAny_noted ?_;rw[compTurn_list];refine wpAny_bind (wpAny_standAt (wpAny_bind (wpAny_mono (turn n s hI) (fun r s₁ h₁=>?_) fun _ _ h'=>h'.elim)))
 rcases h₁ with⟨rfl,h₁⟩|⟨v,rfl,h₁⟩
 · exact wpAny_pure h₁
 · refine wpAny_bind (wpAny_mono h₁ (fun _ s₁' h₁'=>?_) fun _ _ h'=>h'.elim)
   refine wpAny_bind (wpAny_mono h₁' (fun _ s₂ h₂=>wpAny_bind (wpAny_mono h₂ (fun ok s₃ h₃=>?_) fun _ _ h'=>h'.elim)) fun _ _ h'=>h'.elim)
   cases ok with
   |false=>exact wpAny_pure ⟨rfl,h₃⟩
   |true=>
    exact wpAny_bind (wpAny_bind (wpAny_mono h₃ (fun x s₄ h₄=>wpAny_bind (wpAny_mono h₄ (fun _ s₅ h₅=>wpAny_pure (wpAny_pure ⟨rfl,h₅⟩)) fun _ _ h'=>h'.elim)) fun _ _ h'=>h'.elim))
end
def qr6(X:Cx)(ifs:List Expr)(t:RTT):Prop:=
 ∀ (pins:List (Addr×Obj)) (s:Shared) (σ:L2.St) (H:Hp) (Q:Bool->Hp->Prop),Inv X pins σ H s->upT X.K t σ H Q->wpAny (model X.prog X.w) X.A (qhL ifs X.env) (TP X pins σ Q) X.xe s
def qC9:RTT:=fun _ M Q=>Q true M
theorem qBQ{X:Cx}:qr6 X [] qC9:=by
 intro pins s σ0 H Q0 I h;obtain⟨σ,M,Q,hs,hv,ht,hk⟩:=h;exact wpAny_pure ⟨H,I,hk true M H ht (.refl H) hv⟩
theorem qBP{X:Cx}{c:Expr}{t:RTT}(h:RPT X c t):qr6 X [c] t:=by
 intro pins s σ0 H Q0 I hw;have:=h pins s σ0 H Q0 I hw;unfold qhL;rw[wa7];simp only[if_true,bind_assoc,pure_bind];refine wpAny_bind (thn this fun b s' q=>?_)
 simp only[List.forIn_nil];exact wpAny_pure q
def qrE(md:Bool)(acc:List RV)(M:RM)(Q:RVK):Prop:=match md with
 |true=>∀ p,M p=none->Q (.ref p) (put M p (.lst acc))
 |false=>Q (.ls acc) M
noncomputable def qaR (bd:RV->Option (List RV))(md:Bool)(ok:RM->Prop)(un:RM->RM)(tt:RTT)(te:RTE)(base:List (Option RV)):List RV->List RV->RM->RVK->Prop
 | [],acc,M,Q=>ok M/\qrE md acc (un M) Q
 |x::xs,acc,M,Q=>ok M/\match bd x with
  |some bs=>tt (bs.map some++base) M fun c M1=>(c=true->te (bs.map some++base) M1 fun v M2=>qaR bd md ok un tt te base xs (acc++ [v]) M2 Q)/\(c=false->qaR bd md ok un tt te base xs acc M1 Q)
  |none=>False
noncomputable def qe7 (bd:RV->Option (List RV))(md:Bool)(ti:RTI)(cap:List Nat)(tt:RTT)(te:RTE):RTE:=fun σ M Q=>ti σ M fun xs ok un M1=>xs.length<sizeLine/\qaR bd md ok un tt te (cap.map fun i=>(σ[i]?).join) xs [] M1 Q
section
variable {X:Cx}
theorem qmU{elt iter tg:Expr}{nm:List Str}{bd:RV->Option (List RV)}{md:Bool}{scope:Scope}{pos:Pos}{ti:RTI}{tt:RTT}{te:RTE}{ifs:List Expr}(caps:List (Nat×Str)){osc:Scope}{oN:List Str}
 (hc:X.calm=true) (hi:RPI X tg iter ti)
 (hif:∀ cl C s H fp,qr6 (blk X scope cl C (nm++caps.map Prod.snd) s H fp) ifs tt)
 (hel:∀ cl C s H fp,RPE (blk X scope cl C (nm++caps.map Prod.snd) s H fp) elt te)
 (hX:X.env.scope=osc) (hN:X.N=oN)
 (hcaps:∀ p∈caps,oN[p.1]? =some p.2/\scope.names.lookup p.2=some .free/\(osc.names.lookup p.2=some .cell∨osc.names.lookup p.2=some .free))
 (hfr:∀ y∈scope.names,y.2= .free->(osc.names.lookup y.1=some .cell∨osc.names.lookup y.1=some .free))
 (hcell:∀ y∈scope.names,y.2≠.cell) (hkind:scope.kind= .function) (hnames:∀ y∈scope.names,y.2= .local->scope.names.lookup y.1=some .local)
 (hb:∀ r bs,bd r=some bs->bs.length=nm.length)
 (hpg:∀ cl C s2 H2 fp (pins':List (Addr×Obj)) (s6:Shared) (vs0 cv:List (Option V)) (H6:Hp) (rv:RV) (xv:V) (u:Value) (bs:List RV) (Q1:Unit->Shared->Prop),vs0.length=nm.length->Inv (blk X scope cl C (nm++caps.map Prod.snd) s2 H2 fp) pins' (vs0++cv) H6 s6->RelV xv u->Rep X.K H6 rv xv->bd rv=some bs->
  (∀ vs s7,Reps X.K H6 bs vs->Inv (blk X scope cl C (nm++caps.map Prod.snd) s2 H2 fp) pins' (vs.map some++cv) H6 s7->Q1 () s7)->wpAny (model X.prog X.w) X.A (assign tg (compEnvC scope cl C X.env) u) Q1 Nv s6)
 (hs:∀ v,foldedSetIterable iter X.env v=pure v) {pos':Pos} {pins:List (Addr×Obj)} {s:Shared} {σ0:L2.St} {H:Hp} {Q0:VK} (I:Inv X pins σ0 H s) (hw:up X.K (qe7 bd md ti (caps.map Prod.fst) tt te) σ0 H Q0) {use:Option (Value->Sem Unit)} {PP:Value->Shared->Prop}
 (fin:∀ (D C:Addr) (s5:Shared) (m5:Str->Option Value) (H5:Hp),s5.heap.Ns C m5->(∀ h',Heap.SameBut C s5.heap h'->Inv X pins σ0 H5 { s5 with heap:=h' })->Q0 (.ref D) H5->H5 C=none->C≠X.env.locals->X.s₀.heap.objs.size<=C->(∀ y c,X.env.cells.lookup y=some c->c≠C)->(∀ p∈X.pn++pins,p.1≠C)->compPost (model X.prog X.w) X.A X.xe use PP (.ref D) C (.ok .next) s5):
 wpAny (model X.prog X.w) X.A (comprehension (.ListComp elt [⟨tg,iter,ifs,0⟩] scope pos) scope X.env pos' (newList []) false (eval iter X.env) use) PP X.xe s:=by
 subst hX;subst hN;obtain⟨σ,M,Q,hst,hv,ht,hk⟩:=hw;obtain⟨cl,hclos,hcl1,hcl2⟩:=qkz scope fun y hy hf=>I.ok.has y.1 (hfr y hy hf)
 refine wpAny_comprehension_free (use:=use) (cl:=cl) rfl hs hclos hkind hnames ?_;refine wpAny_mono (hi pins s σ0 H (fun J H1=>∃ xs ok un M1,Ext H H1/\View X.K H1 M1/\qjD X.H₀ H X.K J xs ok un H1/\xs.length<sizeLine/\qaR bd md ok un tt te ((caps.map Prod.fst).map fun i=>(σ[i]?).join) xs [] M1 Q) I ⟨σ,M,_,hst,hv,ht,fun xs ok un M' J H' q e w hJ=>⟨xs,ok,un,M',e,w,hJ,q.1,q.2⟩⟩)
  (fun v s1 h1=>wpAny_mono h1 (fun itv s2 h2=>?_) fun _ _ e=>e) fun _ _ e=>e
 obtain⟨it,fp,tn,J,H2,rfl,I2,T,st2,f2,xs,ok,un,M1,e2,w2,hJ,hz,hq⟩:=h2;have flt:∀ b∈fp,b<s2.heap.objs.size:=fun b hb=>by obtain⟨o,e,_⟩:=T.obj _ _ st2 b hb;exact wae e
 refine wpAny_newObj_type (wpAny_newFunctionEnv hcell (by intro y hy;simp at hy) (fun h₁ hns₁ hsb₁=>?_) hkind)
 dsimp only at hns₁ hsb₁ ⊢;generalize hH2:s2.heap.push { cls:=.type "list",dict:=none,data:=.seq ([]:List Value).toArray }=hp2 at hns₁ hsb₁ ⊢;have hCs:hp2.objs.size=s2.heap.objs.size+1:=by rw[<-hH2,Heap.size_push]
 have hDC:s2.heap.objs.size≠hp2.objs.size:=by rw[hCs];exact waq (Nat.lt_succ_self _)
 have hCle:s2.heap.objs.size<=hp2.objs.size:=by rw[hCs];exact Nat.le_succ _
 have old:∀ b o,s2.heap.get? b=some o->h₁.get? b=some o:=fun b o e=>hsb₁.extBut b o (waq (by rw[hCs];exact wbc (wae e))) (Heap.get?_push_of_some _ (hH2 ▸ Heap.get?_push_of_some _ e))
 have hacc:h₁.get? s2.heap.objs.size=some { cls:=.type "list",data:=.seq ([]:List Value).toArray }:=hsb₁.extBut _ _ hDC (Heap.get?_push_of_some _ (hH2 ▸ Heap.get?_push_size _ rfl));generalize hD:s2.heap.objs.size=D at*;generalize hCg:hp2.objs.size=C at*;have hDfp:∀ b∈fp,b≠D:=fun b hb=>waq (flt b hb)
 have okB:(blk X scope cl C (nm++caps.map Prod.snd) s2 H2 fp).Ok:=qvd I2 f2 (by rw[hD];exact flt) hkind (by rw[hD];exact hCle) hcl1 hcl2 hcell
 have fr:∀ b,D<=b->H2 b=none:=fun b hb=>I2.hok.fresh (by rw[hD];exact hb)
 have capsV:∃ cv:List (Option V),cv.length=caps.length/\(∀ (j:Nat) v,cv[j]? =some (some v)->∃ p,caps[j]? =some p/\σ0[p.1]? =some (some v))/\
  ∀ (j:Nat) r,((caps.map Prod.fst).map fun i=>(σ[i]?).join)[j]? =some (some r)->∃ v,cv[j]? =some (some v)/\Rep X.K H2 r v:=by
  refine⟨caps.map fun p=>(σ0[p.1]?).join,by simp,fun j v e=>?_,fun j r e=>?_⟩
  · rw[List.getElem?_map]at e
    cases q:caps[j]? with
    |none=>rw[q]at e;cases e
    |some p=>
     rw[q]at e;have e':(σ0[p.1]?).join=some v:=Option.some.inj e;refine⟨p,rfl,?_⟩;cases z:σ0[p.1]? with
     |none=>rw[z]at e';cases e'
     |some o=>rw[z]at e';have:o=some v:=e';rw[this]
  · rw[List.getElem?_map,List.getElem?_map]at e
    cases q:caps[j]? with
    |none=>rw[q]at e;cases e
    |some p=>
     rw[q]at e;have e':(σ[p.1]?).join=some r:=Option.some.inj e;have e'':σ[p.1]? =some (some r):=by
      cases z:σ[p.1]? with
      |none=>rw[z]at e';cases e'
      |some o=>rw[z]at e';have:o=some r:=e';rw[this]
     obtain⟨v,h1,h2⟩:=hst.2 p.1 r e'';refine⟨v,?_,Rep.ext e2 r v h2⟩;rw[List.getElem?_map,q];show some ((σ0[p.1]?).join)=_;rw[h1];rfl
 obtain⟨cv,cvl,cv1,cv2⟩:=capsV;have I3:Inv (blk X scope cl C (nm++caps.map Prod.snd) s2 H2 fp) [(D,{ cls:=.type "list",data:=.seq ([]:List Value).toArray })] (List.replicate nm.length none++cv) H2 { s2 with heap:=h₁,toks:=s2.toks+([]:List (Str×Value)).length }:=by
  refine⟨okB,rfl,I2.bare,Un.kept old,⟨_,hns₁,fun i y v a b c=>?_⟩,fun y c e=>?_,fr C hCle,fun y c e=>I2.freeC y c (hcl1 y c e),fun p hp=>?_,I2.hok.kept old,?_⟩
  · by_cases hi0:i<nm.length
    · rw[List.getElem?_append_left (by rw[wa2];exact hi0),List.getElem?_replicate]at b
      split at b<;>cases b
    · obtain⟨j,rfl⟩:=Nat.exists_eq_add_of_le (Nat.le_of_not_lt hi0)
      rw[List.getElem?_append_right (by rw[wa2];omega),wa2,waX]at b
      have a:(caps.map Prod.snd)[j]? =some y:=by
       have a':(nm++caps.map Prod.snd)[nm.length+j]? =some y:=a;rw[List.getElem?_append_right (by omega),waX]at a';exact a'
      obtain⟨p,q1,q2⟩:=cv1 j v b;have hy:p.2=y:=by
       have a':(caps.map Prod.snd)[j]? =some y:=a;rw[List.getElem?_map,q1]at a';exact Option.some.inj a'
      subst hy;obtain⟨z1,z2,z3⟩:=hcaps p (List.mem_of_getElem? q1);obtain⟨m,hn,hl⟩:=I2.loc;have vis:Vis X.env.scope p.2:=by rcases z3 with z|z;exact .inr (.inl z);exact .inr (.inr z)
      obtain⟨u,ru,lk⟩:=hl p.1 p.2 v z1 q2 vis;refine⟨u,ru,.inr ⟨qdd z2,?_⟩⟩;obtain⟨c,ec⟩:=hcl2 (p.2,.free) (PySem.mem_of_lookup z2) rfl;have ec':=hcl1 p.2 c ec;rcases lk with⟨k,_⟩|⟨_,c',e',ic⟩
      · have k':X.env.scope.names.lookup p.2=some .local:=k
        rcases z3 with z|z<;>(rw[z]at k';cases k')
      · rw[ec']at e';cases e'
        obtain⟨o,ho,hd⟩:=ic;exact⟨c,ec,o,old c o ho,hd⟩
  · obtain⟨v,o,ho,hd⟩:=I2.cell y c (hcl1 y c e)
    exact⟨v,o,old c o ho,hd⟩
  · have hp':p=(D,{ cls:=.type "list",data:=.seq ([]:List Value).toArray }):=by simpa[blk]using hp
    subst hp';refine⟨hacc,fr D (wac _),hDC,fun z=>?_,fun v=>by simp⟩
    have:=I2.stkFree D z;rcases was.mp (I2.stkSub D z)with e|e
    · exact absurd I2.lt (by rw[<-e,hD];exact waM _)
    · exact I2.nofs (by rw[hD];exact wac _) e
  · show(List.replicate nm.length none++cv).length=(nm++caps.map Prod.snd).length
    simp[cvl]
 have W:∀ s3:Shared,s3= { s2 with heap:=h₁,toks:=s2.toks+([]:List (Str×Value)).length }->codeAny (model X.prog X.w) X.A (.compLoop (.ListComp elt [⟨tg,iter,ifs,0⟩] scope pos) 0 (.ref it) (.ref D) (compEnvC scope cl C X.env))
  (compPost (model X.prog X.w) X.A X.xe use PP (.ref D) C) s3:=by
  rintro s3 rfl;refine qmT (fun n s'=>∃ (i:Nat) (v0:List (Option V)) (H':Hp) (M':RM) (accR:List RV) (accV:List V) (its:List Value) (k:Nat),n=xs.length-i/\v0.length=nm.length/\i<=xs.length/\accR.length<=i/\
   Inv (blk X scope cl C (nm++caps.map Prod.snd) s2 H2 fp) [(D,{ cls:=.type "list",data:=.seq its.toArray k })] (v0++cv) H' s'/\View X.K H' M'/\Ext H2 H'/\Reps X.K H' accR accV/\Vals accV its/\tn i s'.heap/\(∀ b∈fp,H' b=none)/\
   qaR bd md ok un tt te ((caps.map Prod.fst).map fun i=>(σ[i]?).join) (xs.drop i) accR M' Q) ?_ xs.length ⟨0,List.replicate nm.length none,H2,M1,[],[],[],0,rfl,by simp,waV _,wac _,I3,w2,.refl _,Reps.nil,.nil,T.keep _ _ _ st2 fun b _ o e=>old b o e,fun b hb=>(f2 b hb).1,by simpa using hq⟩
  rintro n s' ⟨i,v0,H',M',accR,accV,its,k,rfl,hv0,hi,hal,I4,w4,e4,ra,rl,st4,f4,hq4⟩;have fpB:∀ (pins':List (Addr×Obj)) (H'':Hp),(∀ b∈fp,H'' b=none)->(∀ p∈pins',∀ b∈fp,p.1≠b)->∀ b∈fp,qo1 (blk X scope cl C (nm++caps.map Prod.snd) s2 H2 fp) pins' H'' b:=fun pins' H'' h1 h2 b hb=>
   ⟨h1 b hb,(okB.exf b hb).1,okB.exfs b hb,.inl hb,(okB.exf b hb).2,fun p hp=>h2 p (by simpa[blk]using hp) b hb⟩
  have pD:∀ (o:Obj),∀ p∈[(D,o)],∀ b∈fp,p.1≠b:=fun o p hp b hb=>by
   have:p=(D,o):=by simpa using hp
   subst this;exact(hDfp b hb).symm
  by_cases hlt:i<xs.length
  · have ed:xs.drop i=xs[i]::xs.drop (i+1):=by simp
    rw[ed]at hq4;obtain⟨hok,hq4⟩:=hq4;obtain⟨hgo,hy⟩:=hJ.turn i H' M' e4 w4 hok xs[i] (by simp)
    refine thn (T.item (blk X scope cl C (nm++caps.map Prod.snd) s2 H2 fp) rfl rfl rfl hc i _ s' _ H' Nv I4 (fpB _ _ f4 (pD _)) st4 hgo) fun r s5 ⟨u,hr,h5⟩=>.inr ⟨u,hr,?_⟩
    refine thn h5 fun _ s6 ⟨xv,H6,I6,r6,y6,st6,f6⟩=>?_
    obtain⟨e6,w6,rr6⟩:=hy xv H6 y6;have I6':=I6.pinned (fpB _ _ f6 (pD _)) (T.obj _ _ st6);obtain⟨bs,ebs,hq4⟩:∃ bs,bd xs[i]=some bs/\tt (bs.map some++(caps.map Prod.fst).map fun i=>(σ[i]?).join) M' fun c M1=>(c=true->te (bs.map some++(caps.map Prod.fst).map fun i=>(σ[i]?).join) M1 fun v M2=>qaR bd md ok un tt te ((caps.map Prod.fst).map fun i=>(σ[i]?).join) (xs.drop (i+1)) (accR++ [v]) M2 Q)/\(c=false->qaR bd md ok un tt te ((caps.map Prod.fst).map fun i=>(σ[i]?).join) (xs.drop (i+1)) accR M1 Q):=by
     split at hq4
     · rename_i bs e;exact⟨bs,e,hq4⟩
     · exact hq4.elim
    refine hpg cl C s2 H2 fp _ s6 v0 cv H6 xs[i] xv u bs _ hv0 I6' r6 rr6 ebs fun vs6 s7 rp6 I7=>?_
    have lv6:vs6.length=nm.length:=by rw[<-rp6.length];exact hb _ _ ebs
    have base:∀ {Hx:Hp},Ext H6 Hx->RepSt X.K Hx (bs.map some++(caps.map Prod.fst).map fun i=>(σ[i]?).join) (vs6.map some++cv):=fun {Hx} ex=>by
     have lb:=rp6.length;refine⟨by simp[cvl,lb],fun j r e=>?_⟩
     by_cases hj:j<bs.length
     · rw[List.getElem?_append_left (by simpa using hj),List.getElem?_map]at e
       cases q:bs[j]? with
       |none=>rw[q]at e;cases e
       |some r'=>
        rw[q]at e;have:r'=r:=Option.some.inj (Option.some.inj e);subst this;obtain⟨v,q1,q2⟩:=rp6.get q;exact⟨v,by rw[List.getElem?_append_left (by rw[wab];omega),List.getElem?_map,q1];rfl,Rep.ext ex _ _ q2⟩
     · obtain⟨k,rfl⟩:=Nat.exists_eq_add_of_le (Nat.le_of_not_lt hj)
       rw[List.getElem?_append_right (by simp),wab,waX]at e
       obtain⟨v,q1,q2⟩:=cv2 k r e;exact⟨v,by rw[List.getElem?_append_right (by rw[wab];omega),wab,<-lb,waX];exact q1,Rep.ext (e4.trans (e6.trans ex)) r v q2⟩
    have next:∀ (M8:RM) (H8:Hp) (s8:Shared) (accR':List RV) (accV':List V) (its':List Value) (k':Nat),accR'.length<=i+1->
     Inv (blk X scope cl C (nm++caps.map Prod.snd) s2 H2 fp) ([(D,{ cls:=.type "list",data:=.seq its'.toArray k' })]++qdf fp s6.heap) (vs6.map some++cv) H8 s8->View X.K H8 M8->Ext H6 H8->Reps X.K H8 accR' accV'->Vals accV' its'->
     qaR bd md ok un tt te ((caps.map Prod.fst).map fun i=>(σ[i]?).join) (xs.drop (i+1)) accR' M8 Q->∃ m,m<xs.length-i/\∃ (i:Nat) (v0:List (Option V)) (H':Hp) (M':RM) (accR:List RV) (accV:List V) (its:List Value) (k:Nat),m=xs.length-i/\v0.length=nm.length/\i<=xs.length/\accR.length<=i/\
     Inv (blk X scope cl C (nm++caps.map Prod.snd) s2 H2 fp) [(D,{ cls:=.type "list",data:=.seq its.toArray k })] (v0++cv) H' s8/\View X.K H' M'/\Ext H2 H'/\Reps X.K H' accR accV/\Vals accV its/\tn i s8.heap/\(∀ b∈fp,H' b=none)/\
     qaR bd md ok un tt te ((caps.map Prod.fst).map fun i=>(σ[i]?).join) (xs.drop i) accR M' Q:=by
     intro M8 H8 s8 accR' accV' its' k' hl' I8 w8 e8 ra' rl' hq8;have keep8:∀ b∈fp,∀ o,s6.heap.get? b=some o->s8.heap.get? b=some o/\H8 b=none:=fun b hb o e=>by
      have:=I8.pin (b,o) (war _ (war _ (qc1 hb e)));exact⟨this.1,this.2.1⟩
     refine⟨xs.length-(i+1),by omega,i+1,vs6.map some,H8,M8,accR',accV',its',k',rfl,by rw[wab];exact lv6,hlt,hl',I8.unpinned,w8,e4.trans (e6.trans e8),ra',rl',T.keep _ _ _ st6 fun b hb o e=>(keep8 b hb o e).1,fun b hb=>?_,hq8⟩
     obtain⟨o,e,_⟩:=T.obj _ _ st6 b hb;exact(keep8 b hb o e).2
    refine thn (hif cl C s2 H2 fp _ s7 _ H6 (fun oc H8=>∃ M8,View X.K H8 M8/\Ext H6 H8/\(oc=true->te (bs.map some++(caps.map Prod.fst).map fun i=>(σ[i]?).join) M8 fun v M2=>qaR bd md ok un tt te ((caps.map Prod.fst).map fun i=>(σ[i]?).join) (xs.drop (i+1)) (accR++ [v]) M2 Q)/\
     (oc=false->qaR bd md ok un tt te ((caps.map Prod.fst).map fun i=>(σ[i]?).join) (xs.drop (i+1)) accR M8 Q)) I7 ⟨_,M',_,base (.refl _),w6 M' w4,hq4,fun b M8 H8 q e w=>⟨M8,w,e,q.1,q.2⟩⟩) fun oc s8 ⟨H8,I8,M8,w8,e8,qt,qf⟩=>?_
    cases oc with
    |false=>
     exact next M8 H8 s8 accR accV its k (by omega) I8 w8 e8 (Reps.ext (e6.trans e8) _ _ ra) rl (qf rfl)
    |true=>
     refine thn (hel cl C s2 H2 fp _ s8 _ H8 (fun v H9=>∃ rv M9,View X.K H9 M9/\Ext H8 H9/\Rep X.K H9 rv v/\qaR bd md ok un tt te ((caps.map Prod.fst).map fun i=>(σ[i]?).join) (xs.drop (i+1)) (accR++ [rv]) M9 Q) I8 ⟨_,M8,_,base e8,w8,qt rfl,fun rv M9 v H9 q e w r=>⟨rv,M9,w,e,r,q⟩⟩) fun y s9 ⟨yv,H9,I9,r9,rv,M9,w9,e9,rr9,hq9⟩=>?_
     have pD9:=I9.pin (D,{ cls:=.type "list",data:=.seq its.toArray k }) (war _ (List.mem_append_left _ waw));have hlen:its.length<=i:=by rw[<-rl.length,<-ra.length];exact hal
     refine call_meets F.slot_list_append ⟨_,pD9.1,rfl⟩ F.entry_list_append (F.args_list_append_2 _ _) (PySem.list_append D its.toArray k y (by rw[wag];omega)) ⟨pD9.1,?_⟩
     have q:=PySem.IsL.update pD9.1 (fun x_1=>x_1.push y)
     have hpush:its.toArray.push y=(its++ [y]).toArray:=by simp
     rw[hpush]at q;obtain⟨k',q⟩:∃ k',(s9.heap.update D (Obj.mapSeq fun x_1=>x_1.push y)).get? D=some { cls:=.type "list",data:=.seq (its++ [y]).toArray k' }:=⟨_,q⟩
     have I10:Inv (blk X scope cl C (nm++caps.map Prod.snd) s2 H2 fp) (qdf fp s6.heap) (vs6.map some++cv) H9 { s9 with heap:=s9.heap.update D (Obj.mapSeq fun x_1=>x_1.push y),toks:=s9.toks }:=by
      refine Inv.turned (it:=D) (I9.pins_of fun p hp=>I9.pin p (war _ (war _ hp))) (fun b o hb e=>(Heap.get?_update_other _ _ (Ne.symm hb)).trans e) pD9.2.1 pD9.2.2.1 (.inr (by show s2.heap.objs.size<=D;rw[hD];exact wac _)) (fun z c e=>?_) fun p hp=>?_
      · obtain⟨v,o,ho,hd⟩:=I2.cell z c (hcl1 z c e)
        exact waq (by have:=wae ho;rw[hD]at this;exact this)
      · have hp':p∈qdf fp s6.heap:=by simpa[blk]using hp
        exact hDfp p.1 (qgQ hp').1
     have I11:Inv (blk X scope cl C (nm++caps.map Prod.snd) s2 H2 fp) ([(D,{ cls:=.type "list",data:=.seq (its++ [y]).toArray k' })]++qdf fp s6.heap) (vs6.map some++cv) H9 { s9 with heap:=s9.heap.update D (Obj.mapSeq fun x_1=>x_1.push y),toks:=s9.toks }:=by
      refine I10.pins_of fun p hp=>?_
      rcases wax.mp hp with hp|hp
      · have:p=(D,{ cls:=.type "list",data:=.seq (its++ [y]).toArray k' }):=by simpa using hp
        subst this;exact⟨q,pD9.2.1,pD9.2.2.1,pD9.2.2.2.1,fun v=>by simp⟩
      · exact I10.pin p (war _ hp)
     exact next M9 H9 _ (accR++ [rv]) (accV++ [yv]) (its++ [y]) k' (by rw[wao,List.length_singleton];omega) I11 w9 (e8.trans e9) ((Reps.ext (e6.trans (e8.trans e9)) _ _ ra).append (Reps.cons rr9 Reps.nil)) (rl.append (.cons r9 .nil)) hq9
  · have ei:i=xs.length:=by omega
    subst ei;refine thn (T.done (blk X scope cl C (nm++caps.map Prod.snd) s2 H2 fp) rfl rfl rfl hc _ _ s' _ H' Nv I4 (fpB _ _ f4 (pD _)) st4 (hJ.stop _ H' M' e4 w4 (by rw[List.drop_length]at hq4;exact hq4.1) (wac _))) fun r s5 ⟨hr,I5⟩=>.inl ⟨hr,?_⟩
    rw[List.drop_length]at hq4;obtain⟨hok4,hq4⟩:=hq4;obtain⟨m5,hn5,_⟩:=I5.loc;have pD5:=I5.pin (D,{ cls:=.type "list",data:=.seq its.toArray k }) (war _ waw);have hC5:H' C=none:=I5.free;have lC:X.env.locals<C:=waj I2.lt (by rw[hD];exact hCle)
    obtain⟨HD,oHD,wHD,qHD⟩:∃ HD:HO,(∀ h':Heap,h'.get? D=some { cls:=.type "list",data:=.seq its.toArray k }->accV.length<=sizeLine->ObjOk X.prog X.w (upd H' D HD) h' D HD)/\(∀ o u,HD= .frz o u->qmi u=false)/\∃ H5,Thaw X.H₀ (upd H' D HD) H5/\Q0 (.ref D) H5/\H5 C=none:=by
     have keyD:∀ (HD:HO),∃ H5,Thaw X.H₀ (upd H' D HD) H5/\H5 C=none/\∃ H4,ExtW H' H4/\Ext H H4/\View X.K H4 (un M')/\H4 D=none/\H5=upd H4 D HD:=fun HD=>by
      obtain⟨H4,t4,e4',x4',v4⟩:=hJ.thaw H' M' e4 w4 hok4;rcases t4 with h4|⟨d,ob,u,h1,du,h0,rfl⟩
      · rw[h4]at v4 x4'
        exact⟨_,.inl rfl,by rw[qae (Ne.symm hDC)];exact hC5,H',(Ext.refl _).w,x4',v4,pD5.2.1,rfl⟩
      · have nd:d≠D:=fun z=>by rw[z,pD5.2.1]at h1;cases h1
        have nc:d≠C:=fun z=>by rw[z,hC5]at h1;cases h1
        have h1':upd H' D HD d=some (.frz ob u):=by rw[qae nd];exact h1
        have eq:upd (upd H' D HD) d u=upd (upd H' d u) D HD:=by
         funext b;unfold upd
         by_cases b1:b=d
         · subst b1;rw[if_pos rfl,if_neg nd,if_pos rfl]
         · rw[if_neg b1]
           by_cases b2:b=D
           · rw[if_pos b2,if_pos b2]
           · rw[if_neg b2,if_neg b2,if_neg b1]
        exact⟨_,.inr ⟨d,ob,u,h1',du,h0,rfl⟩,by rw[qae nc.symm,qae (Ne.symm hDC)];exact hC5,_,e4',x4',v4,by rw[qae nd.symm];exact pD5.2.1,eq⟩
     cases md with
     |false=>
      obtain⟨H5,t5,c5,H4,x4,y4,v4,n4,rfl⟩:=keyD (.frz { cls:=.type "list",data:=.seq its.toArray k } (.lst accV));exact⟨.frz { cls:=.type "list",data:=.seq its.toArray k } (.lst accV),fun h' e z=>⟨e,z,its,k,rl,e⟩,fun o u z=>by cases z;rfl,_,t5,hk _ _ _ _ hq4 (y4.trans (Ext.new n4)) (v4.new n4) (qcb n4 (Reps.extw x4 _ _ ra)),c5⟩
     |true=>
      obtain⟨H5,t5,c5,H4,x4,y4,v4,n4,rfl⟩:=keyD (.lst accV);exact⟨.lst accV,fun h' e z=>⟨z,its,k,rl,e⟩,fun o u z=>(by cases z),_,t5,hk _ _ _ _ (hq4 D (v4.free n4)) (y4.trans (Ext.new n4)) (v4.newPut n4 ⟨accV,rfl,Reps.extw (x4.trans (Ext.new n4).w) _ _ ra⟩) (by simp only[Rep]),c5⟩
    obtain⟨H5,t5,q5,c5⟩:=qHD;refine fin D C s5 m5 H5 hn5 (fun h' sb=>t5.inv ?_) q5 c5 (Nat.ne_of_gt lC) (wal I2.ok.above (waU lC)) (fun y c e=>?_) fun p hp=>?_
    rotate_left
    · obtain⟨v,o,ho,_⟩:=I2.cell y c e
      exact waq (waj (wae ho) (by rw[hD];exact hCle))
    · exact waq (waj (wae (I2.pin p hp).1) (by rw[hD];exact hCle))
    have hDh:h'.get? D=some { cls:=.type "list",data:=.seq its.toArray k }:=sb.extBut _ _ hDC pD5.1;have hz':accV.length<=sizeLine:=by rw[<-ra.length];omega
    have hok5:HOk X.prog X.w (upd H' D HD) h':=fun b u q=>by
     by_cases hb:b=D
     · subst hb;rw[qaj]at q;cases q
       exact oHD h' hDh hz'
     · rw[qae hb]at q
       refine(I5.hok b u q).stay (fun c v hcb e=>sb.extBut c v ?_ e) (fun c e=>?_) fun c ys e=>?_
       · rcases hcb with rfl|e'
         · exact qah q hC5
         · exact qah e' hC5
       · rw[qae (qah e pD5.2.1)];exact e
       · rw[qae (qah e pD5.2.1)];exact e
    have un5:Un (frs X.stack) fp H2 (upd H' D HD) s2.heap h':=by
     have B:Un (frs X.stack) fp H2 H' s2.heap s5.heap:=I5.base;have nC:∀ b o,s2.heap.get? b=some o->b≠C:=fun b o e=>waq (waj (wae e) (by rw[hD];exact hCle))
     have nD:∀ b o,s2.heap.get? b=some o->b≠D:=fun b o e=>waq (by have:=wae e;rw[hD]at this;exact this)
     refine⟨fun b o a1 a2 a3 a4=>sb.extBut b o (nC b o a1) (B.keep b o a1 a2 a3 a4),fun b o a1 a2 a3 a4=>?_,fun b o a1 a2 a4=>?_,fun b o a1 a4=>?_,fun b ys a=>?_,fun b o u a=>?_,fun b ps a=>?_⟩
     · obtain⟨sl,e⟩:=B.slot b o a1 a2 a3 a4
       exact⟨sl,sb.extBut b _ (nC b o a1) e⟩
     · rw[qae (nD b o a1)];exact B.free b o a1 a2 a4
     · obtain⟨o',e⟩:=B.there b o a1 a4
       exact⟨o',sb.extBut b o' (nC b o a1) e⟩
     · have e:=B.tups b ys a;rw[qae (qah e pD5.2.1)];exact e
     · have e:=B.frzs b o u a;rw[qae (qah e pD5.2.1)];exact e
     · obtain⟨more,e⟩:=B.tbls b ps a;exact⟨more,by rw[qae (qah e pD5.2.1)];exact e⟩
    have I6:Inv X pins σ0 (upd H' D HD) { s5 with heap:=h' }:=I2.call' (ch:=fp) I5.os un5 hok5 I5.bare fun b hb=>⟨(f2 b hb).2.2.2.1,(f2 b hb).2.1,(f2 b hb).2.2.2.2.1,(f2 b hb).2.2.2.2.2⟩
    exact I6
 exact codeAny_compStart_list (W _ rfl) (T.self X.A 0 _ _ _ (T.keep _ _ _ st2 fun b _ o e=>old b o e) (W _ rfl))
def qga:List Expr->Option (List Str)
 | []=>some []
 | .Name x _::r=>(qga r).map (x:: ·)
 |_::_=>none
def qDO(n:Nat):RV->Option (List RV)
 | .tup xs=>if xs.length=n then some xs else none
 |_=>none
def qDP(r:RV):Option (List RV):=some [r]
theorem qjn{es:List Expr}{xs:List Str}:∀ (es:List Expr) (xs:List Str) (j:Nat),qga es=some xs->X.N.Nodup->(∀ i x,xs[i]? =some x->X.N[j+i]? =some x)->(∀ x∈xs,X.env.scope.names.lookup x=some .local)->PGs X es (qow (List.range' j xs.length))/\(assignEach es X.env).length=xs.length/\(assignEach es X.env).findIdx? (·.1)=none
 | [],xs,j,h,_,_,_=>by cases h;exact⟨qlF,rfl,rfl⟩
 | .Name x p::r,xs,j,h,hnd,hN,hl=>by
  cases e:qga r with
  |none=>simp only[qga,e]at h;cases h
  |some ys=>
   simp only[qga,e]at h;cases h;obtain⟨a,b,c⟩:=qjn (es:=es) (xs:=xs) r ys (j+1) e hnd (fun i y hy=>by have:=hN (i+1) y (by simpa using hy);rw[<-this];congr 1;omega) fun y hy=>hl y (wap _ hy)
   have hx:=hl x waw;have hd:(assignEach (.Name x p::r) X.env)=(false,assign (.Name x p) X.env)::assignEach r X.env:=rfl;refine⟨?_,by rw[hd,waf,b];rfl,?_⟩
   · rw[waf,List.range'_succ]
     exact qje (qfH (i:=j) hnd (by simpa using hN 0 x rfl) (.inl hx) (.inr hx)) a
   · rw[hd,List.findIdx?_cons,c];rfl
theorem qmG{H:Hp}{Q:L2.St->Hp->Prop}:∀ (vs:List V) (pre vs0 cv:List (Option V)),vs0.length=vs.length->Q (pre++(vs.map some++cv)) H->qow (List.range' pre.length vs.length) vs (pre++(vs0++cv)) H Q
 | [],pre,vs0,cv,h,q=>by
  have:vs0= []:=List.eq_nil_of_length_eq_zero h;subst this;exact⟨rfl,q⟩
 |v::vs,pre,vs0,cv,h,q=>by
  cases vs0 with
  |nil=>cases h
  |cons o r=>
   rw[waf,List.range'_succ];refine⟨v,vs,rfl,?_⟩;show qow _ vs ((pre++(o::r++cv)).set pre.length (some v)) H Q;have e:(pre++(o::r++cv)).set pre.length (some v)=(pre++ [some v])++(r++cv):=by simp
   rw[e];have:=qmG (H:=H) (Q:=Q) vs (pre++ [some v]) r cv (by simpa using h) (by simpa using q)
   simpa using this
def qsz(tup:Bool)(tg:Expr)(nm:List Str):Prop:=match tup,tg with
 |false,.Name x _=>nm= [x]
 |true,.Tuple es _ _=>qga es=some nm
 |_,_=>False
def qhF(tup:Bool)(n:Nat):RV->Option (List RV):=match tup with
 |true=>qDO n
 |false=>qDP
theorem qjx{elt iter tg:Expr}{nm:List Str}{tup md:Bool}{scope:Scope}{pos:Pos}{ti:RTI}{tt:RTT}{te:RTE}{ifs:List Expr}(caps:List (Nat×Str)){osc:Scope}{oN:List Str}(htg:qsz tup tg nm)
 (hc:X.calm=true) (hi:RPI X tg iter ti)
 (hif:∀ cl C s H fp,qr6 (blk X scope cl C (nm++caps.map Prod.snd) s H fp) ifs tt)
 (hel:∀ cl C s H fp,RPE (blk X scope cl C (nm++caps.map Prod.snd) s H fp) elt te)
 (hX:X.env.scope=osc) (hN:X.N=oN)
 (hcaps:∀ p∈caps,oN[p.1]? =some p.2/\scope.names.lookup p.2=some .free/\(osc.names.lookup p.2=some .cell∨osc.names.lookup p.2=some .free))
 (hfr:∀ y∈scope.names,y.2= .free->(osc.names.lookup y.1=some .cell∨osc.names.lookup y.1=some .free))
 (hcell:∀ y∈scope.names,y.2≠.cell) (hkind:scope.kind= .function) (hnames:∀ y∈scope.names,y.2= .local->scope.names.lookup y.1=some .local) (hx:∀ x∈nm,scope.names.lookup x=some .local) (hnd:(nm++caps.map Prod.snd).Nodup)
 (hs:∀ v,foldedSetIterable iter X.env v=pure v) {pos':Pos} {pins:List (Addr×Obj)} {s:Shared} {σ0:L2.St} {H:Hp} {Q0:VK} (I:Inv X pins σ0 H s) (hw:up X.K (qe7 (qhF tup nm.length) md ti (caps.map Prod.fst) tt te) σ0 H Q0) {use:Option (Value->Sem Unit)} {PP:Value->Shared->Prop}
 (fin:∀ (D C:Addr) (s5:Shared) (m5:Str->Option Value) (H5:Hp),s5.heap.Ns C m5->(∀ h',Heap.SameBut C s5.heap h'->Inv X pins σ0 H5 { s5 with heap:=h' })->Q0 (.ref D) H5->H5 C=none->C≠X.env.locals->X.s₀.heap.objs.size<=C->(∀ y c,X.env.cells.lookup y=some c->c≠C)->(∀ p∈X.pn++pins,p.1≠C)->compPost (model X.prog X.w) X.A X.xe use PP (.ref D) C (.ok .next) s5):
 wpAny (model X.prog X.w) X.A (comprehension (.ListComp elt [⟨tg,iter,ifs,0⟩] scope pos) scope X.env pos' (newList []) false (eval iter X.env) use) PP X.xe s:=by
 refine qmU (bd:=qhF tup nm.length) (md:=md) (nm:=nm) caps hc hi hif hel hX hN hcaps hfr hcell hkind hnames (fun r bs e=>?_) (fun cl C s2 H2 fp pins' s6 vs0 cv H6 rv xv u bs Q1 hl I6 r6 rr6 eb hQ=>?_) hs I hw fin
 · cases tup with
   |false=>
    cases tg<;>first|(exact False.elim htg)|skip
    have htg:nm=_:=htg;subst htg;cases e;rfl
   |true=>
    cases r<;>first|(cases(show none=some bs from e))|skip
    rename_i xs;have e':(if xs.length=nm.length then some xs else none)=some bs:=e
    split at e'
    · rename_i hh;cases e';exact hh
    · cases e'
 · have hls:∀ x∈nm,(blk X scope cl C (nm++caps.map Prod.snd) s2 H2 fp).env.scope.names.lookup x=some .local:=fun x h=>lookup_relabel_local (hx x h)
   cases tup with
   |false=>
    cases tg<;>first|(exact False.elim htg)|skip
    rename_i x px;have htg:nm=_:=htg;subst htg;cases eb;obtain⟨v0,rfl⟩:=List.length_eq_one_iff.mp hl;have hx0:=hls x (by simp)
    refine thn (qfH (X:=blk X scope cl C (x::caps.map Prod.snd) s2 H2 fp) (i:=0) hnd rfl (.inl hx0) (.inr hx0) _ s6 _ H6 xv u (fun σ' H'=>σ'=(some xv::cv)/\H'=H6) I6 r6 ⟨rfl,rfl⟩) fun _ s7 h7=>?_
    obtain⟨σ7,H7,I7,q7,q7'⟩:=h7;subst q7 q7';exact hQ [xv] s7 (Reps.cons rr6 Reps.nil) I7
   |true=>
    cases tg<;>first|(exact False.elim htg)|skip
    rename_i es tk tp;have htg:qga es=some nm:=htg;cases rv<;>first|(cases(show none=some bs from eb))|skip
    rename_i xs;have e':(if xs.length=nm.length then some xs else none)=some bs:=eb
    split at e'
    · rename_i hh;cases e'
      simp only[Rep]at rr6;obtain⟨pa,pvs,rfl,sq6,rp6⟩:=rr6;have hlen:pvs.length=nm.length:=by rw[<-rp6.length];exact hh
      obtain⟨g1,g2,g3⟩:=qjn (X:=blk X scope cl C (nm++caps.map Prod.snd) s2 H2 fp) (es:=es) (xs:=nm) es nm 0 htg hnd (fun i x e=>by
       show(nm++caps.map Prod.snd)[0+i]? =some x;rw[Nat.zero_add,List.getElem?_append_left (List.getElem?_eq_some_iff.mp e).1];exact e) hls
      have pg:PG (blk X scope cl C (nm++caps.map Prod.snd) s2 H2 fp) (.Tuple es tk tp) (qAP X.K nm.length (qow (List.range' 0 nm.length))):=qph (n:=nm.length) hc g1 g2 g3;refine thn (pg _ s6 _ H6 _ u (fun σ' H'=>σ'=(pvs.map some++cv)/\H'=H6) I6 r6 ⟨pa,pvs,rfl,SqT.of sq6,hlen,?_⟩) fun _ s7 h7=>?_
      · have:=qmG (H:=H6) (Q:=fun σ' H'=>σ'=(pvs.map some++cv)/\H'=H6) pvs [] vs0 cv (by rw[hlen];exact hl) ⟨rfl,rfl⟩
        rw[hlen]at this;exact this
      · obtain⟨σ7,H7,I7,q7,q7'⟩:=h7
        subst q7 q7';exact hQ pvs s7 rp6 I7
    · cases e'
end
def qfc:RV->Option Key
 | .int i=>some (.inl i)
 | .str x=>some (.inr x)
 |_=>none
def qa0{α:Type}(kvs:List (Key×α))(k:Key):Option α:=(kvs.find? fun p=>decide (p.1=k)).map (·.2)
theorem qcj{K:Frg}{H:Hp}{a:RV}{x:V}{k:Key}(e:qfc a=some k)(r:Rep K H a x):x=kV k:=by
 cases a with
 |int i=>cases e;simp only[Rep]at r;exact r
 |str y=>cases e;simp only[Rep]at r;exact r
 |_=>cases e
theorem qbz{K:Frg}{H:Hp}{k:Key}:∀ {kvs:List (Key×RV)} {ws:List (Key×V)},RepP K H kvs ws->(∀ r,qa0 kvs k=some r->∃ v,qeF ws k=some v/\Rep K H r v)/\(qa0 kvs k=none->qeF ws k=none)
 | [],ws,h=>by
  have h:ws= []:=h;subst h;exact⟨fun r e=>(by cases e),fun _=>rfl⟩
 |(j,x)::t,ws,h=>by
  obtain⟨v,u,rfl,h1,h2⟩:=h;have ih:=qbz (k:=k) h2;unfold qa0;rw[List.find?_cons]
  by_cases hj:j=k
  · rw[decide_eq_true (show(j,x).1=k from hj)]
    refine⟨fun r e=>⟨v,qcp (p:=(j,v)) hj,?_⟩,fun e=>(by cases e)⟩
    cases e;exact h1
  · rw[decide_eq_false (show ¬(j,x).1=k from hj)]
    refine⟨fun r e=>?_,fun e=>?_⟩
    · rw[qbF (p:=(j,v)) hj];exact ih.1 r e
    · rw[qbF (p:=(j,v)) hj];exact ih.2 e
theorem qdg:∀ (ws acc:List (Key×V)),((acc++ws).map Prod.fst).Nodup->qcx acc ws=acc++ws
 | [],acc,_=>by simp[qcx]
 |p::r,acc,h=>by
  have e:qeF acc p.1=none:=by
   cases q:qeF acc p.1 with
   |none=>rfl
   |some v=>
    have m:=qpU q;rw[wau,wad,waT]at h;exact absurd rfl (h.2.2 p.1 m p.1 waw)
  show qcx (putK acc p.1 p.2) r=_;rw[qnT _ e,qdg r (acc++ [(p.1,p.2)]) (by simpa using h)]
  simp
structure KTab(P:Program)(w:World)(K:Frg)(mg:Str->Option Value)(x:Str)(kvs:List (Key×RV)):Prop where
 ex:∃ (a:Addr) (vs:List (Key×Value)) (ws:List (Key×V)),mg x=some (.ref a)/\(a==sysModules)=false/\(∀ h:Heap,K.In h->h.DictOf (qak P w) a vs)/\KV ws vs/\∀ H,RepP K H kvs ws
noncomputable def qno (w:World):List DictEntry->List (Str×Value)->Prop
 | [],[]=>True
 |e::es,(x,v)::r=>(∃ t,e.key= .str x t)/\e.hash=hashStr w x/\e.val=v/\qno w es r
 |_,_=>False
theorem qej{P:Program}{w:World}:∀ {es:List DictEntry} {vs:List (Str×Value)},qno w es vs->
 (∀ e∈es,∃ k,(qak P w).is k e.key=true/\e.hash=(qak P w).hash k)/\Pairs (qak P w) es (vs.map fun p=>((Sum.inr p.1:Key),p.2))
 | [],[],_=>⟨fun _ h=>(by cases h),Pairs.nil⟩
 |e::es,(x,v)::r,h=>by
  obtain⟨⟨t,h1⟩,h2,h3,h4⟩:=h;obtain⟨ih1,ih2⟩:=qej (P:=P) (w:=w) h4;have hi:(qak P w).is (.inr x) e.key=true:=by rw[h1];exact qeb P w x t
  refine⟨fun e' he=>?_,?_⟩
  · rcases was.mp he with rfl|he
    · exact⟨.inr x,hi,h2⟩
    · exact ih1 e' he
  · subst h3
    exact Pairs.cons hi rfl ih2
theorem qea:∀ {l:List Str},l.Nodup->(l.map (Sum.inr:Str->Key)).Nodup
 | [],_=>wa3
 |a::r,h=>by
  obtain⟨h1,h2⟩:=waC.mp h;rw[wad];refine waC.mpr ⟨fun m=>?_,qea h2⟩
  obtain⟨b,hb,e⟩:=wai.mp m;cases e;exact h1 hb
theorem ql5{P:Program}{w:World}{K:Frg}{mg:Str->Option Value}{x:Str}{a:Addr}{es:Array DictEntry}{ep:Nat}{sl:Array (Option Value)}{vs:List (Str×Value)}{kvs:List (Key×RV)}{ws:List (Key×V)}
 (hm:mg x=some (.ref a)) (l:K.lookup a=some ⟨.type "dict",none,.dict es ep,sl⟩) (ha:(a==sysModules)=false) (hr:qno w es.toList vs) (hn:(vs.map Prod.fst).Nodup)
 (hsl:Obj.ExactDict ⟨.type "dict",none,.dict es ep,sl⟩) (hk:KV ws (vs.map fun p=>((Sum.inr p.1:Key),p.2))) (hp:∀ H,RepP K H kvs ws):KTab P w K mg x kvs:=by
 obtain⟨h1,h2⟩:=qej (P:=P) hr;refine⟨a,_,ws,hm,ha,fun h X=>⟨_,es,ep,X _ _ l,hsl,rfl,fun e he=>h1 e (by simpa using he),h2,?_⟩,hk,hp⟩
 have:(vs.map fun p=>((Sum.inr p.1:Key),p.2)).map (·.1)=(vs.map Prod.fst).map Sum.inr:=by simp[wah,Function.comp_def]
 rw[this];exact qea hn
section
variable {X:Cx}
noncomputable def qvA (kvs:List (Key×RV))(te:RTE):RTE:=fun σ M Q=>te σ M fun k M1=>match qfc k with
 |some key=>(match qa0 kvs key with|some v=>Q v M1|none=>False)
 |none=>False
theorem qC3{x:Str}{kvs:List (Key×RV)}{e:Expr}{te:RTE}{p pos:Pos}(T:KTab X.prog X.w X.K X.mg x kvs)(he:RPE X e te)(hs:qsk e:=by intro _ _;rfl)(hg:Gl X x:=by rfl)(hd:(x==("__debug__":Str))=false:=by decide):
 RPE X (.Subscript (.Name x p) e pos) (qvA kvs te):=by
 obtain⟨a,vs,ws,hm,ha,hD,hk,hr⟩:=T.ex;intro pins s σ0 H Q0 I h;obtain⟨σ,M,Q,hs',hv,ht,hq⟩:=h;refine qkR PySem.F.slot_dict_getitem.lookup hs (qci I hg hm (thn (he pins s σ0 H (fun v H1=>∃ r M1,Rep X.K H1 r v/\Ext H H1/\View X.K H1 M1/\(match qfc r with
  |some key=>(match qa0 kvs key with|some v=>Q v M1|none=>False)
  |none=>False)) I ⟨σ,M,_,hs',hv,ht,fun r M1 v H1 q e w r1=>⟨r,M1,r1,e,w,q⟩⟩) fun iv s2 ⟨y,H2,I2,ry,r,M2,rr,e2,w2,q2⟩=>?_) hd)
 have dd:=hD _ I2.kIn;refine⟨dd.typeIs,?_⟩;cases ek:qfc r with
 |none=>rw[ek]at q2;exact q2.elim
 |some key=>
  rw[ek]at q2;simp only at q2;cases el:qa0 kvs key with
  |none=>rw[el]at q2;exact q2.elim
  |some rv=>
   rw[el]at q2;simp only at q2;obtain⟨v,e1,r1⟩:=(qbz (k:=key) (hr H2)).1 rv el;have:=qcj ek rr;subst this;obtain⟨w',hw,rw'⟩:=RelO.some_of (v:=v) (o:=valueAt vs key) (by rw[<-e1];exact hk.val key)
   exact wpAny_getItem_of (qdH ry) dd.mapOf hw ⟨v,H2,I2.tok _,rw',hq rv M2 v H2 q2 e2 w2 r1⟩
theorem qjJ{K:Frg}{H:Hp}{kvs:List (Key×RV)}{ws:List (Key×V)}{vs:List (Key×Value)}{key:Key}(hk:KV ws vs)(hr:RepP K H kvs ws):(valueAt vs key).isSome=(qa0 kvs key).isSome:=by
 rw[<-(hk.val key).isSome_eq];cases el:qa0 kvs key with
 |none=>rw[(qbz (k:=key) hr).2 el];rfl
 |some rv=>obtain⟨v,e1,_⟩:=(qbz (k:=key) hr).1 rv el;rw[e1];rfl
def drop(M:RM)(p:Addr):RM:=fun b=>if b=p then none else M b
theorem qoA{M:RM}{p:Addr}{o:RO}(h:M p=none):drop (put M p o) p=M:=by
 funext b;unfold drop put
 by_cases hb:b=p
 · subst hb;simp[h]
 · simp[hb]
theorem View.drop{K:Frg}{H:Hp}{M:RM}(w:View K H M)(p:Addr):View K H (drop M p):=fun a o e=>by
 unfold R.drop at e;split at e
 · cases e
 · exact w a o e
noncomputable def qfD (kvs:List (Key×RV))(te:RTE):RTE:=fun σ M Q=>∀ p,M p=none->te σ (put M p (.dk kvs)) fun k M1=>M1 p=some (.dk kvs)/\(match qfc k with
 |some key=>(match qa0 kvs key with|some v=>Q v (drop M1 p)|none=>False)
 |none=>False)
def qcP:List (Key×V)->List (TE×TE)
 | []=>[]
 |(k,v)::r=>(tC (kV k),tC v)::qcP r
theorem qeD{σ:L2.St}:∀ {ws:List (Key×V)} {H:Hp} {Q:List (V×V)->Hp->Prop},Q (ws.map fun kv=>(kV kv.1,kv.2)) H->qi2 (qcP ws) σ H Q
 | [],_,_,h=>h
 |(k,v)::r,H,Q,h=>qeD (ws:=r) (Q:=fun ps H3=>Q ((kV k,v)::ps) H3) h
theorem qnK{kvs:List (Key×RV)}{ws:List (Key×V)}{keys:List (Option Expr)}{values:List Expr}{e:Expr}{te:RTE}{p1 pos:Pos}(hu:X.A.units+1<cLine)(h:PPs X p1 keys values (qcP ws))(he:RPE X e te)(hr:∀ H,RepP X.K H kvs ws)
 (hn:(ws.map Prod.fst).Nodup) (hl15:ws.length<=15:=by decide) (hall:keys.all (·.isSome)=true:=by rfl) (hl:keys.length=values.length:=by rfl) (h0:keys≠[]:=by exact List.cons_ne_nil _ _) (h15:keys.length<=15:=by decide) (hs:qsk e:=by intro _ _;rfl):
 RPE X (.Subscript (.Dict keys values p1) e pos) (qfD kvs te):=PE.imp (qlG hu (qqL h hall hl h0 h15) he hs) fun σ0 H Q0 h=>by
 obtain⟨σ,M,Q,hst,hv,ht,hk⟩:=h;intro p hp;refine qeD ⟨qaj,ws,rfl,hl15,?_⟩;have hm:qcx [] ws=ws:=by have:=qdg ws [] (by simpa using hn);simpa using this
 rw[hm,qkI];have ex:Ext H (upd H p (.dK ws)):=Ext.new hp;refine⟨σ,put M p (.dk kvs),_,hst.ext ex,hv.newPut hp ⟨ws,rfl,hr _⟩,ht p (hv.free hp),fun r M1 v H1 q e1 w1 r1=>?_⟩
 obtain⟨q0,q⟩:=q;obtain⟨ho,eh,rp⟩:=w1 p _ q0;obtain⟨ws1,rfl,rp⟩:=rp;cases ek:qfc r with
 |none=>rw[ek]at q;exact q.elim
 |some key=>
  rw[ek]at q;simp only at q;cases el:qa0 kvs key with
  |none=>rw[el]at q;exact q.elim
  |some rv=>
   rw[el]at q;simp only at q;obtain⟨v',e',r'⟩:=(qbz (k:=key) rp).1 rv el;have:=qcj ek r1;subst this;exact⟨p,v',rfl,by rw[<-e'];exact DGet.k eh,hk rv _ v' H1 q (ex.trans e1) (w1.drop p) r'⟩
def kvI(l:List (Str×Int)):List (Key×RV):=l.map fun p=>((Sum.inr p.1:Key),RV.int p.2)
def wsI(l:List (Str×Int)):List (Key×V):=l.map fun p=>((Sum.inr p.1:Key),V.int p.2)
theorem qli{K:Frg}{H:Hp}:∀ l:List (Str×Int),RepP K H (kvI l) (wsI l)
 | []=>rfl
 |p::r=>⟨V.int p.2,wsI r,rfl,by simp only[Rep],qli r⟩
theorem qqZ{l:List (Str×Int)}(h:(l.map Prod.fst).Nodup):((wsI l).map Prod.fst).Nodup:=by
 have e:(wsI l).map Prod.fst=(l.map Prod.fst).map (Sum.inr:Str->Key):=by simp[wsI,wah,Function.comp_def]
 rw[e];exact qea h
theorem qsY(l:List (Str×Int)){keys:List (Option Expr)}{values:List Expr}{trs:List (TE×TE)}{e:Expr}{te:RTE}{p1 pos:Pos}(hu:X.A.units+1<cLine)(h:PPs X p1 keys values trs)(he:RPE X e te)
 (hn:(l.map Prod.fst).Nodup) (ht:trs=qcP (wsI l):=by rfl) (hl15:l.length<=15:=by decide) (hall:keys.all (·.isSome)=true:=by rfl) (hl:keys.length=values.length:=by rfl) (h0:keys≠[]:=by exact List.cons_ne_nil _ _) (h15:keys.length<=15:=by decide) (hs:qsk e:=by intro _ _;rfl):
 RPE X (.Subscript (.Dict keys values p1) e pos) (qfD (kvI l) te):=qnK hu (ht ▸ h) he (fun H=>qli l) (qqZ hn) (by rw[wsI,wab];exact hl15) hall hl h0 h15 hs
end
theorem qwJ{P:Program}{w:World}{K:Frg}{mg:Str->Option Value}{base:Heap}{x qual:Str}{st:Stmt}{f:Addr}{fd:FuncData}{N ps:List Str}{k:Nat}{sp:RSp}{t:RTS}(F:Fun K x qual st f fd)(S:qdc N ps (qat st))
 (len:∀ rs M Q,sp rs M Q->rs.length=ps.length)
 (term:∀ (cdv:Value) (A:Around) (outer:List Env) (s:Shared) (H:Hp) (E:XK),Room k (A.deeper (envOfC qual (qat st) s.heap.objs.size f cdv))->qm7 (qpN CX0 P w K mg base N qual (qat st) f cdv A outer s H E).nox (qbZ st) t)
 (body:∀ rs M Q,sp rs M Q->t { nx:=fun _ M'=>Q .non M',rt:=Q } (qbR N rs) M):FnOk P w K mg base CX0 (k+1) f fd ps (qfl K sp):=by
 refine F.ok S (fun vs H Q0 E h=>?_) fun cdv A outer s H vs Q0 E hr h=>?_
 · obtain⟨rs,M,Q,rr,hv,hq,hk⟩:=h
   rw[<-rr.length];exact len rs M Q hq
 · obtain⟨rs,M,Q,rr,hv,hq,hk⟩:=h
   refine⟨_,term cdv A outer s H E hr,qbR N rs,M,{ nx:=fun _ M'=>Q .non M',rt:=Q },qkT rr,hv,body rs M Q hq,⟨fun σ M' σ0 H' q e w r=>hk .non M' .non H' q e w (by simp only[Rep]),hk,fun _ _ _ _ z=>z.elim,fun _ _ _ _ z=>z.elim⟩⟩
theorem qva:bootBuiltins "len" =some (.builtin "len"):=by decide+kernel
theorem qf0:bootBuiltins "isinstance" =some (.builtin "isinstance"):=by decide+kernel
theorem qu8:bootBuiltins "ord" =some (.builtin "ord"):=by decide+kernel
theorem qvc:bootBuiltins "all" =some (.builtin "all"):=by decide+kernel
theorem qjA:bootBuiltins "tuple" =some (.type "tuple"):=by decide+kernel
theorem qm2:bootBuiltins "list" =some (.type "list"):=by decide+kernel
theorem qvb:bootBuiltins "int" =some (.type "int"):=by decide+kernel
theorem qrV:bootBuiltins "bool" =some (.type "bool"):=by decide+kernel
theorem qu7:bootBuiltins "str" =some (.type "str"):=by decide+kernel
section
variable {X:Cx}{pos:Pos}
theorem qqd(hm:X.mg "int" =none)(hg:Gl X "int":=by rfl):RPE X (.Name "int" pos) (rC (.ty "int")):=qlj hm qvb (v:=.ty "int") rfl (fun H=>by simp only[Rep]) hg
theorem qnH(hm:X.mg "bool" =none)(hg:Gl X "bool":=by rfl):RPE X (.Name "bool" pos) (rC (.ty "bool")):=qlj hm qrV (v:=.ty "bool") rfl (fun H=>by simp only[Rep]) hg
theorem qqc(hm:X.mg "str" =none)(hg:Gl X "str":=by rfl):RPE X (.Name "str" pos) (rC (.ty "str")):=qlj hm qu7 (v:=.ty "str") rfl (fun H=>by simp only[Rep]) hg
theorem qlb(hm:X.mg "tuple" =none)(hg:Gl X "tuple":=by rfl):RPE X (.Name "tuple" pos) (rC (.ty "tuple")):=qlj hm qjA (v:=.ty "tuple") rfl (fun H=>by simp only[Rep]) hg
theorem qnG(hm:X.mg "list" =none)(hg:Gl X "list":=by rfl):RPE X (.Name "list" pos) (rC (.ty "list")):=qlj hm qm2 (v:=.ty "list") rfl (fun H=>by simp only[Rep]) hg
def qyh(mg:Str->Option Value)(x:Str)(i:Int):Prop:=∃ t,mg x=some (.int i t)
theorem rgi{x:Str}{i:Int}(h:qyh X.mg x i)(hg:Gl X x:=by rfl)(hd:(x==("__debug__":Str))=false:=by decide):RPE X (.Name x pos) (rC (.int i)):=by
 obtain⟨t,hm⟩:=h;exact qsU hm (v:=.int i) ⟨t,rfl⟩ (fun H=>by simp only[Rep]) hg hd
def qvm(K:Frg)(a:Addr)(ss:List Str):Prop:=∃ (o:Obj) (its:Array Value) (n:Nat),K.lookup a=some o/\o.cls= .type "tuple"/\o.data= .seq its n/\its.size<=sizeLine/\Vals (ss.map V.str) its.toList
def qsj(K:Frg)(mg:Str->Option Value)(x:Str)(ss:List Str):Prop:=∃ a,mg x=some (.ref a)/\qvm K a ss
def rCT(K:Frg)(ss:List Str):RTE:=fun _ M Q=>∀ p,qvm K p ss->Q (.ref p) M
theorem rgt{x:Str}{ss:List Str}(h:qsj X.K X.mg x ss)(hg:Gl X x:=by rfl)(hd:(x==("__debug__":Str))=false:=by decide):RPE X (.Name x pos) (rCT X.K ss):=by
 obtain⟨a,hm,hr⟩:=h;refine PE.imp (qsU (r:=.ref a) hm (v:=.ref a) rfl (fun H=>by simp only[Rep]) hg hd) fun σ0 H Q0 h=>?_
 obtain⟨σ,M,Q,hs,hv,ht,hk⟩:=h;exact⟨σ,M,Q,hs,hv,ht a hr,hk⟩
end
theorem qpZ{K:Frg}{mg:Str->Option Value}{x:Str}{a:Addr}{ss:List Str}{its:Array Value}{n:Nat}{d:Option Addr}{sl:Array (Option Value)}(hm:mg x=some (.ref a))(l:K.lookup a=some ⟨.type "tuple",d,.seq its n,sl⟩)(hz:its.size<=sizeLine)
 (hv:Vals (ss.map V.str) its.toList):qsj K mg x ss:=⟨a,hm,_,its,n,l,rfl,rfl,hz,hv⟩
theorem qud{K:Frg}{sp:RSp}{H:Hp}{a:Addr}{ns:List Int}(hO:qvP H)(hS:SqL K H a (ns.map V.int))(h:sp [.ls (ns.map RV.int)] (fun _=>none) (fun v _=>v= .bl true)):qfl K sp [.ref a] H (fun v _=>v= .bl true) (fun _ _ _=>False):=by
 have hr:∀ l:List Int,Reps K H (l.map RV.int) (l.map V.int):=fun l=>by
  induction l with
  |nil=>exact Reps.nil
  |cons s r ih=>exact Reps.cons (by simp only[Rep]) ih
 have hf:Fz K H a (ns.map V.int):=by
  rcases hS with(e|⟨o,e⟩)|e
  · rcases hO a with z|⟨o,xs,z⟩
    · rw[e]at z;cases z
    · rw[e]at z;cases z
  · exact .inl ⟨o,e⟩
  · exact .inr e
 refine⟨[.ls (ns.map RV.int)],fun _=>none,fun v _=>v= .bl true,Reps.cons (by simp only[Rep];exact⟨a,_,rfl,hf,hr ns⟩) Reps.nil,fun _ _ z=>(by cases z),h,fun rv M' v H' q _ _ r=>?_⟩
 have q':rv= .bl true:=q;subst q';simpa only[Rep]using r
structure qpS(N:List Str)(sc:Scope):Prop where
 nd:N.Nodup
 loc:∀ x∈N,sc.names.lookup x=some .local∨sc.names.lookup x=some .cell
 dbg:∀ x∈N,(x==("__debug__":Str))=false/\(x==("__classdict__":Str))=false
section
variable {X:Cx}{x:Str}{pos pos':Pos}
structure VisB(X:Cx):Prop where
 vis:∀ x∈X.N,Vis X.env.scope x
 dbg:∀ x∈X.N,(x==("__debug__":Str))=false/\(x==("__classdict__":Str))=false
theorem glB{scope:Scope}{cl:List (Str×Addr)}{C:Addr}{Nc:List Str}{s:Shared}{H:Hp}{fp:List Addr}(h:scope.names.lookup x=some .globalImplicit):Gl (blk X scope cl C Nc s H fp) x:=by
 show(scope.names.map (qgD X.env)).lookup x=_;rw[qbI];rw[qbJ]at h;cases e:scope.names.find? fun p=>x==p.1 with
 |none=>rw[e]at h;cases h
 |some p=>
  rw[e]at h;have h':p.2= .globalImplicit:=Option.some.inj h;show some (qgD X.env p).2=_;rcases qfx X.env p with z|z
  · rw[z,h']
  · rw[h']at z;cases z.2
end
noncomputable def qnn (w:World):List DictEntry->List (Str×Int)->Prop
 | [],[]=>True
 |e::es,(x,i)::r=>(∃ t,e.key= .str x t)/\e.hash=hashStr w x/\(∃ t,e.val= .int i t)/\qnn w es r
 |_,_=>False
theorem qps{w:World}:∀ {es:List DictEntry} {l:List (Str×Int)},qnn w es l->∃ vs:List (Str×Value),qno w es vs/\vs.map Prod.fst=l.map Prod.fst/\KV (wsI l) (vs.map fun p=>((Sum.inr p.1:Key),p.2))
 | [],[],_=>⟨[],trivial,rfl,.nil⟩
 |e::es,(x,i)::r,h=>by
  obtain⟨h1,h2,⟨t,h3⟩,h4⟩:=h;obtain⟨vs,a,b,c⟩:=qps h4;exact⟨(x,.int i t)::vs,⟨h1,h2,h3,a⟩,by simp[b],.cons ⟨rfl,t,rfl⟩ c⟩
theorem qom{P:Program}{w:World}{K:Frg}{mg:Str->Option Value}{x:Str}{a:Addr}{es:Array DictEntry}{ep:Nat}{l:List (Str×Int)}
 (hm:mg x=some (.ref a)) (lk:K.lookup a=some ⟨.type "dict",none,.dict es ep,#[]⟩) (ha:(a==sysModules)=false) (hr:qnn w es.toList l) (hn:(l.map Prod.fst).Nodup):KTab P w K mg x (kvI l):=by
 obtain⟨vs,h1,h2,h3⟩:=qps hr;exact ql5 hm lk ha h1 (by rw[h2];exact hn) ⟨rfl,rfl,rfl⟩ h3 fun H=>qli l
theorem qm5{h:Heap}{e:Value->Bool}{p:RV->Bool}:∀ {xs:List RV} {us:List Value},Dens h xs us->(∀ x∈xs,∀ u,Den h x u->e u=p x)->us.any e=xs.any p
 | [],us,d,_=>by simp only[Dens]at d;subst d;rfl
 |x::xs,us,d,k=>by
  simp only[Dens]at d;obtain⟨u,r,rfl,d1,d2⟩:=d;rw[waN,waN,k x waw u d1,qm5 d2 fun y hy=>k y (wap _ hy)]
theorem qlV{h:Heap}:∀ {xs:List RV} {us:List Value},Dens h xs us->∀ u∈us,∃ x∈xs,Den h x u
 | [],us,d,u,hu=>by simp only[Dens]at d;subst d;cases hu
 |x::xs,us,d,u,hu=>by
  simp only[Dens]at d;obtain⟨w,r,rfl,d1,d2⟩:=d;rcases was.mp hu with rfl|hu
  · exact⟨x,waw,d1⟩
  · obtain⟨y,hy,dy⟩:=qlV d2 u hu
    exact⟨y,wap _ hy,dy⟩
open Classical in
noncomputable def eqD (h:Heap)(a:RV)(w:Value):Bool:=if q:∃ r,okR 15 r=true/\Den h r w then eqR (choose q) a else false
theorem qpL{h:Heap}{a x:RV}{u:Value}(o:okR 15 x=true)(d:Den h x u):eqD h a u=eqR x a:=by
 have q:∃ r,okR 15 r=true/\Den h r u:=⟨x,o,d⟩;unfold eqD;rw[dif_pos q];have e:=qiR 15 _ x u (Classical.choose_spec q).1 o (Classical.choose_spec q).2 d;rw[e]
def inR(x:RV)(xs:List RV):Bool:=xs.any fun y=>eqR y x
noncomputable def qvE (neg:Bool):RR2:=fun x y M Q=>match y with
 | .tup xs=>okR 15 x=true/\xs.all (okR 15)=true/\Q (.bl (if neg then !inR x xs else inR x xs)) M
 | .ls xs=>okR 15 x=true/\xs.all (okR 15)=true/\Q (.bl (if neg then !inR x xs else inR x xs)) M
 |_=>False
section
variable {X:Cx}
theorem qbY{s:Shared}{A:Around}{xs:List RV}{its:List Value}{a:RV}{v:Value}(hu:A.units+15<cLine)(os:xs.all (okR 15)=true)(oa:okR 15 a=true)(d:Dens s.heap xs its)(da:Den s.heap a v):
 (∀ w,w∈its.toArray->SeqAt.EqAt A s w v (eqD s.heap a w))/\its.toArray.any (eqD s.heap a)=inR a xs:=by
 have os':∀ x∈xs,okR 15 x=true:=by simpa[wak]using os
 refine⟨fun w hw=>?_,?_⟩
 · obtain⟨x,hx,dx⟩:=qlV d w (by simpa using hw)
   rw[qpL (os' x hx) dx];exact qfX 15 x a A s w v (os' x hx) oa dx da hu
 · rw[show its.toArray.any (eqD s.heap a)=its.any (eqD s.heap a) by simp]
   exact qm5 d fun x hx u du=>qpL (os' x hx) du
theorem qn9{xs:List RV}(os:xs.all (okR 15)=true):okR 16 (.tup xs)=true/\okR 16 (.ls xs)=true:=⟨os,os⟩
theorem oin(hu:X.A.units+64<cLine):ROp X (compareOp .In) (qvE false):=by
 intro pins s σ H x y v u Q0 I rx ry h;obtain⟨a,b,M,Q,ra,rb,hv,hq,hk⟩:=h;cases b with
 |tup xs=>
  obtain⟨oa,os,hq⟩:=hq;have d:=qbD I 16 (.tup xs) y u (qn9 os).1 rb ry;simp only[Den]at d;obtain⟨p,its,rfl,ht,ds⟩:=d;have z:=qbY (A:=X.A.in1) (by rw[in1_units];omega) os oa ds (qbD I 15 a x v oa ra rx)
  refine SeqAt.in_tupleAt _ ht z.1 ⟨.bl (inR a xs),H,I,by rw[z.2];rfl,hk _ M _ H hq (.refl H) hv (by simp only[Rep];rfl)⟩
 |ls xs=>
  obtain⟨oa,os,hq⟩:=hq;have d:=qbD I 16 (.ls xs) y u (qn9 os).2 rb ry;simp only[Den]at d;obtain⟨p,its,rfl,ht,ds⟩:=d;have z:=qbY (A:=X.A.in1) (by rw[in1_units];omega) os oa ds (qbD I 15 a x v oa ra rx)
  refine SeqAt.in_listAt _ ht z.1 ⟨.bl (inR a xs),H,I,by rw[z.2];rfl,hk _ M _ H hq (.refl H) hv (by simp only[Rep];rfl)⟩
 |_=>exact(show False from hq).elim
theorem qtX(hu:X.A.units+64<cLine):ROp X (compareOp .NotIn) (qvE true):=by
 intro pins s σ H x y v u Q0 I rx ry h;obtain⟨a,b,M,Q,ra,rb,hv,hq,hk⟩:=h;cases b with
 |tup xs=>
  obtain⟨oa,os,hq⟩:=hq;have d:=qbD I 16 (.tup xs) y u (qn9 os).1 rb ry;simp only[Den]at d;obtain⟨p,its,rfl,ht,ds⟩:=d;have z:=qbY (A:=X.A.in1) (by rw[in1_units];omega) os oa ds (qbD I 15 a x v oa ra rx)
  refine SeqAt.notIn_tupleAt _ ht z.1 ⟨.bl (!inR a xs),H,I,by rw[z.2];rfl,hk _ M _ H hq (.refl H) hv (by simp only[Rep];rfl)⟩
 |ls xs=>
  obtain⟨oa,os,hq⟩:=hq;have d:=qbD I 16 (.ls xs) y u (qn9 os).2 rb ry;simp only[Den]at d;obtain⟨p,its,rfl,ht,ds⟩:=d;have z:=qbY (A:=X.A.in1) (by rw[in1_units];omega) os oa ds (qbD I 15 a x v oa ra rx)
  refine SeqAt.notIn_listAt _ ht z.1 ⟨.bl (!inR a xs),H,I,by rw[z.2];rfl,hk _ M _ H hq (.refl H) hv (by simp only[Rep];rfl)⟩
 |_=>exact(show False from hq).elim
def qAt:List RV->RM->RVK->Prop:=fun rs M Q=>match rs with
 | [.str x]=>x.length=1/\Q (.int (x.cps.getD 0 0:Nat)) M
 |_=>False
theorem qDF:CallR X (.builtin "ord") (upC X.K qAt):=by
 intro pins s σ H xs us Q0 I rl h;obtain⟨rs,M,Q,rr,hv,hq,hk⟩:=h
 match rs,hq with
 | [.str x],hq=>
  obtain⟨hl,hq⟩:=hq;simp only[Reps,Rep]at rr;obtain⟨v,r,rfl,rfl,rfl⟩:=rr;exact qoN pins s σ H _ us Q0 I rl ⟨x,rfl,hl,hk _ M _ H hq (.refl H) hv (by simp only[Rep])⟩
noncomputable def qvD (K:Frg)(neg:Bool):RR2:=fun x y M Q=>match y with
 | .ref p=>∃ ss,qvm K p ss/\okR 15 x=true/\Q (.bl (if neg then !inR x (ss.map RV.str)else inR x (ss.map RV.str))) M
 |_=>False
theorem qhr{h:Heap}:∀ {ss:List Str} {its:List Value},Vals (ss.map V.str) its->Dens h (ss.map RV.str) its
 | [],_,r=>by rw[wa6]at r;cases r;simp only[wa6,Dens]
 |s::ss,_,r=>by
  rw[wad]at r;cases r with
  |cons a t=>rw[wad];simp only[Dens,Den];exact⟨_,_,rfl,a,qhr t⟩
theorem qpF{pins:List (Addr×Obj)}{s:Shared}{σ:L2.St}{H:Hp}(hu:X.A.units+64<cLine)(I:Inv X pins σ H s){a:RV}{x:V}{v:Value}{p:Addr}{ss:List Str}(hp:qvm X.K p ss)(oa:okR 15 a=true)(ra:Rep X.K H a x)(rx:RelV x v):
 ∃ its:List Value,IsTup s.heap p its.toArray/\(∀ w,w∈its.toArray->SeqAt.EqAt X.A.in1 s w v (eqD s.heap a w))/\its.toArray.any (eqD s.heap a)=inR a (ss.map RV.str):=by
 obtain⟨its,hvs,ht,_⟩:=I.tuple (a:=p) (xs:=ss.map V.str) (.inr hp);have os:(ss.map RV.str).all (okR 15)=true:=by simp[wak,okR]
 have z:=qbY (A:=X.A.in1) (by rw[in1_units];omega) os oa (qhr hvs) (qbD I 15 a x v oa ra rx)
 exact⟨its,ht,z.1,z.2⟩
theorem qDo(hu:X.A.units+64<cLine):ROp X (compareOp .In) (qvD X.K false):=by
 intro pins s σ H x y v u Q0 I rx ry h;obtain⟨a,b,M,Q,ra,rb,hv,hq,hk⟩:=h;cases b with
 |ref p=>
  obtain⟨ss,hp,oa,hq⟩:=hq;simp only[Rep]at rb;subst rb;cases(show u=Value.ref p from ry)
  obtain⟨its,ht,z1,z2⟩:=qpF hu I hp oa ra rx;exact SeqAt.in_tupleAt _ ht z1 ⟨.bl (inR a (ss.map RV.str)),H,I,by rw[z2];rfl,hk _ M _ H hq (.refl H) hv (by simp only[Rep];rfl)⟩
 |_=>exact(show False from hq).elim
theorem qqU(hu:X.A.units+64<cLine):ROp X (compareOp .NotIn) (qvD X.K true):=by
 intro pins s σ H x y v u Q0 I rx ry h;obtain⟨a,b,M,Q,ra,rb,hv,hq,hk⟩:=h;cases b with
 |ref p=>
  obtain⟨ss,hp,oa,hq⟩:=hq;simp only[Rep]at rb;subst rb;cases(show u=Value.ref p from ry)
  obtain⟨its,ht,z1,z2⟩:=qpF hu I hp oa ra rx;exact SeqAt.notIn_tupleAt _ ht z1 ⟨.bl (!inR a (ss.map RV.str)),H,I,by rw[z2];rfl,hk _ M _ H hq (.refl H) hv (by simp only[Rep];rfl)⟩
 |_=>exact(show False from hq).elim
noncomputable def qsf (neg:Bool)(ss:List Str)(ty:RTE):RTE:=fun σ M Q=>ty σ M fun x M1=>okR 15 x=true/\Q (.bl (if neg then !inR x (ss.map RV.str)else inR x (ss.map RV.str))) M1
def qAI:List RV->RM->RVK->Prop:=fun rs M Q=>∃ bs:List Bool,rs= [.ls (bs.map RV.bl)]/\Q (.bl (bs.all id)) M
theorem qlf{K:Frg}{H:Hp}:∀ {bs:List Bool} {vs:List V},Reps K H (bs.map RV.bl) vs->vs=bs.map V.bl
 | [],vs,h=>by simpa only[wa6,Reps]using h
 |b::bs,vs,h=>by
  simp only[wad,Reps,Rep]at h;obtain⟨v,r,rfl,rfl,h2⟩:=h;rw[qlf h2];rfl
theorem qkH:∀ {bs:List Bool} {us:List Value},Vals (bs.map V.bl) us->us=bs.map Value.bool
 | [],us,h=>by cases h;rfl
 |b::bs,us,h=>by
  obtain⟨u,r,rfl,h1,h2⟩:=Vals.cons_inv h;cases h1;rw[qkH h2];rfl
theorem range_all(bs:List Bool):(List.range bs.length).all (fun i=>bs.getD i true)=bs.all id:=by
 induction bs with
 |nil=>rfl
 |cons b bs ih=>
  rw[waf,List.range_succ_eq_map,wat,wbd,wat];have:((fun i=>(b::bs).getD i true) ∘ Nat.succ)=fun i=>bs.getD i true:=by funext i;rfl
  rw[this,ih];rfl
theorem qoO(hc:X.calm=true):CallR X (.builtin "all") (upC X.K qAI):=by
 intro pins s σ H xs us Q0 I rl h;obtain⟨rs,M,Q,rr,hv,⟨bs,rfl,hq⟩,hk⟩:=h;obtain⟨v,rfl,r1⟩:=rr.one;simp only[Rep]at r1;obtain⟨a,vs,rfl,h1,h2⟩:=r1;have:=qlf h2;subst this;obtain⟨u,rfl,ru⟩:=rl.one;cases ru;obtain⟨its,rv,p,hz⟩:=I.list h1.sq;have:=qkH rv;subst this;have hlt:a<s.heap.objs.size:=by obtain⟨o,n,e,_⟩:=p;exact wae e
 refine call_all_walk (wpAny_pyIter_list p.isList ?_);have hd:X.A.in1.handled=none:=I.ok.hd hc;refine⟨s.heap.objs.size,_,_,_,_,_,fun i=>bs.getD i true,rfl,Walks.list hd s.heap.objs.size a (waq hlt) (bs.map Value.bool).toArray,⟨⟨_,Heap.get?_push_size _ rfl,rfl,rfl⟩,p.isList.push _⟩,?_,?_⟩
 · intro i v s' Q' E' hP hQ'
   have hP':(bs.map Value.bool)[i]? =some v:=by simpa using hP
   rw[List.getElem?_map]at hP';cases e:bs[i]? with
   |none=>rw[e]at hP';cases hP'
   |some b=>
    rw[e]at hP';have hb:bs.getD i true=b:=by rw[List.getD_eq_getElem?_getD,e];rfl
    cases hP';have hQ2:Q' (bs.getD i true) s':=hQ';rw[hb]at hQ2;exact wpAny_truthy_bool hQ2
 · intro h' tk hk'
   have I1:Inv X pins σ H { s with heap:=s.heap.push { cls:=.type "list_iterator",data:=.fields #[.ref a,.int 0 0] } }:=I.kept (t':=s.toks) fun b o e=>Heap.get?_push_of_some _ e
   obtain⟨f0,f1,f2,f3,f4,f5⟩:=I.fpOk (wac _) (I.hok.fresh (wac _));have I2:Inv X pins σ H { s with heap:=h',toks:=tk }:=by
    have z:=I1.turned (h':=h') (t':=tk) (it:=s.heap.objs.size) (fun b o hb e=>hk' b o (by simpa using hb) e) f0 f1 f3 f4 f5
    exact z
   refine⟨.bl (bs.all id),H,I2,?_,hk _ M _ H hq (.refl H) hv (by simp only[Rep])⟩
   show _=_;rw[<-range_all];simp
def Its(x:Str):It:=⟨fun i _=>i<x.cps.size,fun i H v H'=>H'=H/\∃ c,x.cps[i]? =some c/\v= .str ⟨#[c]⟩,fun i _=>x.cps.size<=i⟩
def qb9(x:Str):List RV:=x.cps.toList.map fun c=>.str ⟨#[c]⟩
theorem qi0{P:Program}{w:World}{K:Frg}{tg:Expr}(it:Addr)(n:String)(x:Str)(t:Tok)
 (hn:["enumerate","zip","dict_itemiterator","dict_reverseitemiterator","odict_iterator","itertools.zip_longest","itertools.pairwise"].contains n=false)
 (W:∀ A:Around,A.handled=none->Walks P w A it [it] [it] x.cps.size (SignAt x) (fun i h=>h.IsStrIter it n x t i))
 (hend:∀ (A:Around) (i:Nat) (s:Shared) (Q:Option Value->Shared->Prop) (E:Value->Shared->Prop),A.handled=none->s.heap.IsStrIter it n x t i->x.cps.size<=i->(∀ h',(∀ b o,b≠it->s.heap.get? b=some o->h'.get? b=some o)->Q none { s with heap:=h' })->wpAny (model P w) A (pyNext (.ref it)) Q E s)
 (hself:∀ (A:Around) (i:Nat) (s:Shared) (Q:Value->Shared->Prop) (E:Value->Shared->Prop),s.heap.IsStrIter it n x t i->Q (.ref it) s->wpAny (model P w) A (pyIter (.ref it)) Q E s):
 Turn P w K tg (Its x) [it] it (fun i h=>h.IsStrIter it n x t i) where
 mem:=by simp
 obj:=fun i h st b hb=>by
  have e:b=it:=by simpa using hb
  subst e;obtain⟨o,e,c,d⟩:=st;exact⟨o,e,fun v z=>by rw[d]at z;cases z⟩
 keep:=fun i h h' st k=>by
  obtain⟨o,e,r⟩:=st;exact⟨o,k it (by simp) o e,r⟩
 item:=by
  intro X hP hw hK hc i pins s σ H E I hf st hg;subst hP hw hK;obtain⟨f0,f1,f2,f3,f4,f5⟩:=hf it (by simp)
  refine(W X.A (I.ok.hd hc)).item i s _ _ hg st fun v h' tk hv st' kk=>?_
  obtain⟨c,u,hcu,rfl⟩:=hv;have I1:Inv X pins σ H { s with heap:=h',toks:=tk }:=I.turned (fun b o hb e=>kk b o (by simpa using hb) e) f0 f1 f3 f4 f5
  obtain⟨o,e,hcl,hd⟩:=id st';exact⟨_,rfl,qmE (s:={ s with heap:=h',toks:=tk }) (n:=n) e hcl hd hn ⟨.str ⟨#[c]⟩,H,I1,⟨u,rfl⟩,⟨rfl,c,hcu,rfl⟩,st',fun b hb=>(hf b hb).1⟩⟩
 done:=by
  intro X hP hw hK hc i pins s σ H E I hf st hg;subst hP hw hK;obtain⟨f0,f1,f2,f3,f4,f5⟩:=hf it (by simp)
  exact hend X.A i s _ _ (I.ok.hd hc) st hg fun h' eb=>⟨rfl,I.turned (t':=s.toks) (fun b o hb e=>eb b o hb e) f0 f1 f3 f4 f5⟩
 self:=hself
theorem qpx{H0 Hs:Hp}{K:Frg}{H1:Hp}(x:Str)(es:Ext Hs H1):qjD H0 Hs K (Its x) (qb9 x) okT id H1 where
 turn:=fun i H M e _ _ r hr=>by
  have hi:i<x.cps.size:=by have:=(List.getElem?_eq_some_iff.mp hr).1;simpa[qb9]using this
  refine⟨hi,fun v' H' y=>?_⟩
  obtain⟨rfl,c,hcx,rfl⟩:=y;refine⟨.refl _,fun _ w=>w,?_⟩
  have:r= .str ⟨#[c]⟩:=by
   have h2:x.cps.toList[i]? =some c:=by simpa using hcx
   simp only[qb9,List.getElem?_map,h2,Option.map_some,Option.some.injEq]at hr;exact hr.symm
  subst this;simp only[Rep]
 stop:=fun i H M e _ _ hi=>by
  have:(qb9 x).length=x.cps.size:=by simp[qb9]
  rw[this]at hi;exact hi
 thaw:=qbG es
def qAB(te:RTE):RTI:=fun σ M Q=>te σ M fun v M1=>match v with| .str x=>Q (qb9 x) okT id M1|_=>False
theorem qDs{tg:Expr}{l:Expr}{te:RTE}(hl:RPE X l te):RPI X tg l (qAB te):=by
 intro pins s σ0 H R I h;obtain⟨σ,M,Q,hs,hv,ht,hk⟩:=h;refine thn (hl pins s σ0 H (fun v H1=>∃ x M1,v= .str x/\Q (qb9 x) okT id M1/\Ext H H1/\View X.K H1 M1) I ⟨σ,M,_,hs,hv,ht,fun rv M1 v H1 q e1 v1 r1=>?_⟩) fun v s1 ⟨xv,H1,I1,r1,q1⟩=>?_
 · cases rv with
   |str x=>simp only[Rep]at r1;exact⟨x,M1,r1,q,e1,v1⟩
   |_=>exact(show False from q).elim
 · obtain⟨x,M1,rfl,q,e1,v1⟩:=q1
   obtain⟨t,rfl⟩:=r1;have hf:∀ b∈[s1.heap.objs.size],qo1 X pins H1 b:=fun b hb=>by
    have e:b=s1.heap.objs.size:=by simpa using hb
    subst e;exact I1.fpOk (wac _) (I1.hok.fresh (wac _))
   cases ha:x.cps.all (· < 128)
   · refine wpAny_pyIter_wide ha ?_
     exact⟨s1.heap.objs.size,[s1.heap.objs.size],_,Its x,H1,rfl,I1.kept (t':=s1.toks) fun b o e=>Heap.get?_push_of_some _ e,qi0 _ "str_iterator" x t (by decide) (fun A hA=>Walks.strWide hA _ x t) (fun A i s Q E hA st hi hq=>wpAny_pyNext_wide_end hA st (by simp;exact hi) hq) (fun A i s Q E st hq=>wpAny_pyIter_striter_wide st hq),⟨_,Heap.get?_push_size _ rfl,rfl,rfl⟩,hf,hk _ okT id M1 _ H1 q e1 v1 (qpx x e1)⟩
   · refine wpAny_pyIter_ascii ha ?_
     exact⟨s1.heap.objs.size,[s1.heap.objs.size],_,Its x,H1,rfl,I1.kept (t':=s1.toks) fun b o e=>Heap.get?_push_of_some _ e,qi0 _ "str_ascii_iterator" x t (by decide) (fun A hA=>Walks.strAscii hA _ x t) (fun A i s Q E hA st hi hq=>wpAny_pyNext_ascii_end hA st (by simp;exact hi) hq) (fun A i s Q E st hq=>wpAny_pyIter_striter_ascii st hq),⟨_,Heap.get?_push_size _ rfl,rfl,rfl⟩,hf,hk _ okT id M1 _ H1 q e1 v1 (qpx x e1)⟩
noncomputable def qvG (to:RTE)(t:RTA):RTE:=fun σ M Q=>to σ M fun x M1=>match x with
 | .ref p=>(∃ ys,M1 p=some (.lst ys))/\t σ M1 fun rs M2=>∃ ys y,rs= [y]/\M2 p=some (.lst ys)/\ys.length<sizeLine/\Q .non (put M2 p (.lst (ys++ [y])))
 |_=>False
theorem qqp{o e:Expr}{to:RTE}{t:RTA}{apos cpos:Pos}(ho:RPE X o to)(ha:RPA X [e] t)
 (hbase:attributeBase o "append" X.env (eval o X.env)=eval o X.env:=by rfl)
 (hfew:((backTo cpos (starEach [e] X.env)).all (fun x=>!x.1)&&(backToKw cpos (keywordEach [] X.env)).all (fun x=>x.1.isSome)&&decide ([e].length+([]:List Keyword).length+(if([]:List Keyword).isEmpty then 0 else 1)<30))=true:=by rfl)
 (hline:(apos.endLine==cpos.line)=true:=by rfl) (hs:starEach [e] X.env=(false,eval e X.env)::starEach [] X.env:=by rfl) (hplain:(backTo cpos (starEach [] X.env)).any (·.1)=false:=by rfl):
 RPE X (.Call (.Attribute o "append" apos) [e] [] cpos) (qvG to t):=PE.imp (qw9 PySem.F.plainAttrs_list PySem.F.slot_list_append PySem.F.type_list_append qlS ho ha hbase hfew hline hs hplain) fun σ0 H Q0 h=>by
 obtain⟨σ,M,Q,hs,hv,ht,hk⟩:=h;refine⟨σ,M,_,hs,hv,ht,fun rx M1 x H1 q e1 v1 r1=>?_⟩
 cases rx with
 |ref p=>
  obtain⟨⟨ys,hm⟩,q⟩:=q;simp only[Rep]at r1;subst r1;obtain⟨ho',e0,r0⟩:=v1 p _ hm;obtain⟨vs0,rfl,rr0⟩:=r0;refine⟨.inl ⟨rfl,_,SqL.of e0⟩,σ,M1,_,hs.ext e1,v1,q,fun rs M2 vs H2 q2 e2 v2 r2=>?_⟩
  obtain⟨ys2,y,rfl,hm2,hz,q2⟩:=q2;obtain⟨v,rfl,r3⟩:=r2.one;obtain⟨ho2,e3,r4⟩:=v2 p _ hm2;obtain⟨vs2,rfl,rr2⟩:=r4;have ex:Ext H2 (upd H2 p (.lst (vs2++ [v]))):=Ext.write e3 rfl;refine⟨p,vs2,v,rfl,rfl,e3,by rw[<-rr2.length];exact hz,hk _ _ _ _ q2 ((e1.trans e2).trans ex) (v2.write hm2 ⟨_,rfl,?_⟩) (by simp only[Rep])⟩
  exact(Reps.ext ex _ _ rr2).append (Reps.cons (Rep.ext ex _ _ r3) Reps.nil)
 |_=>exact(show False from q).elim
def qqu:List RV->RM->RVK->Prop:=fun rs M Q=>match rs with
 | [.tup xs]=>Q (.ls xs) M
 | [.ls xs]=>Q (.ls xs) M
 |_=>False
theorem qx1:CallR X (.type "list") (upC X.K qqu):=by
 intro pins s σ H xs us Q0 I rl h;obtain⟨rs,M,Q,rr,hv,hq,hk⟩:=h;have key:∀ (p:Addr) (vs:List V) (ys:List RV),xs= [.ref p]->(SqL X.K H p vs∨SqT X.K H p vs)->Reps X.K H ys vs->Q (.ls ys) M->wpAny (model X.prog X.w) X.A (call (.type "list") us) (EP X pins σ Q0) X.xe s:=by
  intro p vs ys e hp hr hq;subst e;refine thn (qhy pins s σ H _ us (fun v H'=>∃ H1 p xs,v= .ref p/\H1 p=none/\H'=upd H1 p (.lst xs)/\∀ o,Q0 (.ref p) (upd H1 p (.frz o (.lst xs)))) I rl ⟨p,vs,rfl,hp,fun l hl=>⟨H,l,vs,rfl,hl,rfl,fun o=>?_⟩⟩) fun _ _ e=>frozen e
  exact hk _ M _ _ hq (Ext.new hl) (hv.new hl) (qcb hl hr)
 unfold qqu at hq;split at hq
 · obtain⟨v,rfl,r1⟩:=rr.one
   simp only[Rep]at r1;obtain⟨q,vs,rfl,hp,hr⟩:=r1;exact key q vs _ rfl (.inr hp) hr hq
 · obtain⟨v,rfl,r1⟩:=rr.one
   simp only[Rep]at r1;obtain⟨q,vs,rfl,hp,hr⟩:=r1;exact key q vs _ rfl (.inl hp.sq) hr hq
 · exact hq.elim
noncomputable def qpf (fs:List (Addr×RSp))(tx:RTE)(t:RTA):RTE:=fun σ M Q=>tx σ M fun v M1=>match v with
 | .ref f=>∃ sp,(f,sp)∈fs/\t σ M1 fun rs M2=>sp rs M2 Q
 |_=>False
theorem qs2{x:Str}{p pos:Pos}{e:Expr}{es:List Expr}{t:RTA}{tx:RTE}(fs:List (Addr×RSp))
 (hF:∀ q∈fs,∃ fd ps k,Room k X.A/\PySem.W.keepIn X.K (.ref q.1)=true/\Binds X.K fd ps []/\FnOk X.prog X.w X.K X.mg X.base CX0 k q.1 fd ps (qfl X.K q.2)) (hx:RPE X (.Name x p) tx) (ha:RPA X (e::es) t)
 (he:starEach (e::es) X.env=(false,eval e X.env)::starEach es X.env:=by rfl) (hpl:(backTo pos (starEach es X.env)).any (·.1)=false:=by rfl):RPE X (.Call (.Name x p) (e::es) [] pos) (qpf fs tx t):=by
 intro pins s σ0 H Q0 I h;obtain⟨σ,M,Q,hs,hv,ht,hk⟩:=h;refine wpAny_Call_Name_kw (thn (hx pins s σ0 H (fun v H1=>∃ f sp M1,v= .ref f/\(f,sp)∈fs/\Ext H H1/\View X.K H1 M1/\t σ M1 fun rs M2=>sp rs M2 Q) I ⟨σ,M,_,hs,hv,ht,fun rv M1 v H1 q e1 v1 r1=>?_⟩) fun v s1 ⟨y,H1,I1,r1,q1⟩=>?_)
 · cases rv with
   |ref f=>simp only[Rep]at r1;obtain⟨sp,hm,q⟩:=q;exact⟨f,sp,M1,r1,hm,e1,v1,q⟩
   |_=>exact(show False from q).elim
 · obtain⟨f,sp,M1,rfl,hm,e1,v1,q⟩:=q1
   cases r1;obtain⟨fd,ps,k,hr,hkp,hb,F⟩:=hF _ hm;refine wa8 (h₀:=X.base) I1.ok.mod.kin hkp (thn (ha pos pins s1 σ0 H1 (fun vs H2=>qfl X.K sp (vs++ []) H2 Q0 (fun _ _ _=>False)) I1 ⟨σ,M1,_,hs.ext e1,v1,q,fun rs M2 vs H2 q2 e2 v2 r2=>?_⟩) fun us s2 ⟨vs,H2,I2,r,q⟩=>⟨I2.kIn,?_⟩) he hpl
   · exact⟨rs,M2,Q,by rw[waP];exact r2,v2,q2,hk.ext (e1.trans e2)⟩
   · exact qgu F hr hb .nil qii I2 r q
end
theorem RFn.at{P:Program}{w:World}{K:Frg}{mg:Str->Option Value}{base:Heap}{k:Nat}{x:Str}{ps:List Str}{sp:RSp}{f:Addr}(F:RFn P w K mg base k x ps sp)(hm:mg x=some (.ref f)):
 ∃ fd,PySem.W.keepIn K (.ref f)=true/\Binds K fd ps []/\FnOk P w K mg base CX0 k f fd ps (qfl K sp):=by
 obtain⟨g,fd,hg,h1,h2,h3⟩:=F.ex;have e:=hm.symm.trans hg;cases e;exact⟨fd,h1,h2,h3⟩
theorem qlJ{P:Program}{w:World}{es:List DictEntry}{vs:List (Key×Value)}(h:Pairs (qak P w) es vs):Pairs (optKind P w) es (vs.map fun p=>(some p.1,p.2)):=by
 induction h with
 |nil=>exact .nil
 |cons a b _ ih=>exact .cons (kv:=(some _,_)) a b ih
theorem qe9:∀ {l:List Key},l.Nodup->(l.map some).Nodup
 | [],_=>wa3
 |a::r,h=>by
  obtain⟨h1,h2⟩:=waC.mp h;rw[wad];refine waC.mpr ⟨fun m=>?_,qe9 h2⟩
  obtain⟨b,hb,e⟩:=wai.mp m;cases e;exact h1 hb
theorem qoE{P:Program}{w:World}{h:Heap}{a:Addr}{vs:List (Key×Value)}(d:h.DictOf (qak P w) a vs):h.DictOf (optKind P w) a (vs.map fun p=>(some p.1,p.2)):=by
 obtain⟨o,es,ep,h1,h2,h3,h4,h5,h6⟩:=d;refine⟨o,es,ep,h1,h2,h3,fun e he=>?_,qlJ h5,?_⟩
 · obtain⟨k,q1,q2⟩:=h4 e he
   exact⟨some k,q1,q2⟩
 · rw[wah]
   have:((fun x:Option Key×Value=>x.1) ∘ fun p:Key×Value=>(some p.1,p.2))=some ∘ fun p=>p.1:=rfl
   rw[this,<-wah];exact qe9 h6
theorem qqY{vs:List (Key×Value)}:valueAt (vs.map fun p=>(some p.1,p.2)) (none:Option Key)=none:=by
 unfold valueAt;rw[List.find?_eq_none.mpr]
 · rfl
 · intro x hx
   obtain⟨p,_,rfl⟩:=wai.mp hx;simp
section
variable {X:Cx}
noncomputable def qma (neg:Bool)(kvs:List (Key×RV))(Q:RVK):RVK:=fun k M1=>match qfc k with
 |some key=>Q (.bl (if neg then !(qa0 kvs key).isSome else(qa0 kvs key).isSome)) M1
 |none=>False
def qdS(kvs:List (Key×RV))(Q:RVK):RVK:=fun k M1=>match k with
 | .non=>Q (.bl true) M1
 |k=>qma true kvs Q k M1
def qfB(kvs:List (Key×RV))(te:RTE):RTE:=fun σ M Q=>te σ M (qdS kvs Q)
theorem qfu{x:Str}{kvs:List (Key×RV)}{e:Expr}{te:RTE}{p:Pos}(T:KTab X.prog X.w X.K X.mg x kvs)(he:RPE X e te)(hg:Gl X x)(hd:(x==("__debug__":Str))=false):
 PC X .NotIn e (.Name x p) (up X.K (qfB kvs te)):=by
 obtain⟨a,vs,ws,hm,ha,hD,hk,hr⟩:=T.ex;intro pins s σ0 H Q0 I h;obtain⟨σ,M,Q,hs',hv,ht,hq⟩:=h;refine thn (he pins s σ0 H (fun v H1=>∃ r M1,Rep X.K H1 r v/\Ext H H1/\View X.K H1 M1/\qdS kvs Q r M1) I ⟨σ,M,_,hs',hv,ht,fun r M1 v H1 q e w r1=>⟨r,M1,r1,e,w,q⟩⟩) fun iv s2 ⟨y,H2,I2,ry,r,M2,rr,e2,w2,q2⟩=>?_
 refine qci I2 hg hm ?_ hd;have dd:=hD _ I2.kIn
 by_cases hn:r= .non
 · subst hn
   have q2:Q (.bl true) M2:=q2;have:y=V.non:=by simpa only[Rep]using rr
   subst this;have:iv=Value.none:=ry;subst this;refine wpAny_notIn_of (knd:=optKind X.prog X.w) (k:=none) rfl ha (qoE dd).mapOf ?_;rw[qqY];exact⟨.bl true,H2,I2.tok _,rfl,hq _ M2 _ H2 q2 e2 w2 (by simp only[Rep])⟩
 · have q2:qma true kvs Q r M2:=by
    cases r<;>first|exact q2|exact absurd rfl hn
   unfold qma at q2;cases ek:qfc r with
   |none=>rw[ek]at q2;exact q2.elim
   |some key=>
    rw[ek]at q2;simp only at q2;have:=qcj ek rr;subst this;refine wpAny_notIn_of (qdH ry) ha dd.mapOf ?_;rw[qjJ hk (hr H2)];exact⟨.bl (!(qa0 kvs key).isSome),H2,I2.tok _,rfl,hq _ M2 _ H2 q2 e2 w2 (by simp only[Rep];rfl)⟩
theorem qlc{x:Str}{kvs:List (Key×RV)}{e:Expr}{te:RTE}{p pos:Pos}(T:KTab X.prog X.w X.K X.mg x kvs)(he:RPE X e te)(hg:Gl X x:=by rfl)(hd:(x==("__debug__":Str))=false:=by decide)(h1:behindInMarks .NotIn (Expr.Name x p)=false:=by with_unfolding_all rfl):
 RPT X (.Compare e [.NotIn] [.Name x p] pos) (qfA (qfB kvs te)):=PT.imp (qlA (qfu T he hg hd) h1) fun σ0 H Q0 h=>by
 obtain⟨σ,M,Q,hs,hv,ht,hk⟩:=h;exact⟨σ,M,_,hs,hv,ht,qcd hk⟩
end
theorem qd5{K:Frg}{H:Hp}{f:Str}:∀ {fs:List (Str×RV)} {gs:List (Str×V)} {v:RV},RepP K H fs gs->fs.lookup f=some v->∃ u,gs.lookup f=some u/\Rep K H v u
 | [],gs,v,h,e=>by cases e
 |(g,x)::r,gs,v,h,e=>by
  obtain⟨u,t,rfl,h1,h2⟩:=h;rw[waK]at e;cases hb:f==g with
  |true=>rw[hb]at e;cases e;exact⟨u,by rw[waK,hb],h1⟩
  |false=>
   rw[hb]at e;obtain⟨w,e1,r1⟩:=qd5 h2 e;exact⟨w,by rw[waK,hb];exact e1,r1⟩
theorem qd3{K:Frg}{H:Hp}{f:Str}:∀ {fs:List (Str×RV)} {gs:List (Str×V)},RepP K H fs gs->fs.lookup f=none->gs.lookup f=none
 | [],gs,h,e=>by have h':gs= []:=h;subst h';rfl
 |(g,x)::r,gs,h,e=>by
  obtain⟨u,t,rfl,h1,h2⟩:=h;rw[waK]at e ⊢;cases hb:f==g with
  |true=>rw[hb]at e;cases e
  |false=>rw[hb]at e;exact qd3 h2 e
def qgM(f:Str)(v:RV):List (Str×RV)->List (Str×RV)
 | []=>[(f,v)]
 |(g,x)::r=>if g=f then(g,v)::r else(g,x)::qgM f v r
theorem qgA{K:Frg}{H:Hp}{f:Str}{v:RV}{u:V}(hv:Rep K H v u):∀ {fs:List (Str×RV)} {gs:List (Str×V)},RepP K H fs gs->RepP K H (qgM f v fs) (qfG f u gs)
 | [],gs,h=>by have h':gs= []:=h;subst h';exact⟨u,[],rfl,hv,rfl⟩
 |(g,x)::r,gs,h=>by
  obtain⟨w,t,rfl,h1,h2⟩:=h;unfold qgM qfG
  by_cases e:g=f
  · rw[if_pos e,if_pos e];exact⟨u,t,rfl,hv,h2⟩
  · rw[if_neg e,if_neg e];exact⟨w,_,rfl,h1,qgA hv h2⟩
theorem qaU{κ:Type}{K:Frg}{H:Hp}:∀ {fs:List (κ×RV)} {gs:List (κ×V)},RepP K H fs gs->fs.length=gs.length
 | [],gs,h=>by have h':gs= []:=h;subst h';rfl
 |(g,x)::r,gs,h=>by
  obtain⟨w,t,rfl,h1,h2⟩:=h;rw[waf,waf,qaU h2]
section
variable {X:Cx}{o e value:Expr}{f:Str}{pos pos':Pos}{ta tv:RTE}{C:Addr}
noncomputable def qDh (C:Addr)(f:Str)(ta:RTE):RTE:=fun σ M Q=>ta σ M fun x M1=>match x with
 | .ref a=>∃ fs v,M1 a=some (.ins C fs)/\fs.lookup f=some v/\Q v M1
 |_=>False
theorem qC7(hc:Cls X.K C)(hn:NoAttr X.K C f)(he:RPE X e ta)(hb:attributeBase e f X.env (eval e X.env)=eval e X.env:=by rfl):RPE X (.Attribute e f pos) (qDh C f ta):=PE.imp (qtL he hb) fun σ0 H Q0 h=>by
 obtain⟨σ,M,Q,hs,hv,ht,hk⟩:=h;refine⟨σ,M,_,hs,hv,ht,fun rx M1 x H1 q e1 v1 r1=>?_⟩
 cases rx with
 |ref a=>
  obtain⟨fs,v,hm,hl,q⟩:=q;simp only[Rep]at r1;subst r1;obtain⟨ho,eo,dx,gs,rfl,hg⟩:=v1 a _ hm;obtain⟨u,hu,ru⟩:=qd5 hg hl;exact⟨a,C,dx,gs,u,rfl,eo,hc,hn,hu,hk _ M1 _ H1 q e1 v1 ru⟩
 |_=>exact(show False from q).elim
noncomputable def qwU (C:Addr)(f:Str)(ta tv:RTE):RTS:=fun D σ M=>tv σ M fun y M1=>ta σ M1 fun x M2=>match x with
 | .ref a=>∃ fs,M2 a=some (.ins C fs)/\fs.length<1000/\D.nx σ (put M2 a (.ins C (qgM f y fs)))
 |_=>False
theorem qCF(hc:Cls X.K C)(hn:NoAttr X.K C f)(ha:RPE X o ta)(hv:RPE X value tv)(hs:swapsWith value (some (.Attribute o f pos')) pos.line X.env=pure false:=by rfl):RPS X (.Assign [.Attribute o f pos'] value pos) (qwU C f ta tv):=PS.imp (qtB ha hv hs) fun D0 σ0 H h=>by
 obtain⟨σ,M,D,hs,hv,ht,hd⟩:=h;refine⟨σ,M,_,hs,hv,ht,fun ry M1 y H1 q e1 v1 r1=>⟨σ,M1,_,hs.ext e1,v1,q,fun rx M2 x H2 q2 e2 v2 r2=>?_⟩⟩
 cases rx with
 |ref a=>
  obtain⟨fs,hm,hl,q2⟩:=q2;simp only[Rep]at r2;subst r2;obtain⟨ho,eo,dx,gs,rfl,hg⟩:=v2 a _ hm;have ex:Ext H2 (upd H2 a (.ins C dx (qfG f y gs))):=Ext.write eo rfl;refine⟨a,C,dx,gs,rfl,eo,hc,hn,by rw[<-qaU hg];exact hl,hd.nx σ _ _ _ q2 ((e1.trans e2).trans ex) (v2.write hm ⟨dx,_,rfl,?_⟩) (hs.ext ((e1.trans e2).trans ex))⟩
  exact qgA (Rep.ext (e2.trans ex) _ _ r1) (hg.ext ex)
 |_=>exact(show False from q2).elim
end
def qoB(kvs:List (Key×RV))(k:Key):List (Key×RV):=kvs.filter fun kv=>decide (kv.1≠k)
section
variable {K:Frg}{H:Hp}{k:Key}{v:RV}{u:V}
theorem qja{κ:Type}:∀ {xs:List (κ×RV)} {ws:List (κ×V)} {ys:List (κ×RV)} {zs:List (κ×V)},RepP K H xs ws->RepP K H ys zs->RepP K H (xs++ys) (ws++zs)
 | [],ws,ys,zs,h,t=>by have h':ws= []:=h;subst h';exact t
 |(j,x)::r,ws,ys,zs,h,t=>by
  obtain⟨w,t',rfl,h1,h2⟩:=h;exact⟨w,_,rfl,h1,qja h2 t⟩
theorem qd6:∀ {kvs:List (Key×RV)} {ws:List (Key×V)},RepP K H kvs ws->RepP K H (qoB kvs k) (qhp ws k)
 | [],ws,h=>by have h':ws= []:=h;subst h';rfl
 |(j,x)::r,ws,h=>by
  obtain⟨w,t,rfl,h1,h2⟩:=h;unfold qoB qhp;rw[waZ,waZ]
  by_cases e:j=k
  · rw[if_neg (by simp[e]),if_neg (by simp[e])];exact qd6 h2
  · rw[if_pos (by simp[e]),if_pos (by simp[e])];exact⟨w,_,rfl,h1,qd6 h2⟩
end
section
variable {X:Cx}{o i value:Expr}{pos pos':Pos}{td ty tv:RTE}
def qtp:RTE:=fun _ M Q=>∀ p,M p=none->Q (.ref p) (put M p (.dk []))
theorem qwK:RPE X (.Dict [] [] pos) qtp:=PE.imp qn4 fun σ0 H Q0 h=>by
 obtain⟨σ,M,Q,hs,hv,ht,hk⟩:=h;intro p hp;exact hk _ _ _ _ (ht p (hv.free hp)) (Ext.new hp) (hv.newPut hp ⟨[],rfl,rfl⟩) (by simp only[Rep])
def atKey(M:RM)(x y:RV)(P:Addr->List (Key×RV)->Key->Prop):Prop:=match x with
 | .ref a=>(match M a with|some (.dk kvs)=>(match qfc y with|some k=>P a kvs k|none=>False)|_=>False)
 |_=>False
theorem qoW{M:RM}{x y:RV}{P:Addr->List (Key×RV)->Key->Prop}(h:atKey M x y P):∃ a kvs k,x= .ref a/\M a=some (.dk kvs)/\qfc y=some k/\P a kvs k:=by
 unfold atKey at h;split at h
 · split at h
   · split at h
     · exact⟨_,_,_,rfl,by assumption,by assumption,h⟩
     · exact h.elim
   · exact h.elim
 · exact h.elim
noncomputable def qpb (td ty:RTE):RTS:=fun D σ M=>td σ M fun x M1=>ty σ M1 fun y M2=>atKey M2 x y fun a kvs k=>(qa0 kvs k).isSome=true/\D.nx σ (put M2 a (.dk (qoB kvs k)))
theorem qwm{tpos:Pos}(ho:RPE X o td)(hi:RPE X i ty):RPS X (.Delete [.Subscript o i tpos] pos) (qpb td ty):=PS.imp (qqD ho hi) fun D0 σ0 H h=>by
 obtain⟨σ,M,D,hs,hv,ht,hd⟩:=h;refine⟨σ,M,_,hs,hv,ht,fun rx M1 x H1 q e1 v1 r1=>⟨σ,M1,_,hs.ext e1,v1,q,fun ry M2 y H2 q2 e2 v2 r2=>?_⟩⟩
 obtain⟨a,kvs,k,rfl,hm,hy,hl,q2⟩:=qoW q2;simp only[Rep]at r1;subst r1;obtain⟨ho,eo,ws,rfl,hg⟩:=v2 a _ hm;have:=qcj hy r2;subst this;have ex:Ext H2 (upd H2 a (.dK (qhp ws k))):=Ext.write eo rfl;have e3:=(e1.trans e2).trans ex;refine⟨a,ws,k,rfl,eo,rfl,?_,hd.nx σ _ _ _ q2 e3 (v2.write hm ⟨_,rfl,qd6 (hg.ext ex)⟩) (hs.ext e3)⟩;obtain⟨v,hv'⟩:=wa5.mp hl;obtain⟨u,hu,_⟩:=(qbz (k:=k) hg).1 v hv';rw[hu];rfl
end
section
variable {X:Cx}{x m:Str}{p pos apos:Pos}{o e:Expr}{es:List Expr}{t:RTA}{ta:RTE}{k:Nat}{ps:List Str}{sp:RSp}{C g:Addr}{fd:FuncData}
noncomputable def qlt (C:Addr)(m:Str)(sp:RSp)(ta:RTE)(t:RTA):RTE:=fun σ M Q=>ta σ M fun x M1=>match x with
 | .ref a=>∃ fs,M1 a=some (.ins C fs)/\fs.lookup m=none/\t σ M1 fun rs M2=>sp (.ref a::rs) M2 Q
 |_=>False
theorem qlU{σ0:L2.St}{H:Hp}{Q0:VK}(h:up X.K (qlt C m sp ta t) σ0 H Q0):qp2 C m (qfl X.K sp) [] (fun _ _ _=>False) (up X.K ta) (upA X.K t) σ0 H Q0:=by
 obtain⟨σ,M,Q,hs,hv,ht,hk⟩:=h;refine⟨σ,M,_,hs,hv,ht,fun rx M1 x H1 q e1 v1 r1=>?_⟩
 cases rx with
 |ref a=>
  obtain⟨fs,hm,hl,q⟩:=q;simp only[Rep]at r1;subst r1;obtain⟨ho,eo,dx,gs,rfl,hg⟩:=v1 a _ hm;refine⟨a,dx,gs,rfl,eo,qd3 hg hl,σ,M1,_,hs.ext e1,v1,q,fun rs M2 vs H2 q2 e2 v2 r2=>?_⟩
  exact⟨.ref a::rs,M2,Q,by rw[waP];exact Reps.cons (by simp only[Rep]) r2,v2,q2,hk.ext (e1.trans e2)⟩
 |_=>exact(show False from q).elim
theorem qwH{pl:Sem Bool}(he:RPE X o ta)(c:Cls X.K C)(hm:Meth X.K C m g)(F:FnOk X.prog X.w X.K X.mg X.base CX0 k g fd ps (qfl X.K sp))(hr:Room k X.A)(hb:Binds X.K fd ps [])(ha:RPA X (e::es) t)
 (hst:starEach (e::es) X.env=(false,eval e X.env)::starEach es X.env:=by rfl) (hpl:(backTo pos (starEach es X.env)).any (·.1)=false:=by rfl)
 (ht:eval (.Call (.Attribute o m apos) (e::es) [] pos) X.env=(do
  let ov<-eval o X.env
  standAt apos.atName
  let(f,first) <-holding [ov] (getMethod ov m pl)
  callWith pos f first (backTo pos (starEach (e::es) X.env)) (backToKw pos (keywordEach [] X.env))):=by rfl):
 RPE X (.Call (.Attribute o m apos) (e::es) [] pos) (qlt C m sp ta t):=PE.imp (qqI he c hm F hr hb .nil qii ha hst hpl ht) fun σ0 H Q0 h=>qlU h
noncomputable def qj1 (C:Addr)(sp:RSp)(t:RTA):RTE:=fun σ M Q=>t σ M fun rs M1=>∀ a,M1 a=none->sp (.ref a::rs) (put M1 a (.ins C [])) (fun v M2=>v= .non/\Q (.ref a) M2)
theorem qwI{h0:Nat}(Mk1:Mk X.K C g)(F:FnOk X.prog X.w X.K X.mg X.base CX0 k g fd ps (qfl X.K sp))(hr:Room (k+1) X.A)(hm:X.mg x=some (.ref C))(hb:Binds X.K fd ps [])(ha:RPA X (e::es) t)(hg:Gl X x:=by rfl)(hdb:(x==("__debug__":Str))=false:=by decide)
 (he:starEach (e::es) X.env=(false,eval e X.env)::starEach es X.env:=by rfl) (hpl:(backTo pos (starEach es X.env)).any (·.1)=false:=by rfl):RPE X (.Call (.Name x p) (e::es) [] pos) (qj1 C sp t):=PE.imp (qqJ Mk1 F hr hg hm hb .nil qii ha hdb he hpl) fun σ0 H Q0 h=>by
 obtain⟨σ,M,Q,hs,hv,ht,hk⟩:=h;refine⟨σ,M,_,hs,hv,ht,fun rs M1 vs H1 q e1 v1 r1 a dx na nd ne=>?_⟩
 have ex1:Ext H1 (upd H1 dx (.own a)):=Ext.new nd;have na':(upd H1 dx (.own a)) a=none:=by rw[qae (Ne.symm ne)];exact na
 have ex2:Ext H1 (upd (upd H1 dx (.own a)) a (.ins C dx [])):=ex1.trans (Ext.new na');refine⟨.ref a::rs,put M1 a (.ins C []),_,by rw[waP];exact Reps.cons (by simp only[Rep]) (Reps.ext ex2 _ _ r1),(v1.new nd).newPut na' ⟨dx,[],rfl,rfl⟩,q a (v1.free na),fun rv M2 v H2 q2 e2 v2 r2=>?_⟩
 obtain⟨rfl,q2⟩:=q2;simp only[Rep]at r2;exact⟨r2,hk _ M2 _ H2 q2 ((e1.trans ex2).trans e2) v2 (by simp only[Rep])⟩
end
section
variable {X:Cx}{o e f:Expr}{apos cpos:Pos}{td ty tx:RTE}
def qwV:List RV->RM->RVK->Prop:=fun rs M Q=>∃ a kvs,rs= [.ref a]/\M a=some (.dk kvs)/\Q (.int kvs.length) M
theorem qx2:CallR X (.builtin "len") (upC X.K qwV):=by
 intro pins s σ H xs us Q0 I rl h;obtain⟨rs,M,Q,rr,hv,⟨a,kvs,rfl,hm,hq⟩,hk⟩:=h;obtain⟨v,rfl,r1⟩:=rr.one;simp only[Rep]at r1;subst r1;obtain⟨ho,eo,ws,rfl,hg⟩:=hv a _ hm;exact qm0 pins s σ H _ us Q0 I rl ⟨a,ws,rfl,eo,hk _ M _ H hq (.refl H) hv (by simp only[Rep];rw[qaU hg])⟩
end
section
variable {X:Cx}{m:Str}{p pos apos:Pos}{o a b tg:Expr}{ta t1 t2:RTE}{k:Nat}{ps:List Str}{sp:RSp}{C g:Addr}{fd:FuncData}
theorem qsR{pl:Sem Bool}(he:RPE X o ta)(c:Cls X.K C)(hm:Meth X.K C m g)(F:FnOk X.prog X.w X.K X.mg X.base CX0 k g fd ps (qfl X.K sp))(hr:Room k X.A)(hb:Binds X.K fd ps [])
 (ht:eval (.Call (.Attribute o m apos) [] [] pos) X.env=(do
  let ov<-eval o X.env
  standAt apos.atName
  let(f,first) <-holding [ov] (getMethod ov m pl)
  callWith pos f first (backTo pos (starEach [] X.env)) (backToKw pos (keywordEach [] X.env))):=by rfl):
 RPE X (.Call (.Attribute o m apos) [] [] pos) (qlt C m sp ta qnq):=PE.imp (qn0 he c hm F hr hb .nil qii ht) fun σ0 H Q0 h=>by
 obtain⟨σ,M,Q,hs,hv,ht,hk⟩:=h;refine⟨σ,M,_,hs,hv,ht,fun rx M1 x H1 q e1 v1 r1=>?_⟩
 cases rx with
 |ref a=>
  obtain⟨fs,hm,hl,q⟩:=q;simp only[Rep]at r1;subst r1;obtain⟨ho,eo,dx,gs,rfl,hg⟩:=v1 a _ hm;exact⟨a,dx,gs,rfl,eo,qd3 hg hl,[.ref a],M1,Q,Reps.cons (by simp only[Rep]) Reps.nil,v1,q,hk.ext e1⟩
 |_=>exact(show False from q).elim
def qa4(lo:Int)(n:Nat):List RV:=(List.range n).map fun(i:Nat)=>RV.int (lo+(i:Int))
theorem qbW(lo:Int)(n:Nat):(qa4 lo n).length=n:=by simp[qa4]
theorem qrk{H0 Hs:Hp}{K:Frg}{H1:Hp}(lo:Int)(n:Nat)(es:Ext Hs H1):qjD H0 Hs K (Itr lo n) (qa4 lo n) okT id H1 where
 turn:=fun i H M e _ _ x hx=>by
  have hi:i<n:=by have:=(List.getElem?_eq_some_iff.mp hx).1;rw[qbW]at this;exact this
  have hx':x= .int (lo+(i:Int)):=by simp[qa4,hi]at hx;exact hx.symm
  subst hx';refine⟨hi,fun v' H' y=>?_⟩
  obtain⟨rfl,rfl⟩:=y;exact⟨.refl _,fun _ w=>w,by simp only[Rep]⟩
 stop:=fun i H M e _ _ hi=>by rw[qbW]at hi;exact hi
 thaw:=qbG es
noncomputable def qjc (Q:List RV->(RM->Prop)->(RM->RM)->RM->Prop):List RV->RM->Prop:=fun rs M=>match rs with
 | [.int i,.int j]=>(-(2 ^ 62)<=i/\i<2 ^ 62/\-(2 ^ 62)<=j/\j<2 ^ 62)/\Q (qa4 i (j-i).toNat) okT id M
 |_=>False
def qtl(t1 t2:RTE):RTI:=fun σ M Q=>qgL t1 (qgL t2 qnq) σ M (qjc Q)
theorem qry(hm:X.mg "range" =none)(ha:RPE X a t1)(hb:RPE X b t2)(hgl:Gl X "range":=by rfl)(hst:starEach [a,b] X.env= [(false,eval a X.env),(false,eval b X.env)]:=by rfl)(hs2:starEach [b] X.env= [(false,eval b X.env)]:=by rfl)
 (he1:starEach [a,b] X.env=(false,eval a X.env)::starEach [b] X.env:=by rfl) (he2:starEach [b] X.env=(false,eval b X.env)::starEach [] X.env:=by rfl):RPI X tg (.Call (.Name "range" p) [a,b] [] pos) (qtl t1 t2):=
 PI.imp (qlD hgl hm (qkE ha (qkE hb qvM he2) he1) hst hs2) fun σ0 H R h=>by
 obtain⟨σ,M,Q,hs,hv,ht,hk⟩:=h;refine⟨σ,M,qjc Q,hs,hv,ht,fun rs M1 vs H1 q e1 v1 r1=>?_⟩
 unfold qjc at q;split at q
 · rename_i i j
   obtain⟨q1,q⟩:=q;simp only[Reps,Rep]at r1;obtain⟨v,r,rfl,rfl,v',r',rfl,rfl,rfl⟩:=r1;exact⟨i,j,rfl,q1,hk _ okT id M1 _ H1 q e1 v1 (qrk _ _ e1)⟩
 · exact q.elim
end
section
variable {prog:Program}{w:World}{A:Around}{E:Value->Shared->Prop}{s:Shared}
theorem qjr:∀ {vs:List Value} {ns:List Int},vs.length=ns.length->(∀ (j:Nat) v,vs[j]? =some v->∃ t,v= .int (ns.getD j 0) t)->IntsAre vs ns
 | [],[],_,_=>.nil
 |v::vs,n::ns,hl,h=>by
  obtain⟨t,e⟩:=h 0 v rfl;have e:v= .int n t:=e;subst e;exact .cons _ _ (qjr (by simpa using hl) fun j u hu=>h (j+1) u (by simpa using hu))
theorem qhR{d:Addr}{kvs:List (Key×Value)}{ns:List Int}{Q:Value->Shared->Prop}(hh:A.handled=none)(hd:s.heap.DictOf (qak prog w) d kvs)(lo:(d==sysModules)=false)(hk:kvs.map (·.1)=ns.map Sum.inl)(h64:ns.length<64)
 (h:∀ (B:Addr) (h':Heap) (tk e:Nat) (vs':List Value) (ns':List Int),(∀ b o,s.heap.get? b=some o->h'.get? b=some o)->s.heap.get? B=none->h'.get? B=some { cls:=.type "list",data:=.seq vs'.toArray e }->IntsAre vs' ns'->ns'.Perm ns->ns'.Pairwise (· <= ·)->Q (.ref B) { s with heap:=h',toks:=tk }):
 wpAny (model prog w) A (call (.builtin "sorted") [.ref d]) Q E s:=by
 have hlk:kvs.length=ns.length:=by have:=congrArg List.length hk;simpa using this
 obtain⟨o,es,ep,g1,g2,g3,g4,g5,g6⟩:=id hd;have hat:s.heap.DictAt (qak prog w) d kvs ep:=⟨o,es,g1,g2,g3,g4,g5,g6⟩;refine Calls.call_function_entry kind_sorted plain_sorted entry_sorted (args_sorted1 (.ref d)) ?_;unfold Builtin.«sorted»;refine wpAny_bind (m:=checkCount "sorted" 1 1 _) (wpAny_pure ?_);refine wpAny_bind (PySem.W.kdu_collect (A:=A.in1) (PySem.W.kdl_dict (knd:=qak prog w) (kvs:=kvs) (ep:=ep) lo) hh hat (by rw[hlk];exact wal (waU h64) (by decide)) fun g tk acc kp hacc=>?_)
 have hl:acc.toList.length=ns.length:=by rw[Array.length_toList,hacc.1,hlk]
 have hI:IntsAre acc.toList ns:=qjr hl fun j v e=>by
  obtain⟨k,x,hx,hki⟩:=hacc.2 j v (by rw[<-Array.getElem?_toList];exact e)
  have e2:(kvs.map (·.1))[j]? =some k:=by rw[List.getElem?_map,hx];rfl
  rw[hk,List.getElem?_map]at e2;cases q:ns[j]? with
  |none=>rw[q]at e2;cases e2
  |some m=>
   rw[q]at e2;have e3:(Sum.inl m:Key)=k:=Option.some.inj e2;subst e3;obtain⟨t,rfl⟩:=Value.isInt_shape (show Value.isInt m v=true from hki)
   refine⟨t,?_⟩;rw[List.getD_eq_getElem?_getD,q];rfl
 refine wpAny_bind (wpAny_newList ?_ (by rw[hl];exact wal (waU h64) (by decide)))
 have hoL:(g.push { cls:=.type "list",data:=.seq acc.toList.toArray }).get? g.objs.size=some (seqObj "list" acc.toList.toArray 0):=Heap.get?_push_size _ rfl;refine wpAny_bind (wpAny_holding (wpAny_call_entry PyProof.Rows.slot_list_sort ⟨_,hoL,rfl⟩ PyProof.Rows.entry_list_sort (list_sort_tree (s:={ s with heap:=g.push { cls:=.type "list",data:=.seq acc.toList.toArray },toks:=tk }) hoL hI (by rw[hl];exact h64) fun out ns' a1 a2 a3=>⟨_,rfl,?_⟩) (args_list_sort _)))
 obtain⟨e,he⟩:=sortedHeap_at (out:=out) hoL;refine wpAny_pure ⟨_,rfl,h g.objs.size _ tk e out.toList ns' (fun b o' q=>?_) ?_ (by rw[Array.toArray_toList];exact he) a1 a2 a3⟩
 · have q1:=kp b o' q
   have q2:b<g.objs.size:=wae q1;rw[sortedHeap_old (waq q2) (by rw[size_push'];exact wbc q2)]
   exact Heap.get?_push_of_some _ q1
 · cases q:s.heap.get? g.objs.size with
   |none=>rfl
   |some u=>exact absurd (wae (kp _ u q)) (waM _)
end
theorem qlP{P:Program}{w:World}{H:Hp}{h:Heap}{a:Addr}{o:HO}(x:ObjOk P w H h a o):∃ u,h.get? a=some u:=by
 cases o with
 |lst xs=>obtain⟨_,_,_,_,e⟩:=x;exact⟨_,e⟩
 |tup xs=>obtain⟨_,_,_,o,e,_⟩:=x;exact⟨o,e⟩
 |dK kvs=>obtain⟨_,_,_,_,o,_,_,e,_⟩:=x;exact⟨_,e⟩
 |dT kvs=>obtain⟨_,_,_,_,o,_,_,e,_⟩:=x;exact⟨_,e⟩
 |set S n=>obtain⟨o,_,_,_,e,_⟩:=x;exact⟨_,e⟩
 |ins C dx fs=>obtain⟨_,_,_,e,_⟩:=x;exact⟨_,e⟩
 |own y=>obtain⟨_,e⟩:=x;exact⟨_,e⟩
 |xd fs=>obtain⟨_,⟨_,_,_,e,_⟩,_⟩:=x;exact⟨_,e⟩
 |rng lo hi=>obtain⟨_,_,_,e⟩:=x;exact⟨_,e⟩
 |frz ob u=>obtain⟨e,_⟩:=x;exact⟨_,e⟩
 |tbl ps=>exact⟨_,(show h.get? a=some _ from x)⟩
 |met f y=>exact⟨_,(show h.get? a=some _ from x)⟩
 |ext φ=>obtain⟨_,⟨_,e⟩,_⟩:=x;exact⟨_,e⟩
section
variable {X:Cx}{pins:List (Addr×Obj)}{σ:L2.St}{H:Hp}{s:Shared}{h':Heap}{a:Addr}{o:HO}
theorem none_of(I:Inv X pins σ H s)(hn:s.heap.get? a=none):H a=none:=by
 cases q:H a with
 |none=>rfl
 |some u=>
  obtain⟨v,e⟩:=qlP (I.hok a u q);rw[hn]at e;cases e
theorem quf{t':Nat}(I:Inv X pins σ H s)(k:∀ b u,s.heap.get? b=some u->h'.get? b=some u)(hg:s.heap.get? a=none)(new:ObjOk X.prog X.w (upd H a o) h' a o):Inv X pins σ (upd H a o) { s with heap:=h',toks:=t' }:=by
 have hn:=none_of I hg;have ne:∀ b u,s.heap.get? b=some u->b≠a:=fun b u e z=>by rw[z,hg]at e;cases e
 refine I.un ⟨fun b u q _ _ _=>k b u q,fun b u q _ _ _=>⟨u.slots,k b u q⟩,fun b u q n _=>by rw[qae (ne b u q)];exact n,fun b u q _=>⟨u,k b u q⟩,fun b xs q=>by rw[qae (qah q hn)];exact q,fun b u xs q=>by rw[qae (qah q hn)];exact q,fun b ps q=>⟨#[],by rw[qae (qah q hn),q];simp⟩⟩ fun b u e=>?_
 by_cases hb:b=a
 · subst hb;rw[qaj]at e;cases e;exact new
 · rw[qae hb]at e
   exact(I.hok b u e).stay (fun c v _ q=>k c v q) (fun c q=>by rw[qae (qah q hn)];exact q) fun c xs q=>by rw[qae (qah q hn)];exact q
end
theorem qbU:∀ {vs:List Value} {ns:List Int},IntsAre vs ns->Vals (ns.map V.int) vs
 |_,_,.nil=>.nil
 |_,_,.cons _ t r=>.cons ⟨t,rfl⟩ (qbU r)
theorem qgw{K:Frg}{H:Hp}:∀ (ns:List Int),Reps K H (ns.map RV.int) (ns.map V.int)
 | []=>Reps.nil
 |n::r=>Reps.cons (by simp only[Rep]) (qgw r)
theorem qgB{κ:Type}{K:Frg}{H:Hp}:∀ {kvs:List (κ×RV)} {ws:List (κ×V)},RepP K H kvs ws->kvs.map (·.1)=ws.map (·.1)
 | [],ws,h=>by have h':ws= []:=h;subst h';rfl
 |(j,x)::r,ws,h=>by
  obtain⟨w,t,rfl,h1,h2⟩:=h;rw[wad,wad,qgB h2]
theorem ql4{κ:Type}:∀ {ws:List (κ×V)} {vs:List (κ×Value)},KV ws vs->ws.map (·.1)=vs.map (·.1)
 |_,_,.nil=>rfl
 |_,_,.cons r t=>by rw[wad,wad,r.1,ql4 t]
section
variable {X:Cx}
noncomputable def qpa:List RV->RM->RVK->Prop:=fun rs M Q=>∃ a kvs ns,rs= [.ref a]/\M a=some (.dk kvs)/\kvs.map (·.1)=ns.map Sum.inl/\ns.length<64/\∀ ns':List Int,ns'.Perm ns->ns'.Pairwise (· <= ·)->Q (.ls (ns'.map RV.int)) M
theorem qoI(hc:X.calm=true):CallR X (.builtin "sorted") (upC X.K qpa):=by
 intro pins s σ H xs us Q0 I rl h;obtain⟨rs,M,Q,rr,hv,hq,hk⟩:=h;obtain⟨a,kvs,ns,rfl,hm,hkk,h64,hq⟩:=hq;simp only[Reps,Rep]at rr;obtain⟨v,r,rfl,rfl,rfl⟩:=rr;obtain⟨u,rfl,ru⟩:=vals1 rl;cases ru;obtain⟨ho,eo,ws,rfl,hg⟩:=hv a _ hm;obtain⟨hz,hS,vs,r,m⟩:ws.length<=sizeLine/\(a==sysModules)=false/\∃ vs,KV ws vs/\s.heap.DictOf (qak X.prog X.w) a vs:=I.hok a _ eo;refine qhR (I.ok.hd hc) m hS (by rw[<-ql4 r,<-qgB hg];exact hkk) h64 fun B h' tk e vs' ns' kp hB hget hI hp ho=>?_
 have hn:=none_of I hB;have hl:ns'.length<=sizeLine:=by rw[hp.length_eq];exact wal (waU h64) (by decide)
 refine frozen ⟨.ref B,upd H B (.lst (ns'.map V.int)),quf I kp hB ⟨by rw[wab];exact hl,vs',e,qbU hI,hget⟩,rfl,H,B,_,rfl,hn,rfl,fun o=>?_⟩
 exact hk _ M _ _ (hq ns' hp ho) (Ext.new hn) (hv.new hn) (qcb hn (qgw ns'))
def qtk:List RV->RM->RVK->Prop:=fun rs M Q=>match rs with
 | [.int i,.int j]=>Q (.int (if j > i then j else i)) M
 |_=>False
theorem qDG(hc:X.calm=true):CallR X (.builtin "max") (upC X.K qtk):=by
 intro pins s σ H xs us Q0 I rl h;obtain⟨rs,M,Q,rr,hv,hq,hk⟩:=h
 match rs,hq with
 | [.int i,.int j],hq=>
  simp only[Reps,Rep]at rr;obtain⟨v,r,rfl,rfl,v',r',rfl,rfl,rfl⟩:=rr;exact qmZ hc pins s σ H _ us Q0 I rl ⟨i,j,rfl,hk _ M _ H hq (.refl H) hv (by simp only[Rep])⟩
end
open PySem.W
section
variable {prog:Program}{w:World}{A:Around}{E:Value->Shared->Prop}{s:Shared}
def qpn(vs:List Value)(p:Array Nat):List Value:=p.toList.map fun i=>vs.getD i Value.none
def qyi(prog:Program)(w:World)(A:Around)(s:Shared)(a:Addr)(vs:List Value){O:KeyOrd}(f:Nat->O.α):Prop:=∀ g:Heap,(∀ b o,b≠a->s.heap.get? b=some o->g.get? b=some o)->
 ∃ κ,(∀ (Q:SortKind->Shared->Prop) (E':Value->Shared->Prop),Q κ { s with heap:=g }->wpAny (model prog w) A (keyKind' vs.toArray) Q E' { s with heap:=g })/\
  ∀ i j C,i<vs.length->j<vs.length->C (ltf f i j) { s with heap:=g }->kas_ask prog w A κ vs i j C { s with heap:=g }
theorem qtY{vs:List Value}{O:KeyOrd}{f:Nat->O.α}(h:vs.length<2):∃ p,Ar vs.length p/\SU f p vs.length/\qpn vs p=vs:=by
 match vs,h with
 | [],_=>exact⟨#[],⟨rfl,by simp⟩,fun i j _ z=>absurd z (Nat.not_lt_zero _),rfl⟩
 | [v],_=>exact⟨#[0],⟨rfl,by simp[List.range_succ]⟩,fun i j b c=>by rw[show i=j by simp at c;omega];exact KeyOrd.kle_refl _,rfl⟩
theorem qkW{a:Addr}{vs:List Value}{n:Nat}{P:Fin->Shared->Prop}{O:KeyOrd}{f:Nat->O.α}(ho:s.heap.get? a=some (seqObj "list" vs.toArray n))(h64:vs.length<64)(hk:2<=vs.length->qyi prog w A s a vs f)
 (h:∀ p,Ar vs.length p->SU f p vs.length->P (.done (.ret .none)) { s with heap:=sortedHeap s.heap a vs (qpn vs p).toArray }):wpAny (model prog w) A (Builtin.«list.sort» ⟨[.ref a],[]⟩) P E s:=by
 have la:a<s.heap.objs.size:=wae ho;have big:(64:Nat)<=sizeLine:=by decide
 obtain⟨e1,ho1⟩:∃ e1,(s.heap.update a (Obj.mapSeq fun _=>(#[]:Array Value))).get? a=some (seqObj "list" #[] e1):=⟨_,get?_update_seq ho fun _=>#[]⟩
 rw[list_sort_plain];refine wpAny_bind (listItems_at ho rfl (wpAny_bind (listUpdate_at ho rfl (wpAny_bind (seqEpoch_at ho1 rfl (wpAny_bind (wpAny_newTuple (wpAny_bind (wpAny_newList (wpAny_holding ?_) (waV _))) (by show vs.length<=_;omega))))) (by rw[wag];omega) (waV _))))
 let g:=((s.heap.update a (Obj.mapSeq fun _=>(#[]:Array Value))).push (seqObj "tuple" vs.toArray 0)).push (seqObj "list" #[] 0)
 have hg:g.get? a=some (seqObj "list" #[] e1):=Heap.get?_push_of_some _ (Heap.get?_push_of_some _ ho1);have kg:∀ b o,b≠a->s.heap.get? b=some o->g.get? b=some o:=fun b o hb e=>Heap.get?_push_of_some _ (Heap.get?_push_of_some _ (by rw[Heap.get?_update_ne _ _ _ _ hb];exact e))
 show wpAny (model prog w) A _ P E { s with heap:=g }
 dsimp only;have fin:∀ (st:SortSt) p,Ar vs.length p->SU f p vs.length->(arrOf st).map (·.2)=(qpn vs p).toArray->failedOf st=none->wpAny (model prog w) A (do
  let touched:=(<-seqEpoch a) != e1
  Builtin.List.listUpdate (.ref a) fun _=>(arrOf st).map (·.2)
  if let some e:=failedOf st then rule "list.sort.comparison-raised";throw e
  if touched then rule "list.sort.modified";raiseError "ValueError" "list modified during sort"
  ret .none) P E { s with heap:=g }:=fun st p ar su e ef=>by
  have z:(qpn vs p).length=vs.length:=by unfold qpn;rw[wab,Array.length_toList,ar.sz]
  rw[e,ef];refine wpAny_bind (seqEpoch_at hg rfl (wpAny_bind (listUpdate_at hg rfl ?_ (waV _) (by rw[wag,z];omega))))
  simp only[bne_self_eq_false,wav,if_false];exact wpAny_pure (h p ar su)
 by_cases h2:vs.toArray.size<2
 · obtain⟨p,ar,su,e⟩:=qtY (f:=f) (by simpa using h2)
   rw[if_pos h2,if_pos h2];refine wpAny_bind (wpAny_pure ?_);rw[StateT.run_pure];refine wpAny_bind (wpAny_pure (fin _ p ar su ?_ rfl));rw[e];show(vs.toArray.zip vs.toArray).map (·.2)=_
   apply Array.toList_inj.mp;simp[List.map_snd_zip]
 · have l2:2<=vs.length:=by simpa using h2
   obtain⟨κ,k1,k2⟩:=hk l2 g kg;rw[if_neg h2,if_neg h2];refine wpAny_bind (k1 _ _ (wpAny_bind (wpAny_mono (kat_run (Q:=fun st' s'=>s'= { s with heap:=g }/\∃ p,Ar vs.length p/\SU f p vs.length/\arrOf st'=p.map (kas_item (vs.toArray.zip vs.toArray))/\failedOf st'=none)
    (G:=fun p s'=>s'= { s with heap:=g }/\Ar vs.length p/\SU f p vs.length) rfl l2 h64 (fun p st' s' _ a2 a3 a4=>⟨a4.1,p,a4.2.1,a4.2.2,a2,a3⟩) (qtq k2 (qqx (by omega) fun p ar su=>⟨rfl,ar,su⟩))) ?_ fun _ _ x=>x)))
   rintro ⟨⟨⟩,st'⟩ s' ⟨rfl,p,ar,su,e2,e3⟩;exact fin st' p ar su (kat_snds rfl e2) e3
theorem qhQ{l:Addr}{vs:List Value}{Q:Value->Shared->Prop}{O:KeyOrd}{f:Nat->O.α}(hl:s.heap.IsList l vs.toArray)(h64:vs.length<64)
 (hk:2<=vs.length->∀ a g,s.heap.get? a=none->(∀ b o,s.heap.get? b=some o->g.get? b=some o)->qyi prog w A.in1.in1 { s with heap:=g } a vs f)
 (h:∀ B h' e p,(∀ b o,s.heap.get? b=some o->h'.get? b=some o)->s.heap.get? B=none->h'.get? B=some (seqObj "list" (qpn vs p).toArray e)->Ar vs.length p->SU f p vs.length->Q (.ref B) { s with heap:=h' }):
 wpAny (model prog w) A (call (.builtin "sorted") [.ref l]) Q E s:=by
 have big:(64:Nat)<=sizeLine:=by decide
 refine Calls.call_function_entry kind_sorted plain_sorted entry_sorted (args_sorted1 (.ref l)) ?_;unfold Builtin.«sorted»;refine wpAny_bind (m:=checkCount "sorted" 1 1 _) (wpAny_pure (wpAny_bind (collect_list hl (wpAny_bind (wpAny_newList ?_ (by omega))) (by omega))))
 let g0:=(s.heap.push (seqObj "list" #[] 0)).update s.heap.objs.size (Obj.mapSeq (· ++vs.toArray))
 have z0:g0.objs.size=s.heap.objs.size+1:=by show Array.size (Heap.objs (Heap.update _ _ _))=_;rw[Heap.size_update,size_push']
 have kp:∀ b o,s.heap.get? b=some o->(g0.push (seqObj "list" vs.toArray 0)).get? b=some o:=fun b o e=>Heap.get?_push_of_some _ (by
  show Heap.get? (Heap.update _ _ _) b=_;rw[Heap.get?_update_ne _ _ _ _ (waq (wae e))];exact Heap.get?_push_of_some _ e)
 have hB:s.heap.get? g0.objs.size=none:=Heap.get?_none_of_le (by rw[z0];exact Nat.le_succ _)
 have hoL:(g0.push (seqObj "list" vs.toArray 0)).get? g0.objs.size=some (seqObj "list" vs.toArray 0):=Heap.get?_push_size _ rfl;show wpAny _ _ _ _ _ { s with heap:=g0.push (seqObj "list" vs.toArray 0) }
 refine wpAny_bind (wpAny_holding (wpAny_call_entry PyProof.Rows.slot_list_sort ⟨_,hoL,rfl⟩ PyProof.Rows.entry_list_sort (qkW (s:={ s with heap:=g0.push (seqObj "list" vs.toArray 0) }) (f:=f) hoL h64 (fun h2=>hk h2 _ _ hB kp) fun p ar su=>⟨_,rfl,?_⟩) (PyProof.Rows.args_list_sort (.ref g0.objs.size))))
 obtain⟨e,he⟩:=sortedHeap_at (out:=(qpn vs p).toArray) hoL;refine wpAny_pure ⟨_,rfl,h g0.objs.size _ e p (fun b o q=>?_) hB he ar su⟩
 have ne:b≠g0.objs.size:=fun z=>by rw[z,hB]at q;cases q
 rw[sortedHeap_old ne (by rw[size_push'];exact wbc (by rw[z0];exact wbc (wae q)))]
 exact kp b o q
end
section
variable {X:Cx}{pins:List (Addr×Obj)}{σ:L2.St}{H:Hp}{s:Shared}
def qaW(M:RM):RV->RV
 | .ref a=>(match M a with|some (.lst xs)=>.ls xs|_=>.ref a)
 |x=>x
theorem qmN(I:Inv X pins σ H s){n:Nat}:∀ {rs:List RV} {vs:List V} {us:List Value},rs.all (okR n)=true->Reps X.K H rs vs->Vals vs us->Dens s.heap rs us
 | [],vs,us,_,r,w=>by
  have e:vs= []:=by simpa only[Reps]using r
  subst e;cases w;simp only[Dens]
 |x::rs,vs,us,o,r,w=>by
  rw[wat,waa]at o;simp only[Reps]at r;obtain⟨v,vs',rfl,r1,r2⟩:=r;obtain⟨u,us',rfl,w1,w2⟩:=Vals.cons_inv w;simp only[Dens];exact⟨u,us',rfl,qbD I n x v u o.1 r1 w1,qmN I o.2 r2 w2⟩
theorem qdT(I:Inv X pins σ H s){M:RM}(hv:View X.K H M){a:RV}{x:V}{v:Value}(o:okR 16 (qaW M a)=true)(ra:Rep X.K H a x)(rx:RelV x v):Den s.heap (qaW M a) v:=by
 cases a with
 |ref p=>
  cases q:M p with
  |none=>rw[show qaW M (.ref p)= .ref p by simp only[qaW,q]]at o;cases o
  |some ob=>
   cases ob with
   |lst xs=>
    have e:qaW M (.ref p)= .ls xs:=by simp only[qaW,q]
    rw[e]at o ⊢;simp only[Rep]at ra;subst ra;cases rx;obtain⟨ho,e0,vs,rfl,hr⟩:=hv p _ q;obtain⟨its,rv,pl,hz⟩:=I.list (SqL.of e0);simp only[Den];exact⟨p,its,rfl,pl.isList,qmN I (n:=15) o hr rv⟩
   |dk kvs=>rw[show qaW M (.ref p)= .ref p by simp only[qaW,q]]at o;cases o
   |dt kvs=>rw[show qaW M (.ref p)= .ref p by simp only[qaW,q]]at o;cases o
   |fk kvs=>rw[show qaW M (.ref p)= .ref p by simp only[qaW,q]]at o;cases o
   |ft kvs=>rw[show qaW M (.ref p)= .ref p by simp only[qaW,q]]at o;cases o
   |ins C fs=>rw[show qaW M (.ref p)= .ref p by simp only[qaW,q]]at o;cases o
 |_=>exact qbD I 16 _ x v o ra rx
def qAG:RR2:=fun x y M Q=>okR 16 (qaW M x)=true/\okR 16 (qaW M y)=true/\Q (.bl (eqR (qaW M x) (qaW M y))) M
def qAw:RR2:=fun x y M Q=>okR 16 (qaW M x)=true/\okR 16 (qaW M y)=true/\Q (.bl (!eqR (qaW M x) (qaW M y))) M
theorem qDp(hu:X.A.units+64<cLine):ROp X (compareOp .Eq) qAG:=by
 intro pins s σ H x y v u Q0 I rx ry h;obtain⟨a,b,M,Q,ra,rb,hv,⟨o1,o2,hq⟩,hk⟩:=h;exact qnL 15 _ _ X.A s v u o1 o2 (qdT I hv o1 ra rx) (qdT I hv o2 rb ry) (by omega) _ _ _ _ ⟨.bl _,H,I,rfl,hk _ M _ H hq (.refl H) hv (by simp only[Rep])⟩
theorem qDl(hu:X.A.units+64<cLine):ROp X (compareOp .NotEq) qAw:=by
 intro pins s σ H x y v u Q0 I rx ry h;obtain⟨a,b,M,Q,ra,rb,hv,⟨o1,o2,hq⟩,hk⟩:=h;exact qe6 15 _ _ X.A s v u o1 o2 (qdT I hv o1 ra rx) (qdT I hv o2 rb ry) (by omega) _ _ _ _ ⟨.bl _,H,I,rfl,hk _ M _ H hq (.refl H) hv (by simp only[Rep])⟩
end
section
variable {X:Cx}
noncomputable def kLR (Q:RVK):List RV->RM->Prop:=fun rs M=>match rs with
 | [.int i,.int j]=>(-1000000<=i/\i<=1000000/\-1000000<=j/\j<=1000000)/\(j-i).toNat<=1000/\Q (.ls (qa4 i (j-i).toNat)) M
 |_=>False
def qpc(ta tb:RTE):RTE:=fun σ M Q=>qgL ta (qgL tb qnq) σ M (kLR Q)
theorem qf8(a:Int):∀ (vs:List Value) (k:Nat),(∀ (j:Nat) v,vs[j]? =some v->∃ t,v= .int (a+((k+j:Nat):Int)) t)->Vals ((List.range' k vs.length).map fun(j:Nat)=>V.int (a+(j:Int))) vs
 | [],_,_=>.nil
 |v::vs,k,h=>by
  obtain⟨t,e⟩:=h 0 v rfl;rw[waf,List.range'_succ,wad];refine .cons ⟨t,e⟩ (qf8 a vs (k+1) fun j u hu=>?_)
  obtain⟨t',e'⟩:=h (j+1) u (by simpa using hu)
  refine⟨t',?_⟩;rw[e',show k+(j+1)=k+1+j by omega]
theorem qgy{K:Frg}{H:Hp}(a:Int):∀ (l:List Nat),Reps K H (l.map fun(j:Nat)=>RV.int (a+(j:Int))) (l.map fun(j:Nat)=>V.int (a+(j:Int)))
 | []=>Reps.nil
 |j::r=>Reps.cons (by simp only[Rep]) (qgy a r)
theorem boot_list:bootBuiltins "list" =some (.type "list"):=by decide+kernel
theorem qsT{a b:Expr}{t1 t2:RTE}{p1 p2 pos2 pos:Pos}(hml:X.mg "list" =none)(hmr:X.mg "range" =none)(hc:X.calm=true)(ha:RPE X a t1)(hb:RPE X b t2)(hgl:Gl X "list")(hgr:Gl X "range")
 (hst:starEach [a,b] X.env= [(false,eval a X.env),(false,eval b X.env)]:=by rfl) (hs2:starEach [b] X.env= [(false,eval b X.env)]:=by rfl)
 (he1:starEach [a,b] X.env=(false,eval a X.env)::starEach [b] X.env:=by rfl) (he2:starEach [b] X.env=(false,eval b X.env)::starEach [] X.env:=by rfl)
 (he0:starEach [Expr.Call (.Name "range" p2) [a,b] [] pos2] X.env=(false,eval (Expr.Call (.Name "range" p2) [a,b] [] pos2) X.env)::starEach [] X.env:=by rfl):
 RPE X (.Call (.Name "list" p1) [.Call (.Name "range" p2) [a,b] [] pos2] [] pos) (qpc t1 t2):=by
 intro pins s σ0 H Q0 I h;obtain⟨σ,M,Q,hs,hv,ht,hk⟩:=h;have args:RPA X [a,b] (qgL t1 (qgL t2 qnq)):=qkE ha (qkE hb qvM he2) he1;refine Call_ (qdh I hgl hml boot_list (waB ?_ he0 rfl));rw[he0];show wpAny _ _ (spliced ((false,eval (Expr.Call (.Name "range" p2) [a,b] [] pos2) X.env)::backTo pos (starEach [] X.env))) _ _ s;refine Calls.spliced_cons (Call_ (qdh I hgr hmr boot_range (waB (thn (args pos2 pins s σ0 H (fun vs H1=>∃ i j M1,vs= [V.int i,V.int j]/\kLR Q [.int i,.int j] M1/\Ext H H1/\View X.K H1 M1) I ⟨σ,M,_,hs,hv,ht,fun rs M1 vs H1 q e1 v1 r1=>?_⟩) fun us s1 q1=>?_) (by rw[hst,hs2]) (by rw[hs2];rfl))))
 · unfold kLR at q
   split at q
   · simp only[Reps,Rep]at r1
     obtain⟨v,r,rfl,rfl,v',r',rfl,rfl,rfl⟩:=r1;exact⟨_,_,M1,rfl,q,e1,v1⟩
   · exact q.elim
 · obtain⟨vs,H1,I1,rv,i,j,M1,rfl,q,e1,v1⟩:=q1
   obtain⟨u1,us1,rfl,q1,rv⟩:=Vals.cons_inv rv;obtain⟨u2,us2,rfl,q2,rv⟩:=Vals.cons_inv rv;cases rv;obtain⟨tt1,rfl⟩:=q1;obtain⟨tt2,rfl⟩:=q2;obtain⟨⟨b1,b2,b3,b4⟩,hn,q⟩:=q;refine call_range_2 ?_;have I2:=I1.kept (h':=s1.heap.push { cls:=.type "range",data:=.fields #[.int i tt1,.int j tt2,.int 1 s1.toks] }) (t':=s1.toks+1) (fun b o e=>Heap.get?_push_of_some _ e)
   refine Calls.spliced_nil ?_;have hsz:Builtin.Range.rangeSize i j 1=((j-i).toNat:Int):=by rw[rangeSize_one];split<;>omega
   refine call_list_range (I2.ok.hd hc) (IsRange.new s1.heap i j 1 tt1 tt2 s1.toks) (small_one (by omega) (by omega) (by omega) (by omega)) hsz (by omega) fun h' tk acc c' kp hget hit=>?_
   have hfr:=I2.hok.fresh (wac _);have hv2:Vals ((List.range (j-i).toNat).map fun(k:Nat)=>V.int (i+(k:Int))) acc.toList:=by
    have:=qf8 i acc.toList 0 fun k v e=>by
     obtain⟨t,e'⟩:=hit.2 k v (by rw[<-Array.getElem?_toList];exact e)
     exact⟨t,by rw[e'];simp⟩
    rw[Array.length_toList,hit.1]at this;rw[List.range_eq_range'];exact this
   refine frozen ⟨.ref _,_,I2.laid kp (wac _) (o:=.lst ((List.range (j-i).toNat).map fun(k:Nat)=>V.int (i+(k:Int)))) ⟨by rw[wab,wba];exact wal hn (by decide),acc.toList,c',hv2,by rw[Array.toArray_toList];exact hget⟩,rfl,H1,_,_,rfl,hfr,rfl,fun o=>?_⟩
   exact hk _ M1 _ _ q (e1.trans (Ext.new hfr)) (v1.new hfr) (qcb hfr (qgy i _))
end
structure RMt(P:Program)(w:World)(K:Frg)(mg:Str->Option Value)(base:Heap)(C:Addr)(k:Nat)(m:Str)(ps:List Str)(sp:RSp):Prop where
 ex:∃ (g:Addr) (fd:FuncData),Meth K C m g/\Binds K fd ps []/\FnOk P w K mg base CX0 k g fd ps (qfl K sp)
structure RIn(P:Program)(w:World)(K:Frg)(mg:Str->Option Value)(base:Heap)(C:Addr)(k:Nat)(ps:List Str)(sp:RSp):Prop where
 ex:∃ (g:Addr) (fd:FuncData),Mk K C g/\Binds K fd ps []/\FnOk P w K mg base CX0 k g fd ps (qfl K sp)
section
variable {X:Cx}{x m:Str}{p pos apos:Pos}{o e:Expr}{es:List Expr}{t:RTA}{ta:RTE}{k:Nat}{ps:List Str}{sp:RSp}{C:Addr}
theorem qsQ{pl:Sem Bool}(F:RMt X.prog X.w X.K X.mg X.base C k m ps sp)(c:Cls X.K C)(hr:Room k X.A)(he:RPE X o ta)(ha:RPA X (e::es) t)
 (hst:starEach (e::es) X.env=(false,eval e X.env)::starEach es X.env:=by rfl) (hpl:(backTo pos (starEach es X.env)).any (·.1)=false:=by rfl)
 (ht:eval (.Call (.Attribute o m apos) (e::es) [] pos) X.env=(do
  let ov<-eval o X.env
  standAt apos.atName
  let(f,first) <-holding [ov] (getMethod ov m pl)
  callWith pos f first (backTo pos (starEach (e::es) X.env)) (backToKw pos (keywordEach [] X.env))):=by rfl):
 RPE X (.Call (.Attribute o m apos) (e::es) [] pos) (qlt C m sp ta t):=by
 obtain⟨g,fd,hm,hb,F⟩:=F.ex;exact qwH he c hm F hr hb ha hst hpl ht
theorem qqm{pl:Sem Bool}(F:RMt X.prog X.w X.K X.mg X.base C k m ps sp)(c:Cls X.K C)(hr:Room k X.A)(he:RPE X o ta)
 (ht:eval (.Call (.Attribute o m apos) [] [] pos) X.env=(do
  let ov<-eval o X.env
  standAt apos.atName
  let(f,first) <-holding [ov] (getMethod ov m pl)
  callWith pos f first (backTo pos (starEach [] X.env)) (backToKw pos (keywordEach [] X.env))):=by rfl):
 RPE X (.Call (.Attribute o m apos) [] [] pos) (qlt C m sp ta qnq):=by
 obtain⟨g,fd,hm,hb,F⟩:=F.ex;exact qsR he c hm F hr hb ht
theorem qsS(F:RIn X.prog X.w X.K X.mg X.base C k ps sp)(hr:Room (k+1) X.A)(hm:X.mg x=some (.ref C))(ha:RPA X (e::es) t)(hg:Gl X x:=by rfl)(hdb:(x==("__debug__":Str))=false:=by decide)
 (he:starEach (e::es) X.env=(false,eval e X.env)::starEach es X.env:=by rfl) (hpl:(backTo pos (starEach es X.env)).any (·.1)=false:=by rfl):RPE X (.Call (.Name x p) (e::es) [] pos) (qj1 C sp t):=by
 obtain⟨g,fd,hM,hb,F⟩:=F.ex;exact qwI (h0:=0) hM F hr hm hb ha hg hdb he hpl
end
section
variable {X:Cx}
noncomputable def qtm:List RV->RM->RVK->Prop:=fun rs M Q=>match rs with
 | [.ref a,.ty T']=>T'= "list"/\(match M a with|some (.lst _)=>Q (.bl true) M|_=>False)
 |_=>False
theorem qkB:CallR X (.builtin "isinstance") (upC X.K qtm):=by
 intro pins s σ H xs us Q0 I rl h;obtain⟨rs,M,Q,rr,hv,hq,hk⟩:=h;unfold qtm at hq;split at hq
 · rename_i a T'
   obtain⟨rfl,hq⟩:=hq;obtain⟨v,w,rfl,r1,r2⟩:=rr.two;obtain⟨u,u',rfl,w1,w2⟩:=vals2 rl;simp only[Rep]at r1 r2;subst r1;subst r2;obtain rfl:u'=Value.type "list":=w2;cases(show u=Value.ref a from w1)
   split at hq
   · rename_i ys em
     obtain⟨ho,e,r⟩:=hv a _ em;obtain⟨vs,rfl,hr⟩:=r;obtain⟨its,_,pt,_⟩:=I.list (SqL.of e);obtain⟨o,h1,h2,_⟩:=pt.isList;exact waS PySem.W.kitx_list I.kIn ⟨o,h1,h2⟩ (qek X.K) (fun z=>nomatch z) fun tk=>⟨.bl true,H,I.tok tk,rfl,hk _ M _ H hq (.refl H) hv (by simp only[Rep])⟩
   · exact hq.elim
 · exact hq.elim
end
abbrev TK:=List (Option Key)
def qpo:RV->Option (Option Key)
 | .non=>some none
 | .int i=>some (some (.inl i))
 | .str x=>some (some (.inr x))
 |_=>none
def qj4:List RV->Option TK
 | []=>some []
 |r::rs=>match qpo r,qj4 rs with
  |some k,some ks=>some (k::ks)
  |_,_=>none
def qco:RV->Option TK
 | .tup rs=>qj4 rs
 |_=>none
noncomputable def qA0:List (TK×Str)->List (TK×Addr×Value)->Prop
 | [],[]=>True
 |(k,y)::r,(k',_,v)::r'=>k=k'/\(∃ t,v= .str y t)/\qA0 r r'
 |_,_=>False
structure qr9(P:Program)(w:World)(K:Frg)(mg:Str->Option Value)(x:Str)(kvs:List (TK×Str)):Prop where
 ex:∃ a xs,mg x=some (.ref a)/\(a==sysModules)=false/\(∀ h:Heap,K.In h->h.DictOfH (tupleKind (optKind P w)) a xs)/\qA0 kvs xs
theorem qjf{P:Program}{w:World}{K:Frg}{H:Hp}:∀ {rs:List RV} {ks:TK} {vs:List V} {its:List Value},qj4 rs=some ks->Reps K H rs vs->Vals vs its->ItemsAre (optKind P w) ks its
 | [],ks,vs,its,e,r,v=>by
  cases e;simp only[Reps]at r;subst r;cases v;exact .nil
 |r::rs,ks,vs,its,e,hr,v=>by
  obtain⟨x,xs,rfl,h1,h2⟩:=(by simpa only[Reps]using hr:∃ v r',vs=v::r'/\Rep K H r v/\Reps K H rs r')
  cases v with
  |cons v1 v2=>
   rename_i u its';simp only[qj4]at e;cases e1:qpo r with
   |none=>rw[e1]at e;cases e
   |some k=>
    cases e2:qj4 rs with
    |none=>rw[e1,e2]at e;cases e
    |some ks'=>
     rw[e1,e2]at e;cases e;refine .cons ?_ (qjf e2 h2 v2);cases r with
     |non=>
      cases e1;have:x= .non:=by simpa only[Rep]using h1
      subst this;cases(show u=Value.none from v1)
      rfl
     |int i=>
      cases e1;have:x= .int i:=by simpa only[Rep]using h1
      subst this;exact qdH (P:=P) (w:=w) (k:=.inl i) v1
     |str y=>
      cases e1;have:x= .str y:=by simpa only[Rep]using h1
      subst this;exact qdH (P:=P) (w:=w) (k:=.inr y) v1
     |_=>cases e1
section
variable {κ:Type}[DecidableEq κ]{K:Frg}{H:Hp}{k:κ}{v:RV}{u:V}
def lk{α:Type}(kvs:List (κ×α))(k:κ):Option α:=(kvs.find? fun p=>decide (p.1=k)).map (·.2)
theorem qaX{α:Type}{j:κ}{x:α}{r:List (κ×α)}:lk ((j,x)::r) k=if j=k then some x else lk r k:=by
 unfold lk;rw[List.find?_cons]
 by_cases h:j=k
 · rw[if_pos h,decide_eq_true (show(j,x).1=k from h)];rfl
 · rw[if_neg h,decide_eq_false (show ¬(j,x).1=k from h)]
noncomputable def pt {α:Type}(kvs:List (κ×α))(k:κ)(v:α):List (κ×α):=
 if(kvs.any fun kv=>decide (kv.1=k))=true then kvs.map (fun kv=>if kv.1=k then(kv.1,v)else kv)else kvs++ [(k,v)]
theorem qbH:∀ {kvs:List (κ×RV)} {ws:List (κ×V)},RepP K H kvs ws->(∀ r,lk kvs k=some r->∃ v,qeF ws k=some v/\Rep K H r v)/\(lk kvs k=none->qeF ws k=none)
 | [],ws,h=>by
  have h:ws= []:=h;subst h;exact⟨fun r e=>(by cases e),fun _=>rfl⟩
 |(j,x)::t,ws,h=>by
  obtain⟨v,u,rfl,h1,h2⟩:=h;have ih:=qbH h2;rw[qaX]
  by_cases hj:j=k
  · rw[if_pos hj]
    refine⟨fun r e=>⟨v,qcp (p:=(j,v)) hj,?_⟩,fun e=>(by cases e)⟩
    cases e;exact h1
  · rw[if_neg hj]
    exact⟨fun r e=>by rw[qbF (p:=(j,v)) hj];exact ih.1 r e,fun e=>by rw[qbF (p:=(j,v)) hj];exact ih.2 e⟩
theorem qgC:∀ {kvs:List (κ×RV)} {ws:List (κ×V)},RepP K H kvs ws->(kvs.any fun kv=>decide (kv.1=k))=ws.any fun kv=>decide (kv.1=k)
 | [],ws,h=>by have h':ws= []:=h;subst h';rfl
 |(j,x)::r,ws,h=>by
  obtain⟨w,t,rfl,h1,h2⟩:=h;rw[waN,waN,qgC h2]
theorem qd4(hv:Rep K H v u):∀ {kvs:List (κ×RV)} {ws:List (κ×V)},RepP K H kvs ws->RepP K H (kvs.map fun kv=>if kv.1=k then(kv.1,v)else kv) (ws.map fun kv=>if kv.1=k then(kv.1,u)else kv)
 | [],ws,h=>by have h':ws= []:=h;subst h';rfl
 |(j,x)::r,ws,h=>by
  obtain⟨w,t,rfl,h1,h2⟩:=h;rw[wad,wad]
  by_cases e:j=k
  · rw[if_pos (show(j,x).1=k from e),if_pos (show(j,w).1=k from e)];exact⟨u,_,rfl,hv,qd4 hv h2⟩
  · rw[if_neg (show ¬(j,x).1=k from e),if_neg (show ¬(j,w).1=k from e)];exact⟨w,_,rfl,h1,qd4 hv h2⟩
theorem qlh(hv:Rep K H v u){kvs:List (κ×RV)}{ws:List (κ×V)}(h:RepP K H kvs ws):RepP K H (pt kvs k v) (putK ws k u):=by
 unfold pt putK;rw[qgC h];split
 · exact qd4 hv h
 · exact qja h ⟨u,[],rfl,hv,rfl⟩
end
theorem qoa{K:Frg}{H:Hp}{r:RV}{x:V}{k:Option Key}(e:qpo r=some k)(h:Rep K H r x):x=oV k:=by
 cases r<;>first|(cases e;simp only[Rep]at h;exact h)|cases e
theorem qjg{K:Frg}{H:Hp}:∀ {rs:List RV} {vs:List V} {ks:TK},qj4 rs=some ks->Reps K H rs vs->vs=ks.map oV
 | [],vs,ks,e,h=>by cases e;exact h
 |r::rs,vs,ks,e,h=>by
  simp only[Reps]at h;obtain⟨v,t,rfl,h1,h2⟩:=h;unfold qj4 at e;split at e
  · rename_i a b e1 e2
    cases e;rw[qoa e1 h1,qjg e2 h2];rfl
  · cases e
theorem qfS{K:Frg}{H:Hp}{r:RV}{x:V}{k:TK}(e:qco r=some k)(h:Rep K H r x):∃ b,x= .ref b/\H b=some (.tup (k.map oV)):=by
 cases r with
 |tup rs=>
  simp only[Rep]at h;obtain⟨a,vs,rfl,h1,h2⟩:=h;exact⟨a,rfl,by rw[h1,qjg e h2]⟩
 |_=>cases e
noncomputable def qsi (o:RO)(y:RV):Option (Option RV):=match o with
 | .dk kvs=>(qfc y).map (lk kvs)
 | .dt kvs=>(qco y).map (lk kvs)
 | .fk kvs=>(qfc y).map (lk kvs)
 | .ft kvs=>(qco y).map (lk kvs)
 |_=>none
def dAt(M:RM)(x y:RV):Option (Option RV):=match x with
 | .ref a=>(M a).bind (qsi · y)
 |_=>none
def isD(M:RM)(x:RV):Prop:=match x with
 | .ref a=>match M a with
  |some (.dk _)=>True
  |some (.dt _)=>True
  |some (.fk _)=>True
  |some (.ft _)=>True
  |_=>False
 |_=>False
def dPt(M:RM)(x y v:RV)(N:RM->Prop):Prop:=match x with
 | .ref a=>match M a with
  |some (.dk kvs)=>match qfc y with
   |some k=>kvs.length<sizeLine/\N (put M a (.dk (pt kvs k v)))
   |none=>False
  |some (.dt kvs)=>match qco y with
   |some k=>kvs.length<sizeLine/\N (put M a (.dt (pt kvs k v)))
   |none=>False
  |_=>False
 |_=>False
section
variable {X:Cx}{M:RM}{H:Hp}{x y:RV}{vx vy:V}
theorem qiU{K:Frg}{r:Option RV}(hv:View K H M)(e:dAt M x y=some r)(rx:Rep K H x vx)(ry:Rep K H y vy):
 ∃ a r0,vx= .ref a/\DGet H a vy r0/\(∀ z,r=some z->∃ v,r0=some v/\Rep K H z v)/\(r=none->r0=none):=by
 unfold dAt at e;split at e
 · rename_i a
   simp only[Rep]at rx;cases q:M a with
   |none=>rw[q]at e;cases e
   |some o=>
    rw[q]at e
    replace e:qsi o y=some r:=e
    obtain⟨ho,eo,ro⟩:=hv a o q;unfold qsi at e;split at e
    · rename_i kvs
      obtain⟨ws,rfl,hg⟩:=ro;cases ek:qfc y with
      |none=>rw[ek]at e;cases e
      |some k=>
       rw[ek]at e;have e:lk kvs k=r:=Option.some.inj e;have:=qcj ek ry;subst this;exact⟨a,_,rx,DGet.k eo,fun z hz=>(qbH (k:=k) hg).1 z (e.trans hz),fun hz=>(qbH (k:=k) hg).2 (e.trans hz)⟩
    · rename_i kvs
      obtain⟨ws,rfl,hg⟩:=ro;cases ek:qco y with
      |none=>rw[ek]at e;cases e
      |some k=>
       rw[ek]at e;have e:lk kvs k=r:=Option.some.inj e;obtain⟨b,rfl,hb⟩:=qfS ek ry;exact⟨a,_,rx,DGet.t eo hb,fun z hz=>(qbH (k:=k) hg).1 z (e.trans hz),fun hz=>(qbH (k:=k) hg).2 (e.trans hz)⟩
    · rename_i kvs
      obtain⟨ob,ws,rfl,hg⟩:=ro;cases ek:qfc y with
      |none=>rw[ek]at e;cases e
      |some k=>
       rw[ek]at e;have e:lk kvs k=r:=Option.some.inj e;have:=qcj ek ry;subst this;exact⟨a,_,rx,.inl ⟨ws,k,.inr ⟨ob,eo⟩,rfl,rfl⟩,fun z hz=>(qbH (k:=k) hg).1 z (e.trans hz),fun hz=>(qbH (k:=k) hg).2 (e.trans hz)⟩
    · rename_i kvs
      obtain⟨ob,ws,rfl,hg⟩:=ro;cases ek:qco y with
      |none=>rw[ek]at e;cases e
      |some k=>
       rw[ek]at e;have e:lk kvs k=r:=Option.some.inj e;obtain⟨b,rfl,hb⟩:=qfS ek ry;exact⟨a,_,rx,.inr ⟨ws,k,b,.inr ⟨ob,eo⟩,rfl,hb,rfl⟩,fun z hz=>(qbH (k:=k) hg).1 z (e.trans hz),fun hz=>(qbH (k:=k) hg).2 (e.trans hz)⟩
    · cases e
 · cases e
theorem qrw{K:Frg}(hv:View K H M)(d:isD M x)(rx:Rep K H x vx):∃ a,vx= .ref a/\IsD H a:=by
 unfold isD at d;split at d
 · rename_i a
   simp only[Rep]at rx;split at d
   · rename_i kvs e;obtain⟨ho,eo,ws,rfl,hg⟩:=hv a _ e;exact⟨a,rx,.inl ⟨ws,.inl eo⟩⟩
   · rename_i kvs e;obtain⟨ho,eo,ws,rfl,hg⟩:=hv a _ e;exact⟨a,rx,.inr ⟨ws,.inl eo⟩⟩
   · rename_i kvs e;obtain⟨ho,eo,ob,ws,rfl,hg⟩:=hv a _ e;exact⟨a,rx,.inl ⟨ws,.inr ⟨ob,eo⟩⟩⟩
   · rename_i kvs e;obtain⟨ho,eo,ob,ws,rfl,hg⟩:=hv a _ e;exact⟨a,rx,.inr ⟨ws,.inr ⟨ob,eo⟩⟩⟩
   · exact d.elim
 · exact d.elim
theorem qrL{K:Frg}{v:RV}{vv:V}{N:RM->Prop}(hv:View K H M)(d:dPt M x y v N)(rx:Rep K H x vx)(ry:Rep K H y vy)(rv:Rep K H v vv):
 ∃ a H' M',vx= .ref a/\DPut H a vy vv H'/\N M'/\Ext H H'/\View K H' M':=by
 unfold dPt at d;split at d
 · rename_i a
   simp only[Rep]at rx;split at d
   · rename_i kvs em
     obtain⟨ho,eo,ws,rfl,hg⟩:=hv a _ em;split at d
     · rename_i k ek
       have:=qcj ek ry;subst this;have ex:Ext H (upd H a (.dK (putK ws k vv))):=Ext.write eo rfl;exact⟨a,_,_,rx,DPut.k eo (by rw[<-qaU hg];exact d.1),d.2,ex,hv.write em ⟨_,rfl,qlh (Rep.ext ex _ _ rv) (hg.ext ex)⟩⟩
     · exact d.elim
   · rename_i kvs em
     obtain⟨ho,eo,ws,rfl,hg⟩:=hv a _ em;split at d
     · rename_i k ek
       obtain⟨b,rfl,hb⟩:=qfS ek ry;have ex:Ext H (upd H a (.dT (putK ws k vv))):=Ext.write eo rfl;exact⟨a,_,_,rx,DPut.t eo hb (by rw[<-qaU hg];exact d.1),d.2,ex,hv.write em ⟨_,rfl,qlh (Rep.ext ex _ _ rv) (hg.ext ex)⟩⟩
     · exact d.elim
   · exact d.elim
 · exact d.elim
end
section
variable {X:Cx}{o i value e f:Expr}{pos pos' apos cpos:Pos}{td ty tv tx:RTE}
def qst(Q:RVK)(x y:RV)(M:RM):Prop:=match dAt M x y with
 |some (some v)=>Q v M
 |_=>False
def qsu(td ty:RTE):RTE:=fun σ M Q=>td σ M fun x M1=>ty σ M1 fun y M2=>qst Q x y M2
theorem qpW{Q:RVK}{x y:RV}{M:RM}(h:qst Q x y M):∃ v,dAt M x y=some (some v)/\Q v M:=by
 unfold qst at h;split at h
 · rename_i v e;exact⟨v,e,h⟩
 · exact h.elim
theorem qvV(hu:X.A.units+1<cLine)(ho:RPE X o td)(hi:RPE X i ty)(hs:qsk i):RPE X (.Subscript o i pos) (qsu td ty):=PE.imp (qlG hu ho hi hs) fun σ0 H Q0 h=>by
 obtain⟨σ,M,Q,hs,hv,ht,hk⟩:=h;refine⟨σ,M,_,hs,hv,ht,fun rx M1 x H1 q e1 v1 r1=>⟨σ,M1,_,hs.ext e1,v1,q,fun ry M2 y H2 q2 e2 v2 r2=>?_⟩⟩
 obtain⟨v,ev,q2⟩:=qpW q2;obtain⟨a,r0,rfl,g,g1,_⟩:=qiU v2 ev (Rep.ext e2 _ _ r1) r2;obtain⟨w,rfl,rw'⟩:=g1 v rfl;exact⟨a,w,rfl,g,hk _ M2 _ H2 q2 (e1.trans e2) v2 rw'⟩
def uIn(neg:Bool)(Q:RVK)(x y:RV)(M:RM):Prop:=match dAt M x y with
 |some r=>Q (.bl (if neg then !r.isSome else r.isSome)) M
 |none=>False
def qsb(neg:Bool)(ty td:RTE):RTE:=fun σ M Q=>ty σ M fun y M1=>td σ M1 fun x M2=>uIn neg Q x y M2
theorem qcq{neg:Bool}{σ0:L2.St}{H:Hp}{Q0:VK}(h:up X.K (qsb neg ty td) σ0 H Q0):up X.K ty σ0 H fun y H1=>up X.K td σ0 H1 fun x H2=>∃ a r,x= .ref a/\DGet H2 a y r/\Q0 (.bl (if neg then !r.isSome else r.isSome)) H2:=by
 obtain⟨σ,M,Q,hs,hv,ht,hk⟩:=h;refine⟨σ,M,_,hs,hv,ht,fun ry M1 y H1 q e1 v1 r1=>⟨σ,M1,_,hs.ext e1,v1,q,fun rx M2 x H2 q2 e2 v2 r2=>?_⟩⟩
 unfold uIn at q2;split at q2
 · rename_i r er
   obtain⟨a,r0,rfl,g,g1,g2⟩:=qiU v2 er r2 (Rep.ext e2 _ _ r1);refine⟨a,r0,rfl,g,hk _ M2 _ H2 q2 (e1.trans e2) v2 ?_⟩;have:r0.isSome=r.isSome:=by
    cases r with
    |none=>rw[g2 rfl];rfl
    |some z=>obtain⟨v,rfl,_⟩:=g1 z rfl;rfl
   rw[this];simp only[Rep]
 · exact q2.elim
theorem qBO(hu:X.A.units+1<cLine)(hi:RPE X i ty)(ho:RPE X o td)(h1:behindInMarks .In o=false):RPE X (.Compare i [.In] [o] pos) (qsb false ty td):=PE.imp (qpl (qpm hu hi ho) h1) fun σ0 H Q0 h=>qcq h
theorem qpX(hu:X.A.units+1<cLine)(hi:RPE X i ty)(ho:RPE X o td)(h1:behindInMarks .NotIn o=false):RPE X (.Compare i [.NotIn] [o] pos) (qsb true ty td):=PE.imp (qpl (qgO hu hi ho) h1) fun σ0 H Q0 h=>qcq h
theorem qvU(hu:X.A.units+1<cLine)(hi:RPE X i ty)(ho:RPE X o td)(h1:behindInMarks .In o=false):RPT X (.Compare i [.In] [o] pos) (qfA (qsb false ty td)):=PT.imp (qlA (qpm hu hi ho) h1) fun σ0 H Q0 h=>by
 obtain⟨σ,M,Q,hs,hv,ht,hk⟩:=h;exact qcq (neg:=false) ⟨σ,M,_,hs,hv,ht,qcd hk⟩
theorem qnt(hu:X.A.units+1<cLine)(hi:RPE X i ty)(ho:RPE X o td)(h1:behindInMarks .NotIn o=false):RPT X (.Compare i [.NotIn] [o] pos) (qfA (qsb true ty td)):=PT.imp (qlA (qgO hu hi ho) h1) fun σ0 H Q0 h=>by
 obtain⟨σ,M,Q,hs,hv,ht,hk⟩:=h;exact qcq (neg:=true) ⟨σ,M,_,hs,hv,ht,qcd hk⟩
def qkJ(Q:RVK)(x y z:RV)(M:RM):Prop:=match dAt M x y with
 |some r=>Q (r.getD z) M
 |none=>False
def qo3(td ty:RTE):RTE:=fun σ M Q=>td σ M fun x M1=>isD M1 x/\ty σ M1 fun y M2=>qkJ Q x y .non M2
theorem qnu{K:Frg}{Q:RVK}{x y z:RV}{M:RM}{H:Hp}{a:Addr}{vy vz:V}(h:qkJ Q x y z M)(hv:View K H M)(rx:Rep K H x (.ref a))(ry:Rep K H y vy)(rz:Rep K H z vz):
 ∃ r r0,Q r M/\DGet H a vy r0/\Rep K H r (r0.getD vz):=by
 unfold qkJ at h;split at h
 · rename_i r er
   obtain⟨a',r0,ea,g,g1,g2⟩:=qiU hv er rx ry;cases ea;refine⟨_,r0,h,g,?_⟩;cases r with
   |none=>rw[g2 rfl];exact rz
   |some q=>obtain⟨v,rfl,rw'⟩:=g1 q rfl;exact rw'
 · exact h.elim
theorem qss(hu:X.A.units+1<cLine)(ho:RPE X o td)(he:RPE X e ty)(m:M1 X o "get" apos e cpos):RPE X (.Call (.Attribute o "get" apos) [e] [] cpos) (qo3 td ty):=PE.imp (qn5 hu ho he m) fun σ0 H Q0 h=>by
 obtain⟨σ,M,Q,hs,hv,ht,hk⟩:=h;refine⟨σ,M,_,hs,hv,ht,fun rx M1 x H1 q e1 v1 r1=>?_⟩
 obtain⟨a,rfl,d⟩:=qrw v1 q.1 r1;refine⟨a,rfl,d,σ,M1,_,hs.ext e1,v1,q.2,fun ry M2 y H2 q2 e2 v2 r2=>?_⟩
 obtain⟨r,r0,q3,g,rr⟩:=qnu q2 v2 (Rep.ext e2 _ _ r1) r2 (show Rep X.K H2 .non .non by simp only[Rep])
 exact⟨r0,g,hk _ M2 _ H2 q3 (e1.trans e2) v2 rr⟩
def qo2(td ty tv:RTE):RTS:=fun D σ M=>tv σ M fun v M1=>td σ M1 fun x M2=>ty σ M2 fun y M3=>dPt M3 x y v (D.nx σ)
theorem qsq(hu:X.A.units+1<cLine)(ho:RPE X o td)(hi:RPE X i ty)(hv:RPE X value tv)(hs:swapsWith value (some (.Subscript o i pos')) pos.line X.env=pure false):RPS X (.Assign [.Subscript o i pos'] value pos) (qo2 td ty tv):=PS.imp (qqC hu ho hi hv hs) fun D0 σ0 H h=>by
 obtain⟨σ,M,D,hs,hv,ht,hd⟩:=h;refine⟨σ,M,_,hs,hv,ht,fun rv M1 v H1 q e1 v1 r1=>⟨σ,M1,_,hs.ext e1,v1,q,fun rx M2 x H2 q2 e2 v2 r2=>⟨σ,M2,_,hs.ext (e1.trans e2),v2,q2,fun ry M3 y H3 q3 e3 v3 r3=>?_⟩⟩⟩
 obtain⟨a,H4,M4,rfl,g,n,ex,w⟩:=qrL v3 q3 (Rep.ext e3 _ _ r2) r3 (Rep.ext (e2.trans e3) _ _ r1);have e13:=((e1.trans e2).trans e3).trans ex;exact⟨a,H4,rfl,g,hd.nx σ M4 σ0 H4 n e13 w (hs.ext e13)⟩
def qpe:RTE:=fun _ M Q=>∀ p,M p=none->Q (.ref p) (put M p (.dt []))
theorem qsX:RPE X (.Dict [] [] pos) qpe:=PE.imp qn3 fun σ0 H Q0 h=>by
 obtain⟨σ,M,Q,hs,hv,ht,hk⟩:=h;exact fun p hp=>hk _ _ _ _ (ht p (hv.free hp)) (Ext.new hp) (hv.newPut hp ⟨[],rfl,rfl⟩) (by simp only[Rep])
end
section
variable {X:Cx}
noncomputable def qlq (c:RTT)(tb:RTS):RTS:=fun D σ M=>∃ W:Nat->RSt->RM->Prop,(∃ m,W m σ M)/\∀ m σ M,W m σ M->
 c σ M fun b M1=>if b=true then tb { D with nx:=fun σ' M'=>∃ m',m'<m/\W m' σ' M',ct:=fun σ' M'=>∃ m',m'<m/\W m' σ' M',bk:=D.nx } σ M1 else D.nx σ M1
theorem qsK{c:Expr}{body:List Stmt}{tc:RTT}{tb:RTS}{pos:Pos}(hp:PassesOwn (model X.prog X.w) X.A X.env X.xe)(hc:RPT X c tc)(hb:qm7 X body tb):RPS X (.While c body [] pos) (qlq tc tb):=PS.imp (qnW hp hc hb) fun D0 σ0 H h=>by
 obtain⟨σ,M,D,hs,hv,⟨W,⟨m,w⟩,turn⟩,hd⟩:=h;refine⟨fun m σ0' H'=>∃ σ' M',RepSt X.K H' σ' σ0'/\View X.K H' M'/\W m σ' M'/\Ext H H',⟨m,σ,M,hs,hv,w,.refl _⟩,?_⟩
 rintro m σ1 H1 ⟨σ',M',hs1,hv1,w1,e1⟩;refine⟨σ',M',_,hs1,hv1,turn m σ' M' w1,fun b M2 H2 q e2 v2=>?_⟩
 cases b with
 |false=>
  rw[if_neg (by decide)]at q
  rw[if_neg (by decide)]
  exact hd.nx σ' M2 σ1 H2 q (e1.trans e2) v2 (hs1.ext e2)
 |true=>
  rw[if_pos rfl]at q;rw[if_pos rfl];refine⟨fun σ3 H3=>∃ σ4 M4 m',RepSt X.K H3 σ4 σ3/\View X.K H3 M4/\(m'<m/\W m' σ4 M4)/\Ext H H3,fun σ3 H3 ⟨σ4,M4,m',a,b,c,d⟩=>⟨m',c.1,σ4,M4,a,b,c.2,d⟩,?_⟩
  have e12:=e1.trans e2;refine⟨σ',M2,_,hs1.ext e2,v2,q,⟨fun σ4 M4 σ04 H4 q4 e4 v4 r4=>?_,(hd.ext e12).rt,(hd.ext e12).nx,fun σ4 M4 σ04 H4 q4 e4 v4 r4=>?_⟩⟩
  · obtain⟨m',a,b⟩:=q4
    exact⟨σ4,M4,m',r4,v4,⟨a,b⟩,e12.trans e4⟩
  · obtain⟨m',a,b⟩:=q4
    exact⟨σ4,M4,m',r4,v4,⟨a,b⟩,e12.trans e4⟩
def qAs(i j:Nat)(ta:RTA):RTS:=fun D σ M=>ta σ M fun rs M1=>match rs with
 | [v,w]=>D.nx ((σ.set i (some v)).set j (some w)) M1
 |_=>False
theorem qCC{i j:Nat}{x y:Str}{a b:Expr}{ta:RTA}{px py pt:Pos}{kt k2:Nat}{pt2 pos:Pos}(hc:X.calm=true)(hN:X.N.Nodup)(hi:X.N[i]? =some x)(hj:X.N[j]? =some y)(hij:i≠j)
 (hx:X.env.scope.names.lookup x=some .local) (hy:X.env.scope.names.lookup y=some .local) (ha:RPA X [a,b] ta)
 (hw:swappedStores [.Tuple [.Name x px,.Name y py] kt pt] (.Tuple [a,b] k2 pt2) X.env=pure (some [x,y])):
 RPS X (.Assign [.Tuple [.Name x px,.Name y py] kt pt] (.Tuple [a,b] k2 pt2) pos) (qAs i j ta):=PS.imp (qtz hc hN hi hj hij hx hy ha hw) fun D0 σ0 H h=>by
 obtain⟨σ,M,D,hs,hv,ht,hd⟩:=h;refine⟨σ,M,_,hs,hv,ht,fun rs M1 vs H1 q e1 v1 r1=>?_⟩
 split at q
 · rename_i v w
   obtain⟨v',w',rfl,a1,a2⟩:=r1.two;exact⟨v',w',rfl,hd.nx _ M1 _ H1 q e1 v1 (((hs.ext e1).set a1 i).set a2 j)⟩
 · exact q.elim
end
def RawD(h:Heap)(d:Addr)(es:Array DictEntry)(ep:Nat):Prop:=∃ o,h.get? d=some o/\o.ExactDict/\o.data= .dict es ep
section
variable {prog:Program}{w:World}{A:Around}{E:Value->Shared->Prop}{s:Shared}{d it:Addr}{es:Array DictEntry}{ep i:Nat}
theorem RawD.ty(x:RawD s.heap d es ep):s.TypeIs (.ref d) "dict":=by
 obtain⟨o,h1,h2,h3⟩:=x;exact⟨o,h1,h2.1⟩
theorem qnM{Q:Value->Shared->Prop}(hd:(d==sysModules)=false)(hm:RawD s.heap d es ep)
 (hQ:Q (.ref s.heap.objs.size) { s with heap:=s.heap.push { cls:=.type "dict_keyiterator",data:=.fields #[.ref d,.int 0 0,.int es.size 0,.int ep 0] } }):wpAny (model prog w) A (pyIter (.ref d)) Q E s:=by
 have hT:=hm.ty;obtain⟨o,ho,hc,hdat⟩:=id hm;refine wpAny_pyIter_slot hT F.slot_dict_iter (wpAny_call_entry F.slot_dict_iter hT F.entry_dict_iter ?_ (F.args_dict_iter_1 _));unfold Builtin.«dict.__iter__» Builtin.Dict.dictSlotNone;refine wpAny_bind (wpAny_bind (wpAny_notOrdered_dict hT ?_));refine(wpAny_pure ?_:wpAny _ _ (pure (Value.ref d)) _ _ s);have e0:Builtin.Dict.showsAll d=pure ():=by unfold Builtin.Dict.showsAll;rw[if_neg (by rw[hd];exact wan)]
 refine(?_:wpAny _ _ (Builtin.Dict.showsAll d >>= _) _ _ s);rw[e0];refine wpAny_bind (wpAny_pure (wpAny_bind (wpAny_dictEntries ho hdat (wpAny_bind (wpAny_dictEpoch ho hdat (wpAny_bind (wpAny_newObj_type (wpAny_pure ⟨_,rfl,"dict_keyiterator",_,⟨_,Heap.get?_push_size _ rfl,rfl⟩,F.slot_dict_keyiterator_next.lookup,?_⟩))))))));simpa[rawInt]using hQ
theorem qdz{Q:Option Value->Shared->Prop}(hit:s.heap.IsKeyIter it d i es.size ep)(hm:RawD s.heap d es ep)(hi:i<es.size)
 (hQ:∀ h',h'.IsKeyIter it d (i+1) es.size ep->Heap.SameBut it s.heap h'->Q (some es[i].key) { s with heap:=h' }):wpAny (model prog w) A (pyNext (.ref it)) Q E s:=by
 obtain⟨o,ho,hc,hd⟩:=id hit;obtain⟨od,hod,hcd,hdd⟩:=id hm;have ow:Builtin.Dict_items.ownsTuple "dict_keyiterator" =false:=by decide
 unfold pyNext;refine wpAny_bind (wpAny_attempt (wpAny_callSpecial?_slot (name:=Str.ofString "__next__") hit.typeIs F.slot_dict_keyiterator_next (wpAny_call_entry F.slot_dict_keyiterator_next hit.typeIs F.entry_dict_keyiterator_next ?_ (F.args_dict_keyiterator_next_1 _))));refine wpAny_bind (wpAny_pure (wpAny_bind (wpAny_bind ?_)))
 first|refine wpAny_bind (wpAny_typeNameOfWhole_keyiter hit.typeIs (wpAny_pure (wpAny_bind (wpAny_fieldsOf ho hd ?_))))|refine wpAny_bind (wpAny_typeNameOf_keyiter hit.typeIs (wpAny_pure (wpAny_bind (wpAny_fieldsOf ho hd ?_))))
 simp only[ow,wav,if_false];refine(?_:wpAny _ _ (if(Value.ref d==Value.none)=true then _ else _) _ _ s)
 rw[if_neg (show ¬(Value.ref d==Value.none)=true from fun z=>wan z)]
 refine wpAny_bind (wpAny_pure (wpAny_bind (wpAny_dictEntries hod hdd ?_)));rw[if_neg (by simp)];refine wpAny_bind (wpAny_pure (wpAny_bind (wpAny_dictEpoch hod hdd ?_)))
 rw[if_neg (by simp)];refine wpAny_pure ?_
 simp only[show ¬((i:Int)<0) by omega,if_false,waQ,Array.getElem?_eq_getElem hi]
 first|refine wpAny_bind (wpAny_bind (wpAny_typeNameOfWhole_keyiter hit.typeIs (wpAny_pure (wpAny_bind (wpAny_isOneOf_keyiter hit.typeIs ?_)))))|refine wpAny_bind (wpAny_bind (wpAny_typeNameOf_keyiter hit.typeIs (wpAny_pure (wpAny_bind (wpAny_isOneOf_keyiter hit.typeIs ?_)))))
 refine(?_:wpAny _ _ (setField (.ref it) 1 (rawInt ((i:Int)+1)) >>= _) _ _ s);refine wpAny_bind (wpAny_setField ho hd (by simp) ?_)
 have hit':(s.heap.update it (Obj.mapFields fun a=>a.setIfInBounds 1 (rawInt ((i:Int)+1)))).IsKeyIter it d (i+1) es.size ep:=⟨_,Heap.get?_update_self _ ho (Obj.isFreed_of_fields (Obj.data_mapFields hd _)),(Obj.cls_mapFields ..).trans hc,by rw[Obj.data_mapFields hd];simp[rawInt]⟩
 refine wpAny_bind (wpAny_holding (wpAny_bind (wpAny_isOneOf_keyiter (s:={ s with heap:=s.heap.update it (Obj.mapFields fun a=>a.setIfInBounds 1 (rawInt ((i:Int)+1))) }) hit'.typeIs ?_)))
 refine(?_:wpAny _ _ (pure es[i].key) _ _ _);exact wpAny_pure (wpAny_pure ⟨_,rfl,wpAny_pure (hQ _ hit' (Heap.SameBut.update ..))⟩)
theorem qd8{Q:Option Value->Shared->Prop}(hh:A.handled=none)(hit:s.heap.IsKeyIter it d i es.size ep)(hm:RawD s.heap d es ep)(hi:es.size<=i)(hQ:∀ h',Heap.ExtBut it s.heap h'->Q none { s with heap:=h' }):
 wpAny (model prog w) A (pyNext (.ref it)) Q E s:=by
 obtain⟨o,ho,hc,hd⟩:=id hit;obtain⟨od,hod,hcd,hdd⟩:=id hm;have ow:Builtin.Dict_items.ownsTuple "dict_keyiterator" =false:=by decide
 unfold pyNext;refine wpAny_bind (wpAny_attempt (wpAny_callSpecial?_slot (name:=Str.ofString "__next__") hit.typeIs F.slot_dict_keyiterator_next (wpAny_call_entry F.slot_dict_keyiterator_next hit.typeIs F.entry_dict_keyiterator_next ?_ (F.args_dict_keyiterator_next_1 _))));refine wpAny_bind (wpAny_pure (wpAny_bind (wpAny_bind ?_)))
 first|refine wpAny_bind (wpAny_typeNameOfWhole_keyiter hit.typeIs (wpAny_pure (wpAny_bind (wpAny_fieldsOf ho hd ?_))))|refine wpAny_bind (wpAny_typeNameOf_keyiter hit.typeIs (wpAny_pure (wpAny_bind (wpAny_fieldsOf ho hd ?_))))
 simp only[ow,wav,if_false];refine(?_:wpAny _ _ (if(Value.ref d==Value.none)=true then _ else _) _ _ s)
 rw[if_neg (show ¬(Value.ref d==Value.none)=true from fun z=>wan z)]
 refine wpAny_bind (wpAny_pure (wpAny_bind (wpAny_dictEntries hod hdd ?_)));rw[if_neg (by simp)];refine wpAny_bind (wpAny_pure (wpAny_bind (wpAny_dictEpoch hod hdd ?_)))
 rw[if_neg (by simp)];refine wpAny_pure ?_
 simp only[show ¬((i:Int)<0) by omega,if_false,waQ,Array.getElem?_eq_none hi]
 first|refine wpAny_bind (wpAny_bind (wpAny_typeNameOfWhole_keyiter hit.typeIs (wpAny_pure ?_)))|refine wpAny_bind (wpAny_bind (wpAny_typeNameOf_keyiter hit.typeIs (wpAny_pure ?_)))
 refine(?_:wpAny _ _ (setField (.ref it) 0 .none >>= _) _ _ s);refine wpAny_bind (wpAny_setField ho hd (by simp) ?_)
 refine(?_:wpAny _ _ (newExc (.type "StopIteration") [] >>= _) _ _ _);simp only[newExc,newTuple];refine wpAny_bind (wpAny_bind (wpAny_newObj_type ?_ (by size_fits)))
 refine wpAny_bind (m:=firstArgMember _ _) (wpAny_of_eq (a:=Value.none) (by first|rfl|(simp only[firstArgMember];rfl)) (wpAny_newObj_type ?_ (by size_fits)))
 simp only[raiseNew];refine wpAny_bind (wpAny_handled ?_);rw[show A.in1.handled=none from hh];refine wpAny_bind (wpAny_pure (wpAny_throw ?_));refine wpAny_bind (wpAny_isInstance (T:="StopIteration") (b:=true) ⟨_,Heap.get?_push_size _ rfl,rfl⟩ isSubtype_stop ?_)
 exact wpAny_pure (hQ _ (((Heap.SameBut.update ..).extBut.push _).push _))
theorem qdy{Q:Option Value->Shared->Prop}(hit:s.heap.IsValIter it d i es.size ep)(hm:RawD s.heap d es ep)(hi:i<es.size)
 (hQ:∀ h',h'.IsValIter it d (i+1) es.size ep->Heap.SameBut it s.heap h'->Q (some es[i].val) { s with heap:=h' }):wpAny (model prog w) A (pyNext (.ref it)) Q E s:=by
 obtain⟨o,ho,hc,hd⟩:=id hit;obtain⟨od,hod,hcd,hdd⟩:=id hm;have ow:Builtin.Dict_items.ownsTuple "dict_valueiterator" =false:=by decide
 unfold pyNext;refine wpAny_bind (wpAny_attempt (wpAny_callSpecial?_slot (name:=Str.ofString "__next__") hit.typeIs F.slot_dict_valueiterator_next (wpAny_call_entry F.slot_dict_valueiterator_next hit.typeIs F.entry_dict_valueiterator_next ?_ (F.args_dict_valueiterator_next_1 _))));refine wpAny_bind (wpAny_pure (wpAny_bind (wpAny_bind ?_)))
 first|refine wpAny_bind (wpAny_typeNameOfWhole_valiter hit.typeIs (wpAny_pure (wpAny_bind (wpAny_fieldsOf ho hd ?_))))|refine wpAny_bind (wpAny_typeNameOf_valiter hit.typeIs (wpAny_pure (wpAny_bind (wpAny_fieldsOf ho hd ?_))))
 simp only[ow,wav,if_false];refine(?_:wpAny _ _ (if(Value.ref d==Value.none)=true then _ else _) _ _ s)
 rw[if_neg (show ¬(Value.ref d==Value.none)=true from fun z=>wan z)]
 refine wpAny_bind (wpAny_pure (wpAny_bind (wpAny_dictEntries hod hdd ?_)));rw[if_neg (by simp)];refine wpAny_bind (wpAny_pure (wpAny_bind (wpAny_dictEpoch hod hdd ?_)))
 rw[if_neg (by simp)];refine wpAny_pure ?_
 simp only[show ¬((i:Int)<0) by omega,if_false,waQ,Array.getElem?_eq_getElem hi]
 first|refine wpAny_bind (wpAny_bind (wpAny_typeNameOfWhole_valiter hit.typeIs (wpAny_pure (wpAny_bind (wpAny_isOneOf_valiter hit.typeIs ?_)))))|refine wpAny_bind (wpAny_bind (wpAny_typeNameOf_valiter hit.typeIs (wpAny_pure (wpAny_bind (wpAny_isOneOf_valiter hit.typeIs ?_)))))
 refine(?_:wpAny _ _ (setField (.ref it) 1 (rawInt ((i:Int)+1)) >>= _) _ _ s);refine wpAny_bind (wpAny_setField ho hd (by simp) ?_)
 have hit':(s.heap.update it (Obj.mapFields fun a=>a.setIfInBounds 1 (rawInt ((i:Int)+1)))).IsValIter it d (i+1) es.size ep:=⟨_,Heap.get?_update_self _ ho (Obj.isFreed_of_fields (Obj.data_mapFields hd _)),(Obj.cls_mapFields ..).trans hc,by rw[Obj.data_mapFields hd];simp[rawInt]⟩
 refine wpAny_bind (wpAny_holding (wpAny_bind (wpAny_isOneOf_valiter (s:={ s with heap:=s.heap.update it (Obj.mapFields fun a=>a.setIfInBounds 1 (rawInt ((i:Int)+1))) }) hit'.typeIs ?_)))
 refine wpAny_bind (wpAny_isOneOf_valiter (s:={ s with heap:=s.heap.update it (Obj.mapFields (·.setIfInBounds 1 (rawInt ((i:Int)+1)))) }) hit'.typeIs (?_:_))
 refine(?_:wpAny _ _ (pure es[i].val) _ _ _);exact wpAny_pure (wpAny_pure ⟨_,rfl,wpAny_pure (hQ _ hit' (Heap.SameBut.update ..))⟩)
theorem qd7{Q:Option Value->Shared->Prop}(hh:A.handled=none)(hit:s.heap.IsValIter it d i es.size ep)(hm:RawD s.heap d es ep)(hi:es.size<=i)(hQ:∀ h',Heap.ExtBut it s.heap h'->Q none { s with heap:=h' }):
 wpAny (model prog w) A (pyNext (.ref it)) Q E s:=by
 obtain⟨o,ho,hc,hd⟩:=id hit;obtain⟨od,hod,hcd,hdd⟩:=id hm;have ow:Builtin.Dict_items.ownsTuple "dict_valueiterator" =false:=by decide
 unfold pyNext;refine wpAny_bind (wpAny_attempt (wpAny_callSpecial?_slot (name:=Str.ofString "__next__") hit.typeIs F.slot_dict_valueiterator_next (wpAny_call_entry F.slot_dict_valueiterator_next hit.typeIs F.entry_dict_valueiterator_next ?_ (F.args_dict_valueiterator_next_1 _))));refine wpAny_bind (wpAny_pure (wpAny_bind (wpAny_bind ?_)))
 first|refine wpAny_bind (wpAny_typeNameOfWhole_valiter hit.typeIs (wpAny_pure (wpAny_bind (wpAny_fieldsOf ho hd ?_))))|refine wpAny_bind (wpAny_typeNameOf_valiter hit.typeIs (wpAny_pure (wpAny_bind (wpAny_fieldsOf ho hd ?_))))
 simp only[ow,wav,if_false];refine(?_:wpAny _ _ (if(Value.ref d==Value.none)=true then _ else _) _ _ s)
 rw[if_neg (show ¬(Value.ref d==Value.none)=true from fun z=>wan z)]
 refine wpAny_bind (wpAny_pure (wpAny_bind (wpAny_dictEntries hod hdd ?_)));rw[if_neg (by simp)];refine wpAny_bind (wpAny_pure (wpAny_bind (wpAny_dictEpoch hod hdd ?_)))
 rw[if_neg (by simp)];refine wpAny_pure ?_
 simp only[show ¬((i:Int)<0) by omega,if_false,waQ,Array.getElem?_eq_none hi]
 first|refine wpAny_bind (wpAny_bind (wpAny_typeNameOfWhole_valiter hit.typeIs (wpAny_pure ?_)))|refine wpAny_bind (wpAny_bind (wpAny_typeNameOf_valiter hit.typeIs (wpAny_pure ?_)))
 refine(?_:wpAny _ _ (setField (.ref it) 0 .none >>= _) _ _ s);refine wpAny_bind (wpAny_setField ho hd (by simp) ?_)
 refine(?_:wpAny _ _ (newExc (.type "StopIteration") [] >>= _) _ _ _);simp only[newExc,newTuple];refine wpAny_bind (wpAny_bind (wpAny_newObj_type ?_ (by size_fits)))
 refine wpAny_bind (m:=firstArgMember _ _) (wpAny_of_eq (a:=Value.none) (by first|rfl|(simp only[firstArgMember];rfl)) (wpAny_newObj_type ?_ (by size_fits)))
 simp only[raiseNew];refine wpAny_bind (wpAny_handled ?_);rw[show A.in1.handled=none from hh];refine wpAny_bind (wpAny_pure (wpAny_throw ?_));refine wpAny_bind (wpAny_isInstance (T:="StopIteration") (b:=true) ⟨_,Heap.get?_push_size _ rfl,rfl⟩ isSubtype_stop ?_)
 exact wpAny_pure (hQ _ (((Heap.SameBut.update ..).extBut.push _).push _))
theorem qjW{Q:Value->Shared->Prop}{v:Addr}(hv:s.heap.IsValuesView v d)(hm:RawD s.heap d es ep)
 (hQ:Q (.ref s.heap.objs.size) { s with heap:=s.heap.push { cls:=.type "dict_valueiterator",data:=.fields #[.ref d,.int 0 0,.int es.size 0,.int ep 0] } }):wpAny (model prog w) A (pyIter (.ref v)) Q E s:=by
 obtain⟨ov,hov,hcv,hdv⟩:=id hv;obtain⟨o,ho,hc,hdat⟩:=id hm;have ow:Builtin.Dict_items.ownsTuple "dict_valueiterator" =false:=by decide
 refine wpAny_pyIter_slot hv.typeIs F.slot_dict_values_iter (wpAny_call_entry F.slot_dict_values_iter hv.typeIs F.entry_dict_values_iter ?_ (F.args_dict_values_iter_1 _));unfold Builtin.«dict_values.__iter__» Builtin.Dict_items.dictOf Builtin.Dict_items.newIterator;refine wpAny_bind (wpAny_pure (wpAny_bind (wpAny_bind (wpAny_field hov hdv (x:=.ref d) rfl (wpAny_pure (wpAny_bind (wpAny_bind (wpAny_dictEntries ho hdat (wpAny_bind (wpAny_dictEpoch ho hdat ?_))))))))));simp only[ow,wav,if_false];refine wpAny_newObj_type (wpAny_pure ⟨_,rfl,"dict_valueiterator",_,⟨_,Heap.get?_push_size _ rfl,rfl⟩,F.slot_dict_valueiterator_next.lookup,?_⟩);simpa[rawInt]using hQ
theorem qh7(hd:(d==sysModules)=false):MeetsIn prog w (Builtin.«dict.values» ⟨[.ref d],[]⟩) (fun _ R s=>(∃ es ep,RawD s.heap d es ep)/\R (.ok (.ret (.ref s.heap.objs.size))) { s with heap:=s.heap.push { cls:=.type "dict_values",data:=.fields #[.ref d] } }):=
 .of_wp fun A R s ⟨⟨es,ep,hm⟩,h⟩=>by
  have e0:Builtin.Dict.showsAll d=pure ():=by unfold Builtin.Dict.showsAll;rw[if_neg (by rw[hd];exact wan)]
  refine wpAny_bind ?_;unfold Builtin.Dict.noArgs;refine wpAny_bind (wpAny_notOrdered_dict hm.ty ?_);refine(wpAny_pure ?_:wpAny _ _ (pure d) _ _ s);refine(?_:wpAny _ _ (Builtin.Dict.showsAll d >>= _) _ _ s);rw[e0];exact wpAny_bind (wpAny_pure (wpAny_bind (wpAny_newObj_type (wpAny_pure ⟨_,rfl,h⟩))))
end
def qoj:HO->Nat
 | .dK kvs=>kvs.length
 | .dT kvs=>kvs.length
 |_=>0
def qum(u:HO)(i:Nat)(H:Hp)(x:V):Prop:=match u with
 | .dK kvs=>∃ kv,kvs[i]? =some kv/\x=kV kv.1
 | .dT kvs=>∃ kv b,kvs[i]? =some kv/\x= .ref b/\H b=some (.tup (kv.1.map oV))
 |_=>False
def valAt(u:HO)(i:Nat)(x:V):Prop:=match u with
 | .dK kvs=>∃ kv,kvs[i]? =some kv/\x=kv.2
 | .dT kvs=>∃ kv,kvs[i]? =some kv/\x=kv.2
 |_=>False
theorem qcv{α β:Type}{F:α->β->Prop}:∀ {l:List α} {m:List β} {i:Nat} {b:β},Paired F l m->m[i]? =some b->∃ a,l[i]? =some a/\F a b
 |_,_,_,_,.nil,e=>by simp at e
 |_,_,0,_,.cons r _,e=>by simp at e;subst e;exact⟨_,rfl,r⟩
 |_,_,i+1,b,.cons _ t,e=>by
  obtain⟨a,h1,h2⟩:=qcv (i:=i) t (by simpa using e)
  exact⟨a,by simpa using h1,h2⟩
theorem qhd{k:Key}{u:Value}(h:qeY k u=true):RelV (kV k) u:=by
 rcases qap h with⟨i,t,rfl,rfl⟩|⟨x,t,rfl,rfl⟩
 · exact⟨t,rfl⟩
 · exact⟨t,rfl⟩
section
variable {X:Cx}{pins:List (Addr×Obj)}{σ:L2.St}{H:Hp}{s:Shared}{a:Addr}{o:Obj}{u:HO}
theorem qbA(I:Inv X pins σ H s)(h:H a=some (.frz o u))(du:qmi u=true):∃ es ep,o.data= .dict es ep/\RawD s.heap a es ep/\(a==sysModules)=false/\es.size=qoj u/\qoj u<=sizeLine/\
 ∀ i (hi:i<es.size),(∃ x,qum u i H x/\RelV x es[i].key)/\∃ x,valAt u i x/\RelV x es[i].val:=by
 obtain⟨g,hz⟩:=I.hok a _ h;cases u<;>first|(cases du;done)|skip
 · rename_i kvs
   obtain⟨z,y,vs,r,o',es,ep,e,c,dd,ks,ps,nd⟩:=hz;rw[g]at e;cases e;have hl:es.size=kvs.length:=by have:=ps.length;have h2:=Paired.length r;simp at this;omega
   refine⟨es,ep,dd,⟨o,g,c,dd⟩,y,hl,z,fun i hi=>?_⟩
   have hv:i<vs.length:=by have:=ps.length;simp at this;omega
   obtain⟨p1,p2⟩:=ps.get? (e:=es[i]) (i:=i) (k:=vs[i].1) (v:=vs[i].2) (by simp[hi]) (by simp[hv])
   obtain⟨kv,k1,k2,k3⟩:=qcv (i:=i) r (by simp[hv]:vs[i]? =some vs[i])
   refine⟨⟨kV kv.1,⟨kv,k1,rfl⟩,?_⟩,kv.2,⟨kv,k1,rfl⟩,by rw[p2];exact k3⟩
   rw[k2];exact qhd p1
 · rename_i kvs
   obtain⟨z,y,xs,r,o',es,ep,e,c,dd,he,nd⟩:=hz;rw[g]at e;cases e;have hl:es.size=kvs.length:=by have h2:=Paired.length r;have:=congrArg List.length he;simp at this;omega
   refine⟨es,ep,dd,⟨o,g,c,dd⟩,y,hl,z,fun i hi=>?_⟩
   have hx:i<xs.length:=by have:=congrArg List.length he;simp at this;omega
   have he':es[i]=entryOfKey (tupleKind (optKind X.prog X.w)) xs[i]:=by
    have:=entry_at (knd:=tupleKind (optKind X.prog X.w)) he i;simpa[hi,hx]using this
   obtain⟨kv,k1,k2,k3,k4⟩:=qcv (i:=i) r (by simp[hx]:xs[i]? =some xs[i])
   rw[he'];exact⟨⟨.ref xs[i].2.1,⟨kv,xs[i].2.1,k1,rfl,k3⟩,rfl⟩,kv.2,⟨kv,k1,rfl⟩,k4⟩
end
noncomputable def Itq (o:Obj)(a:Addr)(k:Bool):It:=
 ⟨fun i H=>∃ u,H a=some (.frz o u)/\qmi u=true/\i<qoj u,fun i H x H'=>H'=H/\∃ u,H a=some (.frz o u)/\(if k=true then qum u i H x else valAt u i x),fun i H=>∃ u,H a=some (.frz o u)/\qmi u=true/\qoj u<=i⟩
section
variable {P:Program}{w:World}{K:Frg}{tg:Expr}{o:Obj}{a it:Addr}{es:Array DictEntry}{ep:Nat}
theorem qkL(hd:o.data= .dict es ep):Turn P w K tg (Itq o a true) [it] it (fun i h=>h.IsKeyIter it a i es.size ep) where
 mem:=by simp
 obj:=fun i h st b hb=>by
  have e:b=it:=by simpa using hb
  subst e;obtain⟨o,e,c,d⟩:=st;exact⟨o,e,fun v z=>by rw[d]at z;cases z⟩
 keep:=fun i h h' st k=>by obtain⟨o,e,c,d⟩:=st;exact⟨o,k it (by simp) o e,c,d⟩
 item:=by
  intro X hP hw hK hc i pins s σ H E I hf st ⟨u,hg,du,hi⟩;subst hP hw hK;obtain⟨es',ep',d',rd,hS,hl,_,hall⟩:=qbA I hg du;rw[hd]at d';cases d';have hi':i<es.size:=by rw[hl];exact hi
  obtain⟨f0,f1,f2,f3,f4,f5⟩:=hf it (by simp)
  refine qdz st rd hi' fun h' st' sb=>?_
  have I1:Inv X pins σ H { s with heap:=h' }:=I.turned (t':=s.toks) (fun b o hb e=>(sb.2 b hb).trans e) f0 f1 f3 f4 f5
  obtain⟨⟨x,k1,k2⟩,_⟩:=hall i hi';obtain⟨oi,e,c,d⟩:=id st';exact⟨_,rfl,qmE (s:={ s with heap:=h' }) e c d (by decide) ⟨x,H,I1,k2,⟨rfl,u,hg,by rw[if_pos rfl];exact k1⟩,st',fun b hb=>(hf b hb).1⟩⟩
 done:=by
  intro X hP hw hK hc i pins s σ H E I hf st ⟨u,hg,du,hi⟩;subst hP hw hK;obtain⟨es',ep',d',rd,hS,hl,_,hall⟩:=qbA I hg du;rw[hd]at d';cases d';obtain⟨f0,f1,f2,f3,f4,f5⟩:=hf it (by simp)
  exact qd8 (I.ok.hd hc) st rd (by rw[hl];exact hi) fun h' eb=>⟨rfl,I.turned (t':=s.toks) (fun b o hb e=>eb b o hb e) f0 f1 f3 f4 f5⟩
 self:=fun _ _ _ _ _ st h=>wpAny_pyIter_keyiter st h
end
def kR:Key->RV
 | .inl i=>.int i
 | .inr x=>.str x
def oR:qbv->RV
 |none=>.non
 |some k=>kR k
def qnD(k:Bool)(kvs:List (Key×RV)):List RV:=if k=true then kvs.map (fun kv=>kR kv.1)else kvs.map (·.2)
def qjO(k:Bool)(kvs:List (TK×RV)):List RV:=if k=true then kvs.map (fun kv=>.tup (kv.1.map oR))else kvs.map (·.2)
theorem qlg{K:Frg}{H:Hp}(k:Key):Rep K H (kR k) (kV k):=by cases k<;>simp only[kR,kV,Rep]
theorem qsW{K:Frg}{H:Hp}(k:qbv):Rep K H (oR k) (oV k):=by
 cases k with
 |none=>simp only[oR,oV,Rep]
 |some k=>exact qlg k
theorem qle{K:Frg}{H:Hp}:∀ ks:TK,Reps K H (ks.map oR) (ks.map oV)
 | []=>Reps.nil
 |k::ks=>Reps.cons (qsW k) (qle ks)
theorem qcZ{κ:Type}{K:Frg}{H:Hp}:∀ {xs:List (κ×RV)} {ws:List (κ×V)} {i:Nat} {w:κ×V},RepP K H xs ws->ws[i]? =some w->∃ r,xs[i]? =some (w.1,r)/\Rep K H r w.2
 | [],ws,i,w,h,e=>by have h:ws= []:=h;subst h;simp at e
 |(k,x)::r,ws,i,w,h,e=>by
  obtain⟨v,t,rfl,h1,h2⟩:=h;cases i with
  |zero=>simp at e;subst e;exact⟨x,by simp,h1⟩
  |succ i=>
   obtain⟨q,a,b⟩:=qcZ (i:=i) h2 (by simpa using e)
   exact⟨q,by simpa using a,b⟩
section
variable {H0 Hs:Hp}{K:Frg}{H1:Hp}{a:Addr}{o:Obj}{k:Bool}
theorem qpz{kvs:List (Key×RV)}{ws:List (Key×V)}{un:RM->RM}(h:H1 a=some (.frz o (.dK ws)))(r:RepP K H1 kvs ws)
 (th:∀ H M,Ext H1 H->View K H M->M a=some (.fk kvs)->∃ H',Thaw H0 H H'/\ExtW H H'/\Ext Hs H'/\View K H' (un M)):qjD H0 Hs K (Itq o a k) (qnD k kvs) (fun M=>M a=some (.fk kvs)) un H1 where
 turn:=fun i H M e hv hm x hx=>by
  have hH:=e.frzs _ _ _ h;have hl:(qnD k kvs).length=ws.length:=by rw[<-qaU r];unfold qnD;split<;>simp
  have hi:i<ws.length:=by rw[<-hl];exact(List.getElem?_eq_some_iff.mp hx).1
  refine⟨⟨_,hH,rfl,hi⟩,fun v H' y=>?_⟩
  obtain⟨rfl,u,hu,y⟩:=y;rw[hH]at hu;cases hu;refine⟨.refl _,fun _ w=>w,?_⟩
  cases k with
  |true=>
   rw[if_pos rfl]at y;obtain⟨kv,e1,rfl⟩:=y;obtain⟨q,e2,_⟩:=qcZ r e1;have:x=kR kv.1:=by simpa[qnD,e2]using hx.symm
   rw[this];exact qlg _
  |false=>
   rw[if_neg (by decide)]at y
   obtain⟨kv,e1,rfl⟩:=y;obtain⟨q,e2,rq⟩:=qcZ r e1;have:x=q:=by simpa[qnD,e2]using hx.symm
   rw[this];exact Rep.ext e _ _ rq
 stop:=fun i H M e hv hm hi=>by
  have hl:(qnD k kvs).length=ws.length:=by rw[<-qaU r];unfold qnD;split<;>simp
  exact⟨_,e.frzs _ _ _ h,rfl,by rw[hl]at hi;exact hi⟩
 thaw:=th
theorem qpy{kvs:List (TK×RV)}{ws:List (TK×V)}{un:RM->RM}(h:H1 a=some (.frz o (.dT ws)))(r:RepP K H1 kvs ws)
 (th:∀ H M,Ext H1 H->View K H M->M a=some (.ft kvs)->∃ H',Thaw H0 H H'/\ExtW H H'/\Ext Hs H'/\View K H' (un M)):qjD H0 Hs K (Itq o a k) (qjO k kvs) (fun M=>M a=some (.ft kvs)) un H1 where
 turn:=fun i H M e hv hm x hx=>by
  have hH:=e.frzs _ _ _ h;have hl:(qjO k kvs).length=ws.length:=by rw[<-qaU r];unfold qjO;split<;>simp
  have hi:i<ws.length:=by rw[<-hl];exact(List.getElem?_eq_some_iff.mp hx).1
  refine⟨⟨_,hH,rfl,hi⟩,fun v H' y=>?_⟩
  obtain⟨rfl,u,hu,y⟩:=y;rw[hH]at hu;cases hu;refine⟨.refl _,fun _ w=>w,?_⟩
  cases k with
  |true=>
   rw[if_pos rfl]at y;obtain⟨kv,b,e1,rfl,hb⟩:=y;obtain⟨q,e2,_⟩:=qcZ r e1;have:x= .tup (kv.1.map oR):=by simpa[qjO,e2]using hx.symm
   rw[this];simp only[Rep];exact⟨b,_,rfl,hb,qle _⟩
  |false=>
   rw[if_neg (by decide)]at y
   obtain⟨kv,e1,rfl⟩:=y;obtain⟨q,e2,rq⟩:=qcZ r e1;have:x=q:=by simpa[qjO,e2]using hx.symm
   rw[this];exact Rep.ext e _ _ rq
 stop:=fun i H M e hv hm hi=>by
  have hl:(qjO k kvs).length=ws.length:=by rw[<-qaU r];unfold qjO;split<;>simp
  exact⟨_,e.frzs _ _ _ h,rfl,by rw[hl]at hi;exact hi⟩
 thaw:=th
end
noncomputable def qpv (k:Bool)(Q:List RV->(RM->Prop)->(RM->RM)->RM->Prop):RVK:=fun v M1=>match v with
 | .ref a=>match M1 a with
  |some (.dk kvs)=>Q (qnD k kvs) (fun M=>M a=some (.fk kvs)) (fun M=>put M a (.dk kvs)) (put M1 a (.fk kvs))
  |some (.dt kvs)=>Q (qjO k kvs) (fun M=>M a=some (.ft kvs)) (fun M=>put M a (.dt kvs)) (put M1 a (.ft kvs))
  |some (.fk kvs)=>Q (qnD k kvs) (fun M=>M a=some (.fk kvs)) id M1
  |some (.ft kvs)=>Q (qjO k kvs) (fun M=>M a=some (.ft kvs)) id M1
  |_=>False
 |_=>False
def qAF(k:Bool)(te:RTE):RTI:=fun σ M Q=>te σ M (qpv k Q)
section
variable {X:Cx}{tg:Expr}
theorem hold{pins:List (Addr×Obj)}{σ0:L2.St}{H H1:Hp}{s:Shared}{k:Bool}{Q:List RV->(RM->Prop)->(RM->RM)->RM->Prop}{rv:RV}{v:V}{M1:RM}(I:Inv X pins σ0 H1 s)(e1:Ext H H1)(v1:View X.K H1 M1)(r1:Rep X.K H1 rv v)(q:qpv k Q rv M1):
 ∃ a o u H2 xs ok un M2,v= .ref a/\Inv X pins σ0 H2 s/\H2 a=some (.frz o u)/\qmi u=true/\qjD X.H₀ H X.K (Itq o a k) xs ok un H2/\Q xs ok un M2/\Ext H H2/\View X.K H2 M2:=by
 cases rv<;>first|(exact(show False from q).elim)|skip
 rename_i a;simp only[Rep]at r1;unfold qpv at q;simp only at q;split at q
 · rename_i kvs em
   obtain⟨ho,eh,ws,rfl,r⟩:=v1 a _ em;obtain⟨ob,g,I2,n0⟩:=qeu I eh rfl;have ex:Ext H1 (upd H1 a (.frz ob (.dK ws))):=Ext.write eh rfl;refine⟨a,ob,.dK ws,_,_,_,_,_,r1,I2,qaj,rfl,qpz qaj (r.ext ex) fun H2 M e hv hm=>?_,q,e1.trans ex,v1.write em ⟨ob,ws,rfl,r.ext ex⟩⟩
   have hH:=e.frzs _ _ _ (qaj (H:=H1) (a:=a) (o:=.frz ob (.dK ws)));have xw:ExtW H2 (upd H2 a (.dK ws)):=ExtW.thaw hH rfl;refine⟨upd H2 a (.dK ws),.inr ⟨a,ob,_,hH,rfl,n0,rfl⟩,xw,⟨fun b xs z=>?_,fun b o' u' z=>?_⟩,hv.write hm ⟨ws,rfl,RepP.extw xw (r.ext (ex.trans e))⟩⟩
   · have z1:=e.tups _ _ (ex.tups _ _ (e1.tups _ _ z))
     rw[qae (by rintro rfl;rw[hH]at z1;cases z1)];exact z1
   · have z0:=e1.frzs _ _ _ z
     rw[qae (by rintro rfl;rw[eh]at z0;cases z0)];exact e.frzs _ _ _ (ex.frzs _ _ _ z0)
 · rename_i kvs em
   obtain⟨ho,eh,ws,rfl,r⟩:=v1 a _ em;obtain⟨ob,g,I2,n0⟩:=qeu I eh rfl;have ex:Ext H1 (upd H1 a (.frz ob (.dT ws))):=Ext.write eh rfl;refine⟨a,ob,.dT ws,_,_,_,_,_,r1,I2,qaj,rfl,qpy qaj (r.ext ex) fun H2 M e hv hm=>?_,q,e1.trans ex,v1.write em ⟨ob,ws,rfl,r.ext ex⟩⟩
   have hH:=e.frzs _ _ _ (qaj (H:=H1) (a:=a) (o:=.frz ob (.dT ws)));have xw:ExtW H2 (upd H2 a (.dT ws)):=ExtW.thaw hH rfl;refine⟨upd H2 a (.dT ws),.inr ⟨a,ob,_,hH,rfl,n0,rfl⟩,xw,⟨fun b xs z=>?_,fun b o' u' z=>?_⟩,hv.write hm ⟨ws,rfl,RepP.extw xw (r.ext (ex.trans e))⟩⟩
   · have z1:=e.tups _ _ (ex.tups _ _ (e1.tups _ _ z))
     rw[qae (by rintro rfl;rw[hH]at z1;cases z1)];exact z1
   · have z0:=e1.frzs _ _ _ z
     rw[qae (by rintro rfl;rw[eh]at z0;cases z0)];exact e.frzs _ _ _ (ex.frzs _ _ _ z0)
 · rename_i kvs em
   obtain⟨ho,eh,ob,ws,rfl,r⟩:=v1 a _ em;exact⟨a,ob,.dK ws,H1,_,_,_,_,r1,I,eh,rfl,qpz eh r (qbG e1),q,e1,v1⟩
 · rename_i kvs em
   obtain⟨ho,eh,ob,ws,rfl,r⟩:=v1 a _ em;exact⟨a,ob,.dT ws,H1,_,_,_,_,r1,I,eh,rfl,qpy eh r (qbG e1),q,e1,v1⟩
 · exact q.elim
theorem qxC{l:Expr}{te:RTE}(hl:RPE X l te):RPI X tg l (qAF true te):=by
 intro pins s σ0 H R I h;obtain⟨σ,M,Q,hs,hv,ht,hk⟩:=h;refine thn (hl pins s σ0 H (fun x H1=>∃ rv M1,Rep X.K H1 rv x/\qpv true Q rv M1/\Ext H H1/\View X.K H1 M1) I ⟨σ,M,_,hs,hv,ht,fun rv M1 v H1 q e1 v1 r1=>⟨rv,M1,r1,q,e1,v1⟩⟩) fun uv s1 ⟨v,H1,I1,rl,rv,M1,r1,q,e1,v1⟩=>?_
 obtain⟨a,o,u,H2,xs,ok,un,M2,rfl,I2,hH,du,it,q,e2,v2⟩:=hold I1 e1 v1 r1 q;cases(show uv=Value.ref a from rl)
 obtain⟨es,ep,hd,rd,hS,_⟩:=qbA I2 hH du;refine qnM hS rd ?_;refine⟨s1.heap.objs.size,[s1.heap.objs.size],_,_,H2,rfl,I2.kept (t':=s1.toks) fun b o e=>Heap.get?_push_of_some _ e,qkL hd,⟨_,Heap.get?_push_size _ rfl,rfl,rfl⟩,fun b hb=>?_,hk xs ok un M2 _ H2 q e2 v2 it⟩
 have e:b=s1.heap.objs.size:=by simpa using hb
 subst e;exact I2.fpOk (wac _) (I2.hok.fresh (wac _))
theorem qrH{pins:List (Addr×Obj)}{σ0:L2.St}{H:Hp}{s:Shared}{a:Addr}{o:Obj}{u:HO}(I:Inv X pins σ0 H s)(h:H a=some (.frz o u))(du:qmi u=true):s.TypeIs (.ref a) "dict"/\∀ b,Value.ref a= .ref b->∃ ob,s.heap.get? b=some ob/\ob.dict=none:=by
 obtain⟨es,ep,hd,rd,_⟩:=qbA I h du;refine⟨rd.ty,fun b e=>?_⟩
 cases e;obtain⟨o1,h1,h2,h3⟩:=rd;exact⟨o1,h1,h2.2.1⟩
end
noncomputable def Itm (o:Obj)(a:Addr):It:=
 ⟨fun i H=>∃ ws:List (Key×V),H a=some (.frz o (.dK ws))/\i<ws.length,fun i H x H'=>∃ (ws:List (Key×V)) (kv:Key×V) (p:Addr),H a=some (.frz o (.dK ws))/\ws[i]? =some kv/\x= .ref p/\H p=none/\H'=upd H p (.tup [kV kv.1,kv.2]),fun i H=>∃ ws:List (Key×V),H a=some (.frz o (.dK ws))/\ws.length<=i⟩
section
variable {X:Cx}
theorem qfU{pins:List (Addr×Obj)}{σ:L2.St}{H:Hp}{s:Shared}{a:Addr}{o:Obj}{ws:List (Key×V)}(I:Inv X pins σ H s)(h:H a=some (.frz o (.dK ws))):∃ vs es ep,o.data= .dict es ep/\KV ws vs/\s.heap.DictAt (qak X.prog X.w) a vs ep/\(a==sysModules)=false/\vs.length=es.size:=by
 obtain⟨g,z,y,vs,r,o',es,ep,e,c,dd,ks,ps,nd⟩:=I.hok a _ h;rw[g]at e;cases e;exact⟨vs,es,ep,dd,r,⟨o,es,g,c,dd,ks,ps,nd⟩,y,by have:=ps.length;simp at this;omega⟩
theorem qdK:entryFor table "dict_itemiterator.__iter__" =some Builtin.«dict_keyiterator.__iter__»:=entryFor_alias (id':="dict_keyiterator.__iter__") (by kernel_rfl) rfl (by decide+kernel) (by kernel_rfl)
theorem qjH{P:Program}{w:World}{K:Frg}{o:Obj}{a it:Addr}{es:Array DictEntry}{ep:Nat}{ts:List Expr}{tk:Nat}{tp:Pos}(hd:o.data= .dict es ep):Turn P w K (.Tuple ts tk tp) (Itm o a) [it] it (fun i h=>∃ ok ov,IsItemIter h it a i es.size ep ok ov) where
 mem:=by simp
 obj:=fun i h st b hb=>by
  have e:b=it:=by simpa using hb
  subst e;obtain⟨_,_,st⟩:=st;exact⟨_,st,fun v z=>by cases z⟩
 keep:=fun i h h' st k=>by obtain⟨x,y,st⟩:=st;exact⟨x,y,k it (by simp) _ st⟩
 item:=by
  intro X hP hw hK hc i pins s σ H E I hf ⟨x0,y0,st⟩ ⟨ws,hg,hi⟩;subst hP hw hK;obtain⟨vs,es',ep',d',r,da,hS,hl⟩:=qfU I hg;rw[hd]at d';cases d';have hv:i<vs.length:=by have:=Paired.length r;omega
  obtain⟨kv,k1,k2,k3⟩:=qcv (i:=i) r (by simp[hv]:vs[i]? =some vs[i])
  obtain⟨f0,f1,f2,f3,f4,f5⟩:=hf it (by simp)
  refine wpAny_pyNext_items_item (knd:=qak X.prog X.w) (k:=vs[i].1) (v:=vs[i].2) (by rw[hl];exact st) da (by simp[hv]) fun key h' hk st' tp' sz kp=>⟨_,rfl,?_⟩
  refine wpAny_letOwnedTupleGo_items (s:={ s with heap:=h' }) st' fun h2 st2 sb=>?_
  have hfr:=I.hok.fresh (wac s.heap.objs.size);have hpi:s.heap.objs.size≠it:=Nat.ne_of_gt (wae st);have t2:h2.get? s.heap.objs.size=some { cls:=.type "tuple",data:=.seq #[key,vs[i].2] }:=sb.extBut _ _ hpi tp';have rk:Vals [kV kv.1,kv.2] [key,vs[i].2]:=.cons (by rw[k2];exact qhd hk) (.cons k3 .nil)
  have I1:Inv X pins σ (upd H s.heap.objs.size (.tup [kV kv.1,kv.2])) { s with heap:=s.heap.push { cls:=.type "tuple",data:=.seq #[key,vs[i].2] },toks:=s.toks }:=
   I.laid (fun b o e=>Heap.get?_push_of_some _ e) (wac _) ⟨by show 2<=sizeLine;decide,[key,vs[i].2],rk,IsTup.new s.heap _⟩
  have I2:Inv X pins σ (upd H s.heap.objs.size (.tup [kV kv.1,kv.2])) { s with heap:=h2 }:=Inv.turned (s:={ s with heap:=s.heap.push { cls:=.type "tuple",data:=.seq #[key,vs[i].2] },toks:=s.toks }) (h':=h2) (t':=s.toks) (it:=it) I1 (fun b o hb e=>?_) (by rw[qae hpi.symm];exact f0) f1 f3 f4 f5
  · exact⟨.ref s.heap.objs.size,_,I2,rfl,⟨ws,kv,_,hg,k1,rfl,hfr,rfl⟩,⟨_,_,by rw[<-hl];exact st2⟩,fun b hb=>by
     have e:b=it:=by simpa using hb
     subst e;rw[qae hpi.symm];exact f0⟩
  · rcases Heap.get?_push_cases e with⟨rfl,rfl⟩|e'
    · exact t2
    · exact sb.extBut b o hb (kp b o hb e')
 done:=by
  intro X hP hw hK hc i pins s σ H E I hf ⟨x0,y0,st⟩ ⟨ws,hg,hi⟩;subst hP hw hK;obtain⟨vs,es',ep',d',r,da,hS,hl⟩:=qfU I hg;rw[hd]at d';cases d';have hv:vs.length<=i:=by have:=Paired.length r;omega
  obtain⟨f0,f1,f2,f3,f4,f5⟩:=hf it (by simp)
  exact wpAny_pyNext_items_end (knd:=qak X.prog X.w) (I.ok.hd hc) (by rw[hl];exact st) da (by simp[hv]) fun h' eb=>⟨rfl,I.turned (t':=s.toks) (fun b o hb e=>eb b o hb e) f0 f1 f3 f4 f5⟩
 self:=fun A i s Q E st h=>by
  obtain⟨x,y,st⟩:=st;have hT:s.TypeIs (.ref it) "dict_itemiterator":=⟨_,st,rfl⟩;refine wpAny_pyIter_slot hT F.slot_dict_itemiterator_iter (wpAny_call_entry F.slot_dict_itemiterator_iter hT qdK ?_ (F.args_dict_itemiterator_iter_1 _));refine(?_:wpAny _ _ (ret (.ref it)) _ _ s);exact wpAny_pure ⟨_,rfl,"dict_itemiterator",_,hT,F.slot_dict_itemiterator_next.lookup,h⟩
def qbd(kvs:List (Key×RV)):List RV:=kvs.map fun kv=>.tup [kR kv.1,kv.2]
theorem qpA{H0 Hs:Hp}{K:Frg}{H1:Hp}{a:Addr}{o:Obj}{kvs:List (Key×RV)}{ws:List (Key×V)}{un:RM->RM}(h:H1 a=some (.frz o (.dK ws)))(r:RepP K H1 kvs ws)
 (th:∀ H M,Ext H1 H->View K H M->M a=some (.fk kvs)->∃ H',Thaw H0 H H'/\ExtW H H'/\Ext Hs H'/\View K H' (un M)):qjD H0 Hs K (Itm o a) (qbd kvs) (fun M=>M a=some (.fk kvs)) un H1 where
 turn:=fun i H M e hv hm x hx=>by
  have hH:=e.frzs _ _ _ h;have hl:(qbd kvs).length=ws.length:=by rw[<-qaU r];simp[qbd]
  have hi:i<ws.length:=by rw[<-hl];exact(List.getElem?_eq_some_iff.mp hx).1
  refine⟨⟨_,hH,hi⟩,fun v H' y=>?_⟩
  obtain⟨ws',kv,p,hu,e1,rfl,hn,rfl⟩:=y;rw[hH]at hu;cases hu;obtain⟨q,e2,rq⟩:=qcZ r e1;have:x= .tup [kR kv.1,q]:=by simpa[qbd,e2]using hx.symm
  rw[this];exact⟨Ext.new hn,fun _ w=>w.new hn,qcY hn (Reps.cons (qlg _) (Reps.cons (Rep.ext e _ _ rq) Reps.nil))⟩
 stop:=fun i H M e hv hm hi=>by
  have hl:(qbd kvs).length=ws.length:=by rw[<-qaU r];simp[qbd]
  exact⟨_,e.frzs _ _ _ h,by rw[hl]at hi;exact hi⟩
 thaw:=th
noncomputable def qrf (Q:List RV->(RM->Prop)->(RM->RM)->RM->Prop):RVK:=fun v M1=>match v with
 | .ref a=>match M1 a with
  |some (.dk kvs)=>Q (qbd kvs) (fun M=>M a=some (.fk kvs)) (fun M=>put M a (.dk kvs)) (put M1 a (.fk kvs))
  |some (.fk kvs)=>Q (qbd kvs) (fun M=>M a=some (.fk kvs)) id M1
  |_=>False
 |_=>False
def qAE(te:RTE):RTI:=fun σ M Q=>te σ M (qrf Q)
theorem qxI{pins:List (Addr×Obj)}{σ0:L2.St}{H H1:Hp}{s:Shared}{Q:List RV->(RM->Prop)->(RM->RM)->RM->Prop}{rv:RV}{v:V}{M1:RM}(I:Inv X pins σ0 H1 s)(e1:Ext H H1)(v1:View X.K H1 M1)(r1:Rep X.K H1 rv v)(q:qrf Q rv M1):
 ∃ a o ws H2 xs ok un M2,v= .ref a/\Inv X pins σ0 H2 s/\H2 a=some (.frz o (.dK ws))/\qjD X.H₀ H X.K (Itm o a) xs ok un H2/\Q xs ok un M2/\Ext H H2/\View X.K H2 M2:=by
 cases rv<;>first|(exact(show False from q).elim)|skip
 rename_i a;simp only[Rep]at r1;unfold qrf at q;simp only at q;split at q
 · rename_i kvs em
   obtain⟨ho,eh,ws,rfl,r⟩:=v1 a _ em;obtain⟨ob,g,I2,n0⟩:=qeu I eh rfl;have ex:Ext H1 (upd H1 a (.frz ob (.dK ws))):=Ext.write eh rfl;refine⟨a,ob,ws,_,_,_,_,_,r1,I2,qaj,qpA qaj (r.ext ex) fun H2 M e hv hm=>?_,q,e1.trans ex,v1.write em ⟨ob,ws,rfl,r.ext ex⟩⟩
   have hH:=e.frzs _ _ _ (qaj (H:=H1) (a:=a) (o:=.frz ob (.dK ws)));have xw:ExtW H2 (upd H2 a (.dK ws)):=ExtW.thaw hH rfl;refine⟨upd H2 a (.dK ws),.inr ⟨a,ob,_,hH,rfl,n0,rfl⟩,xw,⟨fun b xs z=>?_,fun b o' u' z=>?_⟩,hv.write hm ⟨ws,rfl,RepP.extw xw (r.ext (ex.trans e))⟩⟩
   · have z1:=e.tups _ _ (ex.tups _ _ (e1.tups _ _ z))
     rw[qae (by rintro rfl;rw[hH]at z1;cases z1)];exact z1
   · have z0:=e1.frzs _ _ _ z
     rw[qae (by rintro rfl;rw[eh]at z0;cases z0)];exact e.frzs _ _ _ (ex.frzs _ _ _ z0)
 · rename_i kvs em
   obtain⟨ho,eh,ob,ws,rfl,r⟩:=v1 a _ em;exact⟨a,ob,ws,H1,_,_,_,_,r1,I,eh,qpA eh r (qbG e1),q,e1,v1⟩
 · exact q.elim
theorem quC{l:Expr}{te:RTE}{ap p:Pos}{ts:List Expr}{tk:Nat}{tp:Pos}(hl:RPE X l te)(hbase:attributeBase l "items" X.env (eval l X.env)=eval l X.env)(hline:(ap.endLine==p.line)=true):RPI X (.Tuple ts tk tp) (.Call (.Attribute l "items" ap) [] [] p) (qAE te):=by
 intro pins s σ0 H R I h;obtain⟨σ,M,Q,hs,hv,ht,hk⟩:=h;refine wpAny_Call_method (T:="dict") (id:="dict.items") hbase rfl hline F.plainAttrs_dict F.slot_dict_items F.type_dict_items (thn (hl pins s σ0 H (fun x H1=>∃ rv M1,Rep X.K H1 rv x/\qrf Q rv M1/\Ext H H1/\View X.K H1 M1) I ⟨σ,M,_,hs,hv,ht,fun rv M1 v H1 q e1 v1 r1=>⟨rv,M1,r1,q,e1,v1⟩⟩) fun uv s1 ⟨v,H1,I1,rl,rv,M1,r1,q,e1,v1⟩=>?_)
 obtain⟨a,o,ws,H2,xs,ok,un,M2,rfl,I2,hH,it,q,e2,v2⟩:=qxI I1 e1 v1 r1 q;cases(show uv=Value.ref a from rl)
 obtain⟨vs,es,ep,hd,r,da,hS,hl⟩:=qfU I2 hH;obtain⟨t1,t2⟩:=qrH I2 hH rfl;refine⟨t1,t2,method_meetsIn F.slot_dict_items F.entry_dict_items rfl (PySem.evalArgs_none ⟨rfl,t1,F.args_dict_items_1 _,_,meets_dict_items (qak X.prog X.w) a hS,⟨vs,da.dictOf⟩,?_⟩)⟩;have I3:Inv X pins σ0 H2 { s1 with heap:=s1.heap.push { cls:=.type "dict_items",data:=.fields #[.ref a] } }:=I2.kept (t':=s1.toks) fun b o e=>Heap.get?_push_of_some _ e
 refine wpAny_pyIter_items (s:={ s1 with heap:=s1.heap.push { cls:=.type "dict_items",data:=.fields #[.ref a] } }) ⟨_,Heap.get?_push_size _ rfl,rfl,rfl⟩ (da.push _) ?_
 have hlt:a<s1.heap.objs.size:=da.lt_size;refine⟨_,[_],_,_,H2,rfl,I3.kept (t':=s1.toks) fun b o e=>Heap.get?_push_of_some _ e,qjH hd,⟨_,_,by rw[<-hl];exact Heap.get?_push_size _ rfl⟩,fun b hb=>?_,hk xs ok un M2 _ H2 q e2 v2 it⟩
 have e:=waz.mp hb;subst e;exact I3.fpOk (wac _) (I3.hok.fresh (wac _))
end
section
variable {prog:Program}{w:World}{A:Around}{d r:Addr}{es:Array DictEntry}{ep:Nat}
theorem RawD.keep{h h':Heap}(x:RawD h d es ep)(k:∀ o,h.get? d=some o->h'.get? d=some o):RawD h' d es ep:=by obtain⟨o,h1,h2⟩:=x;exact⟨o,k o h1,h2⟩
theorem RawD.lt{h:Heap}(x:RawD h d es ep):d<h.objs.size:=by obtain⟨o,h1,h2⟩:=x;exact wae h1
theorem qkG(hh:A.handled=none)(I:Addr)(hne:d≠I):Walks prog w A I [I,d] [I] es.size (fun i v=>∃ hi:i<es.size,v=es[i].val) (fun i h=>h.IsValIter I d i es.size ep/\RawD h d es ep) where
 sub:=fun b hb=>by simp at hb;simp[hb]
 frame:=fun _ _ _ st hk=>⟨st.1.at fun o e=>hk I (by simp) o e,st.2.keep fun o e=>hk d (by simp) o e⟩
 item:=fun i s Q E hi st hQ=>qdy st.1 st.2 hi fun h' hit' hs'=>hQ _ h' s.toks ⟨hi,rfl⟩ ⟨hit',st.2.keep fun o e=>hs'.extBut d o hne e⟩ fun b o hb e=>hs'.extBut b o (fun h=>hb (by simp[h])) e
 done:=fun s Q E st hQ=>qd7 hh st.1 st.2 (wac _) fun h' he'=>hQ h' s.toks fun b o hb e=>he' b o (fun h=>hb (by simp[h])) e
 self:=fun _ _ _ _ st hQ=>wpAny_pyIter_valiter st.1 hQ
theorem qnA:PySem.W.KdlSrc prog w "dict_values" r d es.size (fun i v=>∃ hi:i<es.size,v=es[i].val) (fun h=>h.IsValuesView r d/\RawD h d es ep) where
 type:=fun _ hm=>hm.1.typeIs
 there:=fun _ hm=>⟨let⟨_,ho,_⟩:=hm.1;wae ho,hm.2.lt⟩
 keep:=fun _ _ hm hk=>⟨let⟨o,ho,x⟩:=hm.1;⟨o,hk r (.inl rfl) o ho,x⟩,hm.2.keep fun o e=>hk d (.inr rfl) o e⟩
 notList:=by decide
 notTuple:=by decide
 hint:=fun _ _ _ _ hm hq=>PySem.W.kdl_hint_values hm.1.typeIs hq
 iter:=fun _ _ hh hm=>⟨_,_,(fun _ _ hq=>qjW hm.1 hm.2 hq),qkG hh _ (waq hm.2.lt),⟨⟨_,Heap.get?_push_size _ rfl,rfl,rfl⟩,hm.2.keep fun o e=>Heap.get?_push_of_some _ e⟩⟩
end
noncomputable def qmR:RO->Option (List RV)
 | .dk kvs=>some (kvs.map (·.2))
 | .fk kvs=>some (kvs.map (·.2))
 | .dt kvs=>some (kvs.map (·.2))
 | .ft kvs=>some (kvs.map (·.2))
 |_=>none
def kLv(md:Bool)(Q:RVK):RVK:=fun v M=>match v with
 | .ref a=>match(M a).bind qmR with
  |some xs=>qrE md xs M Q
  |none=>False
 |_=>False
def rLv(md:Bool)(te:RTE):RTE:=fun σ M Q=>te σ M (kLv md Q)
section
variable {X:Cx}
theorem qbV{κ:Type}{K:Frg}{H:Hp}:∀ {xs:List (κ×RV)} {ws:List (κ×V)},RepP K H xs ws->Reps K H (xs.map (·.2)) (ws.map (·.2))
 | [],ws,h=>by have h:ws= []:=h;subst h;exact Reps.nil
 |(k,x)::r,ws,h=>by obtain⟨v,t,rfl,h1,h2⟩:=h;exact Reps.cons h1 (qbV h2)
theorem quR{pins:List (Addr×Obj)}{σ0:L2.St}{H:Hp}{s:Shared}{a:Addr}{o:RO}{xs:List RV}{M:RM}(I:Inv X pins σ0 H s)(hv:View X.K H M)(hm:M a=some o)(hd:qmR o=some xs):
 ∃ vs es ep,RawD s.heap a es ep/\(a==sysModules)=false/\es.size=vs.length/\vs.length<=sizeLine/\Reps X.K H xs vs/\∀ i (hi:i<es.size),∃ x,vs[i]? =some x/\RelV x es[i].val:=by
 obtain⟨ho,eh,r⟩:=hv a o hm;have key:∀ (u:HO) (H2:Hp) (ob:Obj) (vs:List V),Inv X pins σ0 H2 s->H2 a=some (.frz ob u)->qmi u=true->(∀ i x,valAt u i x->vs[i]? =some x)->qoj u=vs.length->Reps X.K H xs vs->∃ vs es ep,RawD s.heap a es ep/\(a==sysModules)=false/\es.size=vs.length/\vs.length<=sizeLine/\Reps X.K H xs vs/\∀ i (hi:i<es.size),∃ x,vs[i]? =some x/\RelV x es[i].val:=fun u H2 ob vs I2 h2 du hva hl hr=>by
  obtain⟨es,ep,hd,rd,hS,e1,e2,hall⟩:=qbA I2 h2 du;exact⟨vs,es,ep,rd,hS,by rw[e1,hl],by rw[<-hl];exact e2,hr,fun i hi=>by obtain⟨_,x,k1,k2⟩:=hall i hi;exact⟨x,hva i x k1,k2⟩⟩
 have vK:∀ (ws:List (Key×V)) i x,valAt (.dK ws) i x->(ws.map (·.2))[i]? =some x:=fun ws i x ⟨kv,e,z⟩=>by rw[List.getElem?_map,e,z];rfl
 have vT:∀ (ws:List (TK×V)) i x,valAt (.dT ws) i x->(ws.map (·.2))[i]? =some x:=fun ws i x ⟨kv,e,z⟩=>by rw[List.getElem?_map,e,z];rfl
 cases o<;>first|(cases hd;done)|skip
 · obtain⟨ws,rfl,hg⟩:=r
   cases hd;obtain⟨ob,g,I2,n0⟩:=qeu I eh rfl;exact key _ _ ob (ws.map (·.2)) I2 qaj rfl (vK ws) (by simp[qoj]) (qbV hg)
 · obtain⟨ws,rfl,hg⟩:=r
   cases hd;obtain⟨ob,g,I2,n0⟩:=qeu I eh rfl;exact key _ _ ob (ws.map (·.2)) I2 qaj rfl (vT ws) (by simp[qoj]) (qbV hg)
 · obtain⟨ob,ws,rfl,hg⟩:=r
   cases hd;exact key _ _ ob (ws.map (·.2)) I eh rfl (vK ws) (by simp[qoj]) (qbV hg)
 · obtain⟨ob,ws,rfl,hg⟩:=r
   cases hd;exact key _ _ ob (ws.map (·.2)) I eh rfl (vT ws) (by simp[qoj]) (qbV hg)
theorem qe1:∀ {vs:List V} {us:List Value},us.length=vs.length->(∀ (i:Nat) u,us[i]? =some u->∃ x,vs[i]? =some x/\RelV x u)->Vals vs us
 | [],[],_,_=>.nil
 | [],_::_,h,_=>by cases h
 |_::_,[],h,_=>by cases h
 |v::vs,u::us,h,f=>by
  obtain⟨x,e,r⟩:=f 0 u rfl;cases e;exact .cons r (qe1 (by simpa using h) fun i u e=>f (i+1) u (by simpa using e))
theorem rlv{l:Expr}{te:RTE}{md:Bool}{p1 ap p2 pos:Pos}(hml:X.mg "list" =none)(hc:X.calm=true)(hl:RPE X l te)(hgl:Gl X "list")(hbase:attributeBase l "values" X.env (eval l X.env)=eval l X.env)(hline:(ap.endLine==p2.line)=true):
 RPE X (.Call (.Name "list" p1) [.Call (.Attribute l "values" ap) [] [] p2] [] pos) (rLv md te):=by
 intro pins s σ0 H Q0 I h;obtain⟨σ,M,Q,hs,hv,ht,hk⟩:=h;have he0:starEach [Expr.Call (.Attribute l "values" ap) [] [] p2] X.env=(false,eval (Expr.Call (.Attribute l "values" ap) [] [] p2) X.env)::starEach [] X.env:=rfl;refine Call_ (qdh I hgl hml boot_list (waB ?_ he0 rfl));rw[he0];show wpAny _ _ (spliced ((false,eval (Expr.Call (.Attribute l "values" ap) [] [] p2) X.env)::backTo pos (starEach [] X.env))) _ _ s;refine Calls.spliced_cons (wpAny_Call_method (T:="dict") (id:="dict.values") hbase rfl hline F.plainAttrs_dict F.slot_dict_values F.type_dict_values (thn (hl pins s σ0 H (fun x H1=>∃ rv M1,Rep X.K H1 rv x/\kLv md Q rv M1/\Ext H H1/\View X.K H1 M1) I ⟨σ,M,_,hs,hv,ht,fun rv M1 v H1 q e1 v1 r1=>⟨rv,M1,r1,q,e1,v1⟩⟩) fun uv s1 ⟨v,H1,I1,rl,rv,M1,r1,q,e1,v1⟩=>?_))
 cases rv<;>first|(exact(show False from q).elim)|skip
 rename_i a;simp only[Rep]at r1;subst r1;cases(show uv=Value.ref a from rl)
 unfold kLv at q;simp only at q;split at q
 · rename_i xs ex
   obtain⟨o,hm,hd⟩:=Option.bind_eq_some_iff.mp ex;obtain⟨vs,es,ep,rd,hS,e2,e3,hr,hall⟩:=quR I1 v1 hm hd;refine⟨rd.ty,fun b e=>by cases e;obtain⟨o1,h1,h2,h3⟩:=rd;exact⟨o1,h1,h2.2.1⟩,method_meetsIn F.slot_dict_values F.entry_dict_values rfl (PySem.evalArgs_none ⟨rfl,rd.ty,F.args_dict_values_1 _,_,qh7 hS,⟨es,ep,rd⟩,Calls.spliced_nil ?_⟩)⟩
   have I3:Inv X pins σ0 H1 { s1 with heap:=s1.heap.push { cls:=.type "dict_values",data:=.fields #[.ref a] } }:=I1.kept (t':=s1.toks) fun b o e=>Heap.get?_push_of_some _ e
   refine PySem.W.kdl_call (s:={ s1 with heap:=s1.heap.push { cls:=.type "dict_values",data:=.fields #[.ref a] } }) qnA (I3.ok.hd hc) ⟨⟨_,Heap.get?_push_size _ rfl,rfl,rfl⟩,rd.keep fun o e=>Heap.get?_push_of_some _ e⟩ (by rw[e2];exact e3) fun h' tk acc c' kp hget hit=>?_
   have hv':Vals vs acc.toList:=qe1 (by simp[hit.1,e2]) fun i u e=>by
    obtain⟨hi,rfl⟩:=hit.2 i u (by rw[<-Array.getElem?_toList];exact e)
    exact hall i hi
   have hfr:=I3.hok.fresh (wac _);have I4:=I3.laid (t':=tk) (o:=.lst vs) (h':=h') kp (wac _) ⟨e3,acc.toList,c',hv',by simpa using hget⟩
   cases md with
   |true=>exact⟨.ref _,_,I4,rfl,hk (.ref _) _ _ _ (q _ (v1.free hfr)) (e1.trans (Ext.new hfr)) (v1.newPut hfr ⟨vs,rfl,Reps.ext (Ext.new hfr) _ _ hr⟩) (by simp only[Rep])⟩
   |false=>exact frozen ⟨.ref _,_,I4,rfl,H1,_,vs,rfl,hfr,rfl,fun o=>hk _ M1 _ _ q (e1.trans (Ext.new hfr)) (v1.new hfr) (qcb hfr hr)⟩
 · exact q.elim
end
noncomputable def qm3:Key->Key->Bool
 | .inl i,.inl j=>decide (i<j)
 | .inl _,.inr _=>true
 | .inr _,.inl _=>false
 | .inr x,.inr y=>decide (x.cps.toList<y.cps.toList)
def qnr:qbv->qbv->Bool
 |none,none=>false
 |none,some _=>true
 |some _,none=>false
 |some k,some l=>qm3 k l
def qdn:TK->TK->Bool
 | [],[]=>false
 | [],_::_=>true
 |_::_,[]=>false
 |x::xs,y::ys=>if x=y then qdn xs ys else qnr x y
theorem qrO{x y:Str}(h:x.cps.toList=y.cps.toList):x=y:=by
 cases x;cases y;simp_all
theorem qoU(a:Key):qm3 a a=false:=by
 cases a with
 |inl i=>simp[qm3]
 |inr x=>simpa[qm3]using List.lt_irrefl x.cps.toList
theorem qrY{a b c:Key}(h1:qm3 a b=true)(h2:qm3 b c=true):qm3 a c=true:=by
 cases a<;>cases b<;>cases c<;>simp only[qm3,decide_eq_true_eq,reduceCtorEq]at h1 h2 ⊢
 · omega
 · exact List.lt_trans h1 h2
theorem qoT{a b:Key}(h1:qm3 a b=false)(h2:qm3 b a=false):a=b:=by
 cases a<;>cases b<;>simp only[qm3,decide_eq_false_iff_not,reduceCtorEq]at h1 h2
 · congr 1;omega
 · congr 1;exact qrO (List.le_antisymm (List.not_lt.mp h2) (List.not_lt.mp h1))
theorem qoS(a:qbv):qnr a a=false:=by cases a<;>simp[qnr,qoU]
theorem qrX{a b c:qbv}(h1:qnr a b=true)(h2:qnr b c=true):qnr a c=true:=by
 cases a<;>cases b<;>cases c<;>simp only[qnr,reduceCtorEq]at h1 h2 ⊢
 exact qrY h1 h2
theorem qoR{a b:qbv}(h1:qnr a b=false)(h2:qnr b a=false):a=b:=by
 cases a<;>cases b<;>simp only[qnr,reduceCtorEq]at h1 h2 ⊢
 exact congrArg some (qoT h1 h2)
theorem qf1:∀ a:TK,qdn a a=false
 | []=>rfl
 |x::xs=>by unfold qdn;rw[if_pos rfl];exact qf1 xs
theorem qiV:∀ {a b c:TK},qdn a b=true->qdn b c=true->qdn a c=true
 | [],b,[],h1,h2=>by cases b<;>simp[qdn]at h1 h2
 | [],b,z::zs,_,_=>rfl
 |x::xs,[],c,h1,_=>by simp[qdn]at h1
 |x::xs,y::ys,[],_,h2=>by simp[qdn]at h2
 |x::xs,y::ys,z::zs,h1,h2=>by
  unfold qdn at h1 h2 ⊢
  by_cases e1:x=y
  · subst e1
    rw[if_pos rfl]at h1
    by_cases e2:x=z
    · subst e2;rw[if_pos rfl]at h2 ⊢;exact qiV h1 h2
    · rw[if_neg e2]at h2 ⊢;exact h2
  · rw[if_neg e1]at h1
    by_cases e2:y=z
    · subst e2;rw[if_neg e1];exact h1
    · rw[if_neg e2]at h2
      have t:=qrX h1 h2;rw[if_neg (by rintro rfl;rw[qoS]at t;cases t)]
      exact t
theorem qdU:∀ {a b:TK},qdn a b=false->qdn b a=false->a=b
 | [],[],_,_=>rfl
 | [],_::_,h,_=>by simp[qdn]at h
 |_::_,[],_,h=>by simp[qdn]at h
 |x::xs,y::ys,h1,h2=>by
  unfold qdn at h1 h2
  by_cases e:x=y
  · subst e
    rw[if_pos rfl]at h1 h2;rw[qdU h1 h2]
  · rw[if_neg e]at h1
    rw[if_neg (Ne.symm e)]at h2;exact absurd (qoR h1 h2) e
@[reducible] def rowOrd:KeyOrd where
 α:=TK
 blt:=qdn
 irrefl:=qf1
 trans:=fun _ _ _=>qiV
 negTrans:=fun a b c h=>by
  cases h1:qdn a b with
  |true=>exact .inl rfl
  |false=>
   cases h2:qdn b a with
   |true=>exact .inr (qiV h2 h)
   |false=>rw[qdU h1 h2]at h;exact .inr h
 total:=fun _ _=>qdU
def leT(a b:TK):Bool:=!qdn b a
def qeJ(rows:List TK):List TK:=rows.mergeSort leT
theorem quc{a b c:TK}(h1:leT a b=true)(h2:leT b c=true):leT a c=true:=by
 unfold leT at*;rw[Bool.not_eq_true']at*;exact KeyOrd.kle_trans (O:=rowOrd) h1 h2
theorem ql2(a b:TK):(leT a b||leT b a)=true:=by
 unfold leT;cases h:qdn b a with
 |false=>rfl
 |true=>rw[show qdn a b=false from KeyOrd.klt_asymm (O:=rowOrd) h];rfl
theorem qjM(rows:List TK):(qeJ rows).Perm rows:=List.mergeSort_perm ..
theorem qnB(rows:List TK):(qeJ rows).Pairwise fun a b=>leT a b=true:=List.pairwise_mergeSort (le:=leT) (fun _ _ _=>quc) ql2 rows
theorem qi4{l rows:List TK}(hp:l.Perm rows)(hs:l.Pairwise fun a b=>leT a b=true):l=qeJ rows:=
 (hp.trans (qjM rows).symm).eq_of_pairwise (fun a b _ _ h1 h2=>by
  unfold leT at h1 h2;rw[Bool.not_eq_true']at h1 h2;exact qdU h2 h1) hs (qnB rows)
def kin:qbv->qbv->Bool
 |some (.inl _),some (.inl _)=>true
 |some (.inr _),some (.inr _)=>true
 |_,_=>false
def qpR:TK->TK->Bool
 |x::xs,y::ys=>if x=y then qpR xs ys else kin x y
 |_,_=>true
def hdI:TK->Bool
 |some (.inl _)::_=>true
 |_=>false
def hdS:TK->Bool
 |some (.inr _)::_=>true
 |_=>false
def qca(rows:List TK):Bool:=(rows.all hdI||rows.all hdS)&&rows.all fun a=>rows.all fun b=>qpR a b
def rowsOf:List RV->Option (List TK)
 | []=>some []
 |x::xs=>match qco x,rowsOf xs with
  |some k,some ks=>some (k::ks)
  |_,_=>none
def qaD(r:TK):RV:=.tup (r.map oR)
theorem qjh:∀ {rs:List RV} {k:TK},qj4 rs=some k->rs=k.map oR
 | [],k,h=>by cases h;rfl
 |r::rs,k,h=>by
  unfold qj4 at h;split at h
  · rename_i a b e1 e2
    cases h;rw[wad,<-qjh e2];congr 1;cases r<;>simp only[qpo,reduceCtorEq]at e1<;>cases e1<;>rfl
  · cases h
theorem qoo{x:RV}{k:TK}(h:qco x=some k):x=qaD k:=by
 cases x<;>first|(cases h;done)|skip
 unfold qaD;rw[<-qjh h]
theorem qe3:∀ {xs:List RV} {rows:List TK},rowsOf xs=some rows->xs=rows.map qaD
 | [],rows,h=>by cases h;rfl
 |x::xs,rows,h=>by
  unfold rowsOf at h;split at h
  · rename_i a b e1 e2
    cases h;rw[wad,<-qe3 e2,<-qoo e1]
  · cases h
section
variable {P:Program}{w:World}
noncomputable def RowsR (P:Program)(w:World)(h:Heap):List TK->List Value->Prop
 | [],[]=>True
 |r::rs,v::vs=>(∃ a its,v= .ref a/\IsTup h a its/\ItemsAre (optKind P w) r its.toList)/\RowsR P w h rs vs
 |_,_=>False
theorem RowsR.keep{h g:Heap}(k:∀ b o,h.get? b=some o->g.get? b=some o):∀ {rows:List TK} {vs:List Value},RowsR P w h rows vs->RowsR P w g rows vs
 | [],[],_=>trivial
 |_::_,_::_,⟨⟨a,its,e,⟨o,h1,h2⟩,h3⟩,r⟩=>⟨⟨a,its,e,⟨o,k a o h1,h2⟩,h3⟩,RowsR.keep k r⟩
 | [],_::_,h=>h.elim
 |_::_,[],h=>h.elim
theorem RowsR.len{h:Heap}:∀ {rows:List TK} {vs:List Value},RowsR P w h rows vs->rows.length=vs.length
 | [],[],_=>rfl
 |_::_,_::_,⟨_,r⟩=>by rw[waf,waf,r.len]
 | [],_::_,h=>h.elim
 |_::_,[],h=>h.elim
theorem RowsR.at{h:Heap}:∀ {rows:List TK} {vs:List Value} {i:Nat},RowsR P w h rows vs->i<rows.length->∃ a its,vs.getD i Value.none= .ref a/\IsTup h a its/\ItemsAre (optKind P w) (rows.getD i []) its.toList
 |_::_,_::_,0,⟨⟨a,its,e,h1,h2⟩,_⟩,_=>⟨a,its,by simpa using e,h1,by simpa using h2⟩
 |_::_,_::_,i+1,⟨_,r⟩,hi=>by
  obtain⟨a,its,e1,e2,e3⟩:=r.at (i:=i) (by simpa using hi)
  exact⟨a,its,by simpa using e1,e2,by simpa using e3⟩
 | [],_,_,_,hi=>absurd hi (Nat.not_lt_zero _)
 |_::_,[],_,h,_=>h.elim
theorem qim{i:Int}{v:Value}(h:(optKind P w).is (some (.inl i)) v=true):∃ t,v= .int i t:=Value.isInt_shape (show Value.isInt i v=true from h)
theorem qil{x:Str}{v:Value}(h:(optKind P w).is (some (.inr x)) v=true):∃ t,v= .str x t:=Value.isStrOf_shape (show Value.isStrOf x v=true from h)
theorem qAL{A:Around}{fin b:Bool}{Q:Bool->Shared->Prop}{s:Shared}(hb:b=true):∀ {ks ls:TK} {xs ys:List Value} {i:Nat},ItemsAre (optKind P w) ks xs->ItemsAre (optKind P w) ls ys->qpR ks ls=true->fin=decide (ks.length<ls.length)->Q (qdn ks ls) s->KatLex P w A b fin Q (xs.zip ys) i s
 | [],[],_,_,i,.nil,.nil,_,hf,q=>by subst hf;exact q
 | [],_::_,_,_,i,.nil,.cons _ _,_,hf,q=>by rw[hf];exact(show Q _ s from by simpa[qdn]using q)
 |_::_,[],_,_,i,.cons _ _,.nil,_,hf,q=>by rw[hf];exact(show Q _ s from by simpa[qdn]using q)
 |k::ks,l::ls,_,_,i,.cons hk r1,.cons hl r2,ha,hf,q=>by
  refine(optKind P w).eqBool hk hl ?_;unfold qpR at ha;unfold qdn at q
  by_cases e:k=l
  · rw[if_pos e]at ha q
    rw[if_pos (by simpa using e)]
    exact qAL hb r1 r2 ha (by rw[hf];simp) q
  · rw[if_neg e]at ha q
    rw[if_neg (by simpa using e)]
    subst hb;unfold kin at ha;split at ha
    · rename_i m n
      obtain⟨t,rfl⟩:=qim hk;obtain⟨u,rfl⟩:=qim hl;have q:Q (decide (m<n)) s:=q
      by_cases z:i=0
      · rw[show(true&&i==0)=true by rw[z];rfl];exact oneLt_int q
      · rw[show(true&&i==0)=false by simpa using z];exact kat_one _ _ (PySem.P.lt_int q)
    · rename_i m n
      obtain⟨t,rfl⟩:=qil hk;obtain⟨u,rfl⟩:=qil hl;have q:Q (decide (m.cps.toList<n.cps.toList)) s:=q
      by_cases z:i=0
      · rw[show(true&&i==0)=true by rw[z];rfl];exact oneLt_str q
      · rw[show(true&&i==0)=false by simpa using z];exact kat_one _ _ (PySem.P.lt_str q)
    · cases ha
theorem heads{h:Heap}{T:Value}{p:TK->Bool}(hp:∀ r,p r=true->∀ its,ItemsAre (optKind P w) r its->∃ f,its[0]? =some f/\Looks (model P w) h (typeOf f) T):∀ {rows:List TK} {vs:List Value},RowsR P w h rows vs->rows.all p=true->
 ∃ fs,KatTups h vs fs/\fs.length=vs.length/\∀ v∈fs,Looks (model P w) h (typeOf v) T
 | [],[],_,_=>⟨[],trivial,rfl,fun _ z=>by cases z⟩
 |r::rows,v::vs,⟨⟨a,its,e,⟨o,h1,h2,n,h3⟩,h4⟩,rr⟩,ha=>by
  rw[wat,waa]at ha;obtain⟨f,f1,f2⟩:=hp r ha.1 its.toList h4;obtain⟨fs,k1,k2,k3⟩:=heads hp rr ha.2;subst e;refine⟨f::fs,KatTups.cons h1 h2 h3 (by simpa using f1) k1,by rw[waf,waf,k2],fun v hv=>?_⟩
  rcases was.mp hv with rfl|hv
  · exact f2
  · exact k3 v hv
 | [],_::_,h,_=>h.elim
 |_::_,[],h,_=>h.elim
theorem qmB{h:Heap}(r:TK)(hr:hdI r=true)(its:List Value)(hi:ItemsAre (optKind P w) r its):∃ f,its[0]? =some f/\Looks (model P w) h (typeOf f) (.type "int"):=by
 unfold hdI at hr;split at hr
 · cases hi with
   |cons a b=>obtain⟨t,rfl⟩:=qim a;exact⟨_,rfl,Looks.of_pure rfl⟩
 · cases hr
theorem qmA{h:Heap}(r:TK)(hr:hdS r=true)(its:List Value)(hi:ItemsAre (optKind P w) r its):∃ f,its[0]? =some f/\Looks (model P w) h (typeOf f) (.type "str"):=by
 unfold hdS at hr;split at hr
 · cases hi with
   |cons a b=>obtain⟨t,rfl⟩:=qil a;exact⟨_,rfl,Looks.of_pure rfl⟩
 · cases hr
def qvz(rows:List TK)(i:Nat):rowOrd.α:=rows.getD i []
theorem qm4{A:Around}{s:Shared}{h0:Heap}{a:Addr}{rows:List TK}{vs:List Value}(ha:h0.get? a=none)(kp:∀ b o,h0.get? b=some o->s.heap.get? b=some o)(r:RowsR P w h0 rows vs)(hk:qca rows=true)(h2:2<=vs.length):qyi P w A s a vs (qvz rows):=by
 intro g kg;have kk:∀ b o,h0.get? b=some o->g.get? b=some o:=fun b o e=>kg b o (fun z=>by rw[z,ha]at e;cases e) (kp b o e)
 have rg:=r.keep kk;unfold qca at hk;rw[waa,wa9]at hk;obtain⟨hh,hall⟩:=hk;refine⟨tuples' true,fun Q E' q=>?_,fun i j C hi hj q=>?_⟩
 · rcases hh with hh|hh
   · obtain⟨fs,k1,k2,k3⟩:=heads (T:=.type "int") qmB rg hh
     exact kat_kind (s:={ s with heap:=g }) k1 (by omega) k3 (by decide) q
   · obtain⟨fs,k1,k2,k3⟩:=heads (T:=.type "str") qmA rg hh
     exact kat_kind (s:={ s with heap:=g }) k1 (by omega) k3 (by decide) q
 · have hl:=rg.len
   obtain⟨x,ix,e1,⟨o1,a1,a2,n1,a3⟩,a4⟩:=rg.at (i:=i) (by omega)
   obtain⟨y,iy,e2,⟨o2,b1,b2,n2,b3⟩,b4⟩:=rg.at (i:=j) (by omega)
   unfold kas_ask;rw[e1,e2];have mi:rows.getD i []∈rows:=by rw[List.getD_eq_getElem?_getD,List.getElem?_eq_getElem (by omega)];exact List.getElem_mem _
   have mj:rows.getD j []∈rows:=by rw[List.getD_eq_getElem?_getD,List.getElem?_eq_getElem (by omega)];exact List.getElem_mem _
   have len:∀ {k:TK} {l:List Value},ItemsAre (optKind P w) k l->k.length=l.length:=fun z=>by induction z<;>simp_all
   refine kat_lt (s:={ s with heap:=g }) a1 a3 b1 b3 (qAL rfl a4 b4 (wak.mp (wak.mp hall _ mi) _ mj) (by rw[len a4,len b4,Array.length_toList,Array.length_toList]) q)
end
section
variable {K:Frg}{H:Hp}
theorem qgx{d:RV}{e:V}:∀ {xs:List RV} {ws:List V} {i:Nat},Reps K H xs ws->i<xs.length->Rep K H (xs.getD i d) (ws.getD i e)
 |x::xs,ws,i,h,hi=>by
  obtain⟨v,r,rfl,h1,h2⟩:=(by simpa only[Reps]using h:∃ v r,ws=v::r/\Rep K H x v/\Reps K H xs r)
  cases i with
  |zero=>simpa using h1
  |succ i=>simpa using qgx (d:=d) (e:=e) (i:=i) h2 (by simpa using hi)
 | [],_,_,_,hi=>absurd hi (Nat.not_lt_zero _)
theorem qf7{d:V}{e:Value}:∀ {ws:List V} {vs:List Value} {i:Nat},Vals ws vs->i<ws.length->RelV (ws.getD i d) (vs.getD i e)
 |_,_,0,.cons a _,_=>by simpa using a
 |_,_,i+1,.cons _ r,hi=>by simpa using qf7 (d:=d) (e:=e) (i:=i) r (by simpa using hi)
theorem qgv{d:RV}{e:V}{xs:List RV}{ws:List V}(h:Reps K H xs ws):∀ {q:List Nat},(∀ i∈q,i<xs.length)->Reps K H (q.map fun i=>xs.getD i d) (q.map fun i=>ws.getD i e)
 | [],_=>Reps.nil
 |i::q,hq=>Reps.cons (qgx h (hq i (.head _))) (qgv h fun j hj=>hq j (.tail _ hj))
theorem qf6{d:V}{e:Value}{ws:List V}{vs:List Value}(h:Vals ws vs):∀ {q:List Nat},(∀ i∈q,i<ws.length)->Vals (q.map fun i=>ws.getD i d) (q.map fun i=>vs.getD i e)
 | [],_=>.nil
 |i::q,hq=>.cons (qf7 h (hq i (.head _))) (qf6 h fun j hj=>hq j (.tail _ hj))
theorem qlC{α:Type}{d:α}{xs:List α}{p:Array Nat}(a:Ar xs.length p):(p.toList.map fun i=>xs.getD i d).Perm xs:=by
 have e:(List.range xs.length).map (fun i=>xs.getD i d)=xs:=by
  apply List.ext_getElem
  · simp
  · intro i h1 h2;simp[h2]
 exact(a.pm.map _).trans (List.Perm.of_eq e)
theorem qih{rows:List TK}{p:Array Nat}(a:Ar rows.length p)(s:SU (qvz rows) p rows.length):(p.toList.map fun i=>rows.getD i [])=qeJ rows:=by
 refine qi4 (qlC a) (List.pairwise_iff_getElem.mpr fun i j hi hj hij=>?_)
 have hj':j<p.size:=by simpa using hj
 have:=s i j (waU hij) (by rw[<-a.sz];exact hj')
 unfold ky qvz at this;unfold leT;rw[Bool.not_eq_true'];simp only[List.getElem_map,Array.getElem_toList];have e1:p.getD i 0=p[i]'(by omega):=by simp[Array.getD,show i<p.size by omega]
 have e2:p.getD j 0=p[j]:=by simp[Array.getD,hj']
 rw[e1,e2]at this;exact this
theorem qi7{X:Cx}{pins:List (Addr×Obj)}{σ:L2.St}{H:Hp}{s:Shared}(I:Inv X pins σ H s):∀ {xs:List RV} {rows:List TK} {ws:List V} {vs:List Value},rowsOf xs=some rows->Reps X.K H xs ws->Vals ws vs->RowsR X.prog X.w s.heap rows vs
 | [],rows,ws,vs,e,r,v=>by
  cases e;simp only[Reps]at r;subst r;cases v;exact trivial
 |x::xs,rows,ws,vs,e,r,v=>by
  unfold rowsOf at e;split at e
  · rename_i k ks e1 e2
    cases e;obtain⟨y,t,rfl,h1,h2⟩:=(by simpa only[Reps]using r:∃ v r,ws=v::r/\Rep X.K H x v/\Reps X.K H xs r)
    cases v with
    |cons a b=>
    refine⟨?_,qi7 I e2 h2 b⟩;cases x<;>first|(cases e1;done)|skip
    rename_i rs;simp only[Rep]at h1;obtain⟨p,us,rfl,hp,hr⟩:=h1;obtain⟨its,hv,ht,hz⟩:=I.tuple (SqT.of hp);exact⟨p,its.toArray,a,ht,by simpa using qjf e1 hr hv⟩
  · cases e
end
def qq9(xs:List RV)(M:RM)(Q:RVK):Prop:=match rowsOf xs with
 |some rows=>rows.length<64/\qca rows=true/\Q (.ls ((qeJ rows).map qaD)) M
 |none=>False
noncomputable def qgK:List RV->RM->RVK->Prop:=fun rs M Q=>match rs with
 | [.ref a]=>match M a with
  |some (.lst xs)=>qq9 xs M Q
  |_=>qpa rs M Q
 | [.ls xs]=>qq9 xs M Q
 |_=>False
section
variable {X:Cx}
theorem qkV{pins:List (Addr×Obj)}{s:Shared}{σ:L2.St}{H:Hp}{l:Addr}{xs:List RV}{ws:List V}{vs:List Value}{M:RM}{Q:RVK}{Q0:VK}(I:Inv X pins σ H s)(hv:View X.K H M)(hl:s.heap.IsList l vs.toArray)(hw:Vals ws vs)(hr:Reps X.K H xs ws)(hq:qq9 xs M Q)(hk:UpK X.K H Q Q0):
 wpAny (model X.prog X.w) X.A (call (.builtin "sorted") [.ref l]) (EP X pins σ Q0) X.xe s:=by
 unfold qq9 at hq;split at hq
 · rename_i rows er
   obtain⟨h64,hok,hq⟩:=hq;have rr:=qi7 I er hr hw;have ln:=rr.len;have ex:=qe3 er;have l1:xs.length=rows.length:=by rw[ex,wab]
   have l2:ws.length=vs.length:=hw.length;refine qhQ (f:=qvz rows) hl (by rw[<-ln];exact h64) (fun h2 a g ha kp=>qm4 (s:={ s with heap:=g }) ha kp rr hok h2) fun B h' e p kp hB hget ar su=>?_
   rw[<-ln]at ar su;have hn:=none_of I hB;have inr:∀ i∈p.toList,i<rows.length:=fun i hi=>wa1.mp (ar.pm.mem_iff.mp hi)
   have zz:rows.length<=sizeLine:=wal (waU h64) (by decide)
   have fin:(p.toList.map fun i=>xs.getD i (qaD []))=(qeJ rows).map qaD:=by
    rw[<-qih ar su,wah,ex];refine waE fun i hi=>?_
    have:=inr i hi;simp[this]
   refine frozen ⟨.ref B,upd H B (.lst (p.toList.map fun i=>ws.getD i V.non)),quf (t':=s.toks) I kp hB ⟨by rw[wab,Array.length_toList,ar.sz];exact zz,qpn vs p,e,qf6 hw fun i hi=>?_,hget⟩,rfl,H,B,_,rfl,hn,rfl,fun o=>?_⟩
   · rw[l2,<-ln];exact inr i hi
   · rw[<-fin]at hq
     exact hk _ M _ _ hq (Ext.new hn) (hv.new hn) (qcb hn (qgv hr fun i hi=>by rw[l1];exact inr i hi))
 · exact hq.elim
theorem qu0(hc:X.calm=true):CallR X (.builtin "sorted") (upC X.K qgK):=by
 intro pins s σ H xs us Q0 I rl h;obtain⟨rs,M,Q,rr,hv,hq,hk⟩:=h;unfold qgK at hq;split at hq
 · rename_i a
   split at hq
   · rename_i ys em
     simp only[Reps,Rep]at rr;obtain⟨v,r,rfl,rfl,rfl⟩:=rr;obtain⟨u,rfl,ru⟩:=vals1 rl;cases ru;obtain⟨ho,eo,ws,rfl,hg⟩:=hv a _ em;obtain⟨its,hw,⟨o,n,g1,g2,g3,g4⟩,hz⟩:=I.list (.inl (.inl eo));exact qkV I hv ⟨o,g1,g2,n,g4⟩ hw hg hq hk
   · exact qoI hc pins s σ H xs us Q0 I rl ⟨_,M,Q,rr,hv,hq,hk⟩
 · rename_i ys
   simp only[Reps,Rep]at rr;obtain⟨v,r,rfl,⟨a,ws,rfl,hf,hg⟩,rfl⟩:=rr;obtain⟨u,rfl,ru⟩:=vals1 rl;cases ru;obtain⟨its,hw,⟨o,n,g1,g2,g3,g4⟩,hz⟩:=I.list hf.sq;exact qkV I hv ⟨o,g1,g2,n,g4⟩ hw hg hq hk
 · exact hq.elim
end
inductive T where
 |v (i:Nat)|i (n:Int)|s (x:Str)|b (x:Bool)|n
 |g (x:Str)|ty (x:String)
 |op (o:Operator) (a b:T)|cm (o:CmpOp) (a b:T)|ch (o p:CmpOp) (a b c:T)
 |an (a b:T)|or (a b:T)|no (a:T)|ie (t a b:T)
 |tu (a:T)|ll (a:T)|lm (a:T)|e0|ec (a r:T)
 |ix (a b:T)|sl (a l h:T)|p0|p1 (a:T)
 |fl (c:Nat) (f:Str) (a:T)
 |ca (f:Nat) (a:T)|me (f:Nat) (o a:T)|mk (c:Nat) (a:T)
 |bf (f:Str) (a:T)|bt (f:Str) (a:T)
 |ap (o a:T)
 |dg (d k:T)|dn (neg:Bool) (k d:T)|d1 (d k:T)|dk|dt
 |ic (neg:Bool) (a:T) (x:Str)
 |tx (x:Str) (a:T)|tn (x:Str) (a:T)
 |cv (i:Nat) (a:T)
 |di (l:List (Str×Int)) (a:T)
 |cp (md tup:Bool) (nm:List Str) (cap:List (Nat×Str)) (it t e:T)
 |sc (i:Nat) (md tup:Bool) (nm:List Str) (cap:List (Nat×Str)) (it t e:T)
 |lr (a b:T)
 |ik (a:T)|im (a:T)|lv (md:Bool) (a:T)
 |pr (i j:Nat) (a:T)|wh (t b:T)|dd (d k:T)
 |is (a:T)|r1 (a:T)|r2 (a b:T)|st (a:T)
 |set (i:Nat) (a:T)|un (is:List Nat) (a:T)|sf (c:Nat) (f:Str) (o a:T)|dp (d k a:T)|sp (l i a:T)
 |re (a:T)|if_ (t a b:T)|fo (tup:Bool) (is:List Nat) (it b:T)|ex (a:T)|ra
 |se (a b:T)|en
structure FD where
 kind:Nat
 cls:Nat
 name:Str
 ps:List Str
 N:List Str
 body:T
structure SI where
 gi:List (Str×Int)
 gt:List (Str×List Str)
 tb:List Str
 tt:List (Str×List (TK×Str))
 cl:List Str
 fs:List (Nat×Str)
 bl:List Str
 fd:List FD
structure G where
 S:SI
 tb:Str->List (Key×RV)
 C:Nat->Addr
 fn:Nat->RSp
 ini:Nat->RSp
 cvs:List (Addr×RSp)
def opR:Operator->RR2
 | .Add=>qAJ| .Sub=>qAo| .Mult=>qAx| .Mod=>qAy| .FloorDiv=>qAH| .Pow=>qAr
 |_=>fun _ _ _ _=>False
noncomputable def cmR:CmpOp->RR2
 | .Lt=>rLt| .LtE=>rLe| .Gt=>rGt| .GtE=>rGe| .Eq=>qAG| .NotEq=>qAw| .Is=>rIs| .IsNot=>qpd| .In=>qvE false| .NotIn=>qvE true
noncomputable def isT:String->RV->Option Bool:=fun x=>if x= "int" then qpC else if x= "bool" then is_bool else if x= "str" then qpB else if x= "tuple" then qjq else if x= "list" then qmf else fun _=>none
noncomputable def qwW:List RV->RM->RVK->Prop:=fun rs M Q=>match rs with
 | [.ref a,.ty "list"]=>match M a with|some (.lst _)=>Q (.bl true) M|_=>False
 | [x,.ty t]=>match isT t x with|some c=>Q (.bl c) M|none=>False
 |_=>False
noncomputable def qlu:List RV->RM->RVK->Prop:=fun rs M Q=>match rs with
 | [.ref a]=>match M a with
  |some (.lst xs)=>Q (.int xs.length) M
  |some (.dk kvs)=>Q (.int kvs.length) M
  |_=>False
 |rs=>qvC rs M Q
noncomputable def bfR (f:Str):List RV->RM->RVK->Prop:=
 if f= "len" then qlu else if f= "isinstance" then qwW else if f= "all" then qAI else if f= "max" then qtk else if f= "sorted" then qgK else if f= "ord" then qAt else fun _ _ _=>False
def btR(f:Str):List RV->RM->RVK->Prop:=
 if f= "tuple" then qlr else if f= "list" then qqu else fun _ _ _=>False
noncomputable def kFl (C:Addr)(f:Str)(Q:RVK):RVK:=fun x M=>match x with
 | .ref a=>match M a with
  |some (.ins C' fs)=>C'=C/\match fs.lookup f with
   |some v=>Q v M
   |none=>False
  |_=>False
 |_=>False
def uFl(C:Addr)(f:Str)(ta:RTE):RTE:=fun σ M Q=>ta σ M (kFl C f Q)
noncomputable def kSf (C:Addr)(f:Str)(y:RV)(N:RM->Prop):RVK:=fun x M=>match x with
 | .ref a=>match M a with
  |some (.ins C' fs)=>C'=C/\fs.length<1000/\N (put M a (.ins C (qgM f y fs)))
  |_=>False
 |_=>False
def uSf(C:Addr)(f:Str)(ta tv:RTE):RTS:=fun D σ M=>tv σ M fun y M1=>ta σ M1 (kSf C f y (D.nx σ))
noncomputable def kMe (C:Addr)(m:Str)(sp:RSp)(t:RTA)(σ:RSt)(Q:RVK):RVK:=fun x M=>match x with
 | .ref a=>match M a with
  |some (.ins C' fs)=>C'=C/\fs.lookup m=none/\t σ M fun rs M2=>sp (.ref a::rs) M2 Q
  |_=>False
 |_=>False
def uMe(C:Addr)(m:Str)(sp:RSp)(ta:RTE)(t:RTA):RTE:=fun σ M Q=>ta σ M (kMe C m sp t σ Q)
def qbT:RTE:=fun _ _ _=>False
structure Sm where
 E:RTE:=fun _ _ _=>False
 T:RTT:=fun _ _ _=>False
 A:RTA:=fun _ _ _=>False
 I:RTI:=fun _ _ _=>False
 P:RTO:=fun _ _ _=>False
 S:RTS:=fun _ _ _=>False
def ex(e:RTE):Sm:={ E:=e,T:=qfA e }
def FD.qn(d:FD):Str:=d.name
noncomputable def tr (Γ:G):T->Sm
 | .v i=>ex (qqt i)
 | .i n=>ex (rC (.int n))
 | .s x=>ex (rC (.str x))
 | .b x=>ex (rC (.bl x))
 | .n=>ex (rC .non)
 | .g x=>ex (match Γ.S.gi.lookup x with|some i=>rC (.int i)|none=>qbT)
 | .ty x=>ex (rC (.ty x))
 | .op o a b=>ex (rOp (opR o) (tr Γ a).E (tr Γ b).E)
 | .cm o a b=>ex (rOp (cmR o) (tr Γ a).E (tr Γ b).E)
 | .ch o p a b c=>ex (qe8 (cmR o) (cmR p) (tr Γ a).E (tr Γ b).E (tr Γ c).E)
 | .an a b=>{ E:=qnR (tr Γ a).E (tr Γ b).E,T:=qvH (tr Γ a).T (tr Γ b).T }
 | .or a b=>{ E:=qvB (tr Γ a).E (tr Γ b).E,T:=rOr (tr Γ a).T (tr Γ b).T }
 | .no a=>{ E:=qti (tr Γ a).E,T:=qAu (tr Γ a).T }
 | .ie t a b=>ex (rIf (tr Γ t).T (tr Γ a).E (tr Γ b).E)
 | .tu a=>ex (qAn (tr Γ a).A)
 | .ll a=>ex (qAA (tr Γ a).A)
 | .lm a=>ex (qAz (tr Γ a).A)
 | .e0=>{ A:=qnq }
 | .ec a r=>{ A:=qgL (tr Γ a).E (tr Γ r).A }
 | .ix a b=>ex (rOp rIx (tr Γ a).E (tr Γ b).E)
 | .sl a l h=>ex (rSl (tr Γ a).E (tr Γ l).P (tr Γ h).P)
 | .p0=>{ P:=qAv }
 | .p1 a=>{ P:=qth (tr Γ a).E }
 | .fl c f a=>ex (uFl (Γ.C c) f (tr Γ a).E)
 | .ca f a=>ex (qeP (Γ.fn f) (tr Γ a).A)
 | .me f o a=>ex (match Γ.S.fd[f]? with|some d=>uMe (Γ.C d.cls) d.name (Γ.fn f) (tr Γ o).E (tr Γ a).A|none=>qbT)
 | .mk f a=>ex (match Γ.S.fd[f]? with|some d=>qj1 (Γ.C d.cls) (Γ.ini f) (tr Γ a).A|none=>qbT)
 | .bf f a=>ex (qeP (bfR f) (tr Γ a).A)
 | .bt f a=>ex (qeP (btR f) (tr Γ a).A)
 | .ap o a=>ex (qvG (tr Γ o).E (tr Γ a).A)
 | .dg d k=>ex (qsu (tr Γ d).E (tr Γ k).E)
 | .dn neg k d=>ex (qsb neg (tr Γ k).E (tr Γ d).E)
 | .d1 d k=>ex (qo3 (tr Γ d).E (tr Γ k).E)
 | .dk=>ex qtp
 | .dt=>ex qpe
 | .ic neg a x=>ex (match Γ.S.gt.lookup x with|some ss=>qsf neg ss (tr Γ a).E|none=>qbT)
 | .tx x a=>ex (qvA (Γ.tb x) (tr Γ a).E)
 | .tn x a=>ex (qfB (Γ.tb x) (tr Γ a).E)
 | .cv i a=>ex (qpf Γ.cvs (qqt i) (tr Γ a).A)
 | .di l a=>ex (qfD (kvI l) (tr Γ a).E)
 | .cp md tup nm cap it t e=>ex (qe7 (qhF tup nm.length) md (tr Γ it).I (cap.map Prod.fst) (tr Γ t).T (tr Γ e).E)
 | .sc i md tup nm cap it t e=>{ S:=qtg i (qe7 (qhF tup nm.length) md (tr Γ it).I (cap.map Prod.fst) (tr Γ t).T (tr Γ e).E) }
 | .lr a b=>ex (qpc (tr Γ a).E (tr Γ b).E)
 | .ik a=>{ I:=qAF true (tr Γ a).E }
 | .im a=>{ I:=qAE (tr Γ a).E }
 | .lv md a=>ex (rLv md (tr Γ a).E)
 | .pr i j a=>{ S:=qAs i j (tr Γ a).A }
 | .wh t b=>{ S:=qlq (tr Γ t).T (tr Γ b).S }
 | .dd d k=>{ S:=qpb (tr Γ d).E (tr Γ k).E }
 | .is a=>{ I:=qAC (tr Γ a).E }
 | .r1 a=>{ I:=qAD (tr Γ a).E }
 | .r2 a b=>{ I:=qtl (tr Γ a).E (tr Γ b).E }
 | .st a=>{ I:=qAB (tr Γ a).E }
 | .set i a=>{ S:=qtg i (tr Γ a).E }
 | .un is a=>{ S:=qwY (tr Γ a).E (rgU is) }
 | .sf c f o a=>{ S:=uSf (Γ.C c) f (tr Γ o).E (tr Γ a).E }
 | .dp d k a=>{ S:=qo2 (tr Γ d).E (tr Γ k).E (tr Γ a).E }
 | .sp l i a=>{ S:=qwY (tr Γ a).E (qsV (tr Γ l).E (tr Γ i).E qif) }
 | .re a=>{ S:=qAq (tr Γ a).E }
 | .if_ t a b=>{ S:=qvF (tr Γ t).T (tr Γ a).S (tr Γ b).S }
 | .fo tup is it b=>{ S:=qtn (tr Γ it).I (match tup,is with|true,is=>rgU is|false,[i]=>rgN i|_,_=>fun _ _ _ _=>False) (tr Γ b).S }
 | .ex a=>{ S:=qto (tr Γ a).E }
 | .ra=>{ S:=fun _ _ _=>False }
 | .se a b=>{ S:=qAp (tr Γ a).S (tr Γ b).S }
 | .en=>{ S:=qtj }
inductive Nd where
 |e (x:Expr)|t (x:Expr)|a (xs:List Expr)|i (tg x:Expr)|p (x:Option Expr)|s (x:Stmt)|b (xs:List Stmt)
def glb(sc:Scope)(x:Str):Bool:=sc.names.lookup x==some .globalImplicit&& !(x==("__debug__":Str))
noncomputable def qnw (tup:Bool)(tg:Expr)(nm:List Str):Bool:=match tup,tg with
 |false,.Name x _=>nm==[x]
 |true,.Tuple es _ _=>qga es==some nm
 |_,_=>false
def qcw(N:List Str):List Nat->List Expr->Bool
 | [],[]=>true
 |i::is,.Name x _::es=>(N[i]? ==some x)&&qcw N is es
 |_,_=>false
def loc(sc:Scope)(x:Str):Bool:=sc.names.lookup x==some .local||sc.names.lookup x==some .cell
def cf(sc:Scope)(x:Str):Bool:=sc.names.lookup x==some .cell||sc.names.lookup x==some .free
def dbg(x:Str):Bool:=!(x==("__debug__":Str))&& !(x==("__classdict__":Str))
noncomputable def qsd (N:List Str)(sc scope:Scope)(nm:List Str)(cap:List (Nat×Str)):Bool:=
 cap.all (fun p=>(N[p.1]? ==some p.2)&&(scope.names.lookup p.2==some .free)&&cf sc p.2)&&scope.names.all (fun y=>y.2 != .free||cf sc y.1)&&scope.names.all (fun y=>y.2 != .cell)&&scope.kind== .function&&
 scope.names.all (fun y=>y.2 != .local||scope.names.lookup y.1==some .local)&&nm.all (fun x=>scope.names.lookup x==some .local)&&decide (nm++cap.map Prod.snd).Nodup&&(nm++cap.map Prod.snd).all dbg
noncomputable def quh:List (Str×Int)->List (Option Expr)->List Expr->Bool
 | [],[],[]=>true
 |(x,n)::l,some (.Constant (.str y) _ _)::ks,.Constant (.int m) _ _::vs=>(x==y)&&(n==m)&&quh l ks vs
 |_,_,_=>false
def bfN:List Str:=["len","isinstance","all","max","sorted","ord"]
def btN:List Str:=["tuple","list"]
def nLn(ap p:Pos):Bool:=ap.endLine==p.line
def qrn(t:T):Bool:=if h:t.ctorIdx=3 then T.b.elim t h id else false
@[elab_as_elim] theorem qks {α:Type} [BEq α] [LawfulBEq α] {z c:α} {b:Bool} {C:α->Prop} (h:((z==c)&&b)=true) (k:b=true->C c):C z:=by
 rw[waa,beq_iff_eq]at h;rw[h.1];exact k h.2
theorem qhG{a b:Bool}(h:(a&&b)=true):a=true/\b=true:=by rwa [waa]at h
theorem di{c:Prop}[Decidable c]{t:c->Bool}{C:Prop}(h:(if h:c then t h else false)=true)(k:c->(if h:c then t h else false)=true->C):C:=
 if i:c then k i h else by rw[dif_neg i]at h;cases h
def dN(e:Expr)(f:Str->Pos->Bool):Bool:=if h:e.ctorIdx=23 then Expr.Name.elim e h f else false
@[elab_as_elim] theorem qda {e f} {C:Expr->Prop} (h:dN e f=true) (k:∀ a b,f a b=true->C (.Name a b)):C e:=di h fun i=>Expr.Name.elim e i k
def dK(e:Expr)(f:Const->Nat->Pos->Bool):Bool:=if h:e.ctorIdx=19 then Expr.Constant.elim e h f else false
@[elab_as_elim] theorem qoH {e f} {C:Expr->Prop} (h:dK e f=true) (k:∀ a b c,f a b c=true->C (.Constant a b c)):C e:=di h fun i=>Expr.Constant.elim e i k
def dB(e:Expr)(f:Expr->Operator->Expr->Pos->Bool):Bool:=if h:e.ctorIdx=2 then Expr.BinOp.elim e h f else false
@[elab_as_elim] theorem qxY {e f} {C:Expr->Prop} (h:dB e f=true) (k:∀ a b c d,f a b c d=true->C (.BinOp a b c d)):C e:=di h fun i=>Expr.BinOp.elim e i k
def dC(e:Expr)(f:Expr->List CmpOp->List Expr->Pos->Bool):Bool:=if h:e.ctorIdx=15 then Expr.Compare.elim e h f else false
@[elab_as_elim] theorem quY {e f} {C:Expr->Prop} (h:dC e f=true) (k:∀ a b c d,f a b c d=true->C (.Compare a b c d)):C e:=di h fun i=>Expr.Compare.elim e i k
def dQ(e:Expr)(f:BoolOp->List Expr->Pos->Bool):Bool:=if h:e.ctorIdx=0 then Expr.BoolOp.elim e h f else false
@[elab_as_elim] theorem qoG {e f} {C:Expr->Prop} (h:dQ e f=true) (k:∀ a b c,f a b c=true->C (.BoolOp a b c)):C e:=di h fun i=>Expr.BoolOp.elim e i k
def dU(e:Expr)(f:UnaryOp->Expr->Pos->Bool):Bool:=if h:e.ctorIdx=3 then Expr.UnaryOp.elim e h f else false
@[elab_as_elim] theorem quT {e f} {C:Expr->Prop} (h:dU e f=true) (k:∀ a b c,f a b c=true->C (.UnaryOp a b c)):C e:=di h fun i=>Expr.UnaryOp.elim e i k
def dI(e:Expr)(f:Expr->Expr->Expr->Pos->Bool):Bool:=if h:e.ctorIdx=5 then Expr.IfExp.elim e h f else false
@[elab_as_elim] theorem qxX {e f} {C:Expr->Prop} (h:dI e f=true) (k:∀ a b c d,f a b c d=true->C (.IfExp a b c d)):C e:=di h fun i=>Expr.IfExp.elim e i k
def dT(e:Expr)(f:List Expr->Nat->Pos->Bool):Bool:=if h:e.ctorIdx=25 then Expr.Tuple.elim e h f else false
@[elab_as_elim] theorem qmS {e f} {C:Expr->Prop} (h:dT e f=true) (k:∀ a b c,f a b c=true->C (.Tuple a b c)):C e:=di h fun i=>Expr.Tuple.elim e i k
def dL(e:Expr)(f:List Expr->Pos->Bool):Bool:=if h:e.ctorIdx=24 then Expr.List.elim e h f else false
@[elab_as_elim] theorem quV {e f} {C:Expr->Prop} (h:dL e f=true) (k:∀ a b,f a b=true->C (.List a b)):C e:=di h fun i=>Expr.List.elim e i k
def dS(e:Expr)(f:Expr->Expr->Pos->Bool):Bool:=if h:e.ctorIdx=21 then Expr.Subscript.elim e h f else false
@[elab_as_elim] theorem qhs {e f} {C:Expr->Prop} (h:dS e f=true) (k:∀ a b c,f a b c=true->C (.Subscript a b c)):C e:=di h fun i=>Expr.Subscript.elim e i k
def dX(e:Expr)(f:Option Expr->Option Expr->Option Expr->Pos->Bool):Bool:=if h:e.ctorIdx=26 then Expr.Slice.elim e h f else false
@[elab_as_elim] theorem qxW {e f} {C:Expr->Prop} (h:dX e f=true) (k:∀ a b c d,f a b c d=true->C (.Slice a b c d)):C e:=di h fun i=>Expr.Slice.elim e i k
def dA(e:Expr)(f:Expr->Str->Pos->Bool):Bool:=if h:e.ctorIdx=20 then Expr.Attribute.elim e h f else false
@[elab_as_elim] theorem qrN {e f} {C:Expr->Prop} (h:dA e f=true) (k:∀ a b c,f a b c=true->C (.Attribute a b c)):C e:=di h fun i=>Expr.Attribute.elim e i k
def dF(e:Expr)(f:Expr->List Expr->List Keyword->Pos->Bool):Bool:=if h:e.ctorIdx=16 then Expr.Call.elim e h f else false
@[elab_as_elim] theorem quX {e f} {C:Expr->Prop} (h:dF e f=true) (k:∀ a b c d,f a b c d=true->C (.Call a b c d)):C e:=di h fun i=>Expr.Call.elim e i k
def dD(e:Expr)(f:List (Option Expr)->List Expr->Pos->Bool):Bool:=if h:e.ctorIdx=6 then Expr.Dict.elim e h f else false
@[elab_as_elim] theorem qrM {e f} {C:Expr->Prop} (h:dD e f=true) (k:∀ a b c,f a b c=true->C (.Dict a b c)):C e:=di h fun i=>Expr.Dict.elim e i k
def dG(e:Expr)(f:Expr->List Comprehension->Scope->Pos->Bool):Bool:=if h:e.ctorIdx=8 then Expr.ListComp.elim e h f else false
@[elab_as_elim] theorem quW {e f} {C:Expr->Prop} (h:dG e f=true) (k:∀ a b c d,f a b c d=true->C (.ListComp a b c d)):C e:=di h fun i=>Expr.ListComp.elim e i k
def tA(e:Stmt)(f:List Expr->Expr->Pos->Bool):Bool:=if h:e.ctorIdx=5 then Stmt.Assign.elim e h f else false
@[elab_as_elim] theorem qwd {e f} {C:Stmt->Prop} (h:tA e f=true) (k:∀ a b c,f a b c=true->C (.Assign a b c)):C e:=di h fun i=>Stmt.Assign.elim e i k
def tW(e:Stmt)(f:Expr->List Stmt->List Stmt->Pos->Bool):Bool:=if h:e.ctorIdx=11 then Stmt.While.elim e h f else false
@[elab_as_elim] theorem qvZ {e f} {C:Stmt->Prop} (h:tW e f=true) (k:∀ a b c d,f a b c d=true->C (.While a b c d)):C e:=di h fun i=>Stmt.While.elim e i k
def tD(e:Stmt)(f:List Expr->Pos->Bool):Bool:=if h:e.ctorIdx=4 then Stmt.Delete.elim e h f else false
@[elab_as_elim] theorem qv9 {e f} {C:Stmt->Prop} (h:tD e f=true) (k:∀ a b,f a b=true->C (.Delete a b)):C e:=di h fun i=>Stmt.Delete.elim e i k
def tR(e:Stmt)(f:Option Expr->Pos->Bool):Bool:=if h:e.ctorIdx=3 then Stmt.Return.elim e h f else false
@[elab_as_elim] theorem qv0 {e f} {C:Stmt->Prop} (h:tR e f=true) (k:∀ a b,f a b=true->C (.Return a b)):C e:=di h fun i=>Stmt.Return.elim e i k
def tI(e:Stmt)(f:Expr->List Stmt->List Stmt->Pos->Bool):Bool:=if h:e.ctorIdx=12 then Stmt.If.elim e h f else false
@[elab_as_elim] theorem qv4 {e f} {C:Stmt->Prop} (h:tI e f=true) (k:∀ a b c d,f a b c d=true->C (.If a b c d)):C e:=di h fun i=>Stmt.If.elim e i k
def tF(e:Stmt)(f:Expr->Expr->List Stmt->List Stmt->Pos->Bool):Bool:=if h:e.ctorIdx=9 then Stmt.For.elim e h f else false
@[elab_as_elim] theorem qv5 {e f} {C:Stmt->Prop} (h:tF e f=true) (k:∀ a b c d g,f a b c d g=true->C (.For a b c d g)):C e:=di h fun i=>Stmt.For.elim e i k
def tE(e:Stmt)(f:Expr->Pos->Bool):Bool:=if h:e.ctorIdx=24 then Stmt.Expr.elim e h f else false
@[elab_as_elim] theorem qv6 {e f} {C:Stmt->Prop} (h:tE e f=true) (k:∀ a b,f a b=true->C (.Expr a b)):C e:=di h fun i=>Stmt.Expr.elim e i k
section
variable {α:Type}{xs:List α}{b:Bool}{x:Option α}{e:Expr}{s:Stmt}
def l0(xs:List α)(b:Bool):Bool:=match xs with| []=>b|_=>false
def lc(xs:List α)(f:α->List α->Bool):Bool:=match xs with|x::r=>f x r|_=>false
def l1(xs:List α)(f:α->Bool):Bool:=lc xs fun x r=>l0 r (f x)
def l2(xs:List α)(f:α->α->Bool):Bool:=lc xs fun x r=>l1 r (f x)
def o0(x:Option α)(b:Bool):Bool:=match x with|none=>b|_=>false
def o1(x:Option α)(f:α->Bool):Bool:=match x with|some y=>f y|_=>false
variable {C:List α->Prop}{D:Option α->Prop}{E:Expr->Prop}{F:Stmt->Prop}
@[elab_as_elim] theorem qc6 (h:l0 xs b=true) (k:b=true->C []):C xs:=by cases xs<;>first|exact k h|cases h
@[elab_as_elim] theorem qdE {f} (h:lc xs f=true) (k:∀ x r,f x r=true->C (x::r)):C xs:=by cases xs<;>first|exact k _ _ h|cases h
@[elab_as_elim] theorem qc5 {f} (h:l1 xs f=true) (k:∀ y,f y=true->C [y]):C xs:=qdE h fun y _ h=>qc6 h (k y)
@[elab_as_elim] theorem qka {f} (h:l2 xs f=true) (k:∀ y z,f y z=true->C [y,z]):C xs:=qdE h fun y _ h=>qc5 h (k y)
@[elab_as_elim] theorem qt4 (h:o0 x b=true) (k:b=true->D none):D x:=by cases x<;>first|exact k h|cases h
@[elab_as_elim] theorem qt3 {f} (h:o1 x f=true) (k:∀ y,f y=true->D (some y)):D x:=by cases x<;>first|exact k _ h|cases h
def dFN(e:Expr)(f:Str->Pos->List Expr->Pos->Bool):Bool:=dF e fun g es ks p=>dN g fun x q=>l0 ks (f x q es p)
@[elab_as_elim] theorem qcc {f} (h:dFN e f=true) (k:∀ x q es p,f x q es p=true->E (.Call (.Name x q) es [] p)):E e:=quX h fun _ es _ p h=>qda h fun x q h=>qc6 h (k x q es p)
def dFA(e:Expr)(f:Expr->Str->Pos->List Expr->Pos->Bool):Bool:=dF e fun g es ks p=>dA g fun x m q=>l0 ks (f x m q es p)
@[elab_as_elim] theorem qht {f} (h:dFA e f=true) (k:∀ x m q es p,f x m q es p=true->E (.Call (.Attribute x m q) es [] p)):E e:=quX h fun _ es _ p h=>qrN h fun x m q h=>qc6 h (k x m q es p)
def dC1(e:Expr)(f:Expr->CmpOp->Expr->Pos->Bool):Bool:=dC e fun x os ys p=>l1 os fun o=>l1 ys fun y=>f x o y p
@[elab_as_elim] theorem qhu {f} (h:dC1 e f=true) (k:∀ x o y p,f x o y p=true->E (.Compare x [o] [y] p)):E e:=quY h fun x _ _ p h=>qc5 h fun o h=>qc5 h fun y=>k x o y p
def tA1(s:Stmt)(f:Expr->Expr->Pos->Bool):Bool:=tA s fun z v p=>l1 z fun t=>f t v p
@[elab_as_elim] theorem qdX {f} (h:tA1 s f=true) (k:∀ t v p,f t v p=true->F (.Assign [t] v p)):F s:=qwd h fun _ v p h=>qc5 h fun t=>k t v p
end
def okE(e:Expr):Bool:=!([22,7,26,9,10].contains e.ctorIdx)
def isC(e:Expr):Bool:=e.ctorIdx==8
def qro(e:Expr):Bool:=[0,5,15].contains e.ctorIdx||dU e fun o _ _=>o== .Not
def qdL(e:Expr):Bool:=dFN e fun _ _ es _=>es.isEmpty
def onE(nd:Nd)(f:Expr->Bool):Bool:=match nd with
 | .e x=>okE x&&f x
 | .t x=>!qro x&&f x
 |_=>false
def onC(nd:Nd)(f:Expr->Bool):Bool:=match nd with
 | .e x=>okE x&&f x
 | .t x=>f x
 |_=>false
def onS(nd:Nd)(f:Stmt->Bool):Bool:=match nd with
 | .s x=>f x
 |_=>false
def onA(nd:Nd)(f:List Expr->Bool):Bool:=match nd with
 | .a x=>f x
 |_=>false
def onI(nd:Nd)(f:Expr->Expr->Bool):Bool:=match nd with
 | .i tg x=>f tg x
 |_=>false
def onP(nd:Nd)(f:Option Expr->Bool):Bool:=match nd with
 | .p x=>f x
 |_=>false
def onL(nd:Nd)(f:List Stmt->Bool):Bool:=match nd with
 | .b x=>f x
 |_=>false
def onT(nd:Nd)(f g:Expr->Bool):Bool:=match nd with
 | .e x=>okE x&&f x
 | .t x=>g x
 |_=>false
noncomputable def mt (S:SI)(fc:Bool)(N:List Str)(sc:Scope):T->Nd->Bool
 | .v i,nd=>onE nd fun y0=>dN y0 fun x _=>N[i]? ==some x
 | .i n,nd=>onE nd fun y0=>dK y0 fun z _ _=>z== .int n
 | .s x,nd=>onE nd fun y0=>dK y0 fun z _ _=>z== .str x
 | .b x,nd=>onE nd fun y0=>dK y0 fun z _ _=>z== .bool x
 | .n,nd=>onE nd fun y0=>dK y0 fun z _ _=>z== .none
 | .g x,nd=>onE nd fun y0=>dN y0 fun y _=>(x==y)&&(S.gi.lookup x).isSome&&glb sc x
 | .ty x,nd=>onE nd fun y0=>dN y0 fun y _=>(Str.ofString x==y)&&["int","bool","str","tuple","list"].contains x&&S.bl.contains y&&glb sc y
 | .op o a b,nd=>onE nd fun y0=>dB y0 fun x o' y _=>(o==o')&&mt S fc N sc a (.e x)&&mt S fc N sc b (.e y)
 | .cm o a b,nd=>onC nd fun y0=>dC1 y0 fun x o' y _=>(o==o')&&mt S fc N sc a (.e x)&&mt S fc N sc b (.e y)
 | .ch o p a b c,nd=>onC nd fun y0=>dC y0 fun x z1 z2 _=>l2 z1 fun o' p'=>l2 z2 fun y z=>(o==o')&&(p==p')&&mt S fc N sc a (.e x)&&mt S fc N sc b (.e y)&&mt S fc N sc c (.e z)
 | .dn neg k d,nd=>onC nd fun y0=>dC1 y0 fun x o' y _=>(o'==if neg then .NotIn else .In)&&mt S fc N sc k (.e x)&&mt S fc N sc d (.e y)
 | .an a b,nd=>onT nd (fun y0=>dQ y0 fun z1 z2 p=>(z1== .And)&&(lc z2 fun x z3=>lc z3 fun y r=>mt S fc N sc a (.e x)&&mt S fc N sc b (.e (if r.isEmpty then y else .BoolOp .And (y::r) p)))) (fun y0=>dQ y0 fun z1 z2 p=>(z1== .And)&&(lc z2 fun x z3=>lc z3 fun y r=>mt S fc N sc a (.t x)&&mt S fc N sc b (.t (if r.isEmpty then y else .BoolOp .And (y::r) p))))
 | .or a b,nd=>onT nd (fun y0=>dQ y0 fun z1 z2 p=>(z1== .Or)&&(lc z2 fun x z3=>lc z3 fun y r=>mt S fc N sc a (.e x)&&mt S fc N sc b (.e (if r.isEmpty then y else .BoolOp .Or (y::r) p)))) (fun y0=>dQ y0 fun z1 z2 p=>(z1== .Or)&&(lc z2 fun x z3=>lc z3 fun y r=>mt S fc N sc a (.t x)&&mt S fc N sc b (.t (if r.isEmpty then y else .BoolOp .Or (y::r) p))))
 | .no a,nd=>onT nd (fun y0=>dU y0 fun z1 x _=>(z1== .Not)&&(mt S fc N sc a (.e x))) (fun y0=>dU y0 fun z1 x _=>(z1== .Not)&&(mt S fc N sc a (.t x)))
 | .ie t a b,nd=>onE nd fun y0=>dI y0 fun x y z _=>mt S fc N sc t (.t x)&&mt S fc N sc a (.e y)&&mt S fc N sc b (.e z)
 | .tu a,nd=>onE nd fun y0=>dT y0 fun es _ _=>mt S fc N sc a (.a es)
 | .ll a,nd=>onE nd fun y0=>dL y0 fun es _=>mt S fc N sc a (.a es)
 | .lm a,nd=>onE nd fun y0=>dL y0 fun es _=>mt S fc N sc a (.a es)
 | .e0,nd=>onA nd fun y0=>l0 y0 <|true
 | .ec a r,nd=>onA nd fun y0=>lc y0 fun x xs=>mt S fc N sc a (.e x)&&mt S fc N sc r (.a xs)
 | .ix a b,nd=>onE nd fun y0=>dS y0 fun x y _=>mt S fc N sc a (.e x)&&mt S fc N sc b (.e y)
 | .sl a l h,nd=>onE nd fun y0=>dS y0 fun x z1 _=>dX z1 fun lo hi z2 _=>o0 z2 <|mt S fc N sc a (.e x)&&mt S fc N sc l (.p lo)&&mt S fc N sc h (.p hi)
 | .p0,nd=>onP nd fun y0=>o0 y0 <|true
 | .p1 a,nd=>onP nd fun y0=>o1 y0 fun x=>mt S fc N sc a (.e x)
 | .fl c f a,nd=>onE nd fun y0=>dA y0 fun x f' _=>(f==f')&&S.fs.contains (c,f)&& !qdL x&&mt S fc N sc a (.e x)
 | .ca f a,nd=>onE nd fun y0=>dFN y0 fun x _ es _=>(match S.fd[f]? with|some d=>d.kind==0&&d.name==x|none=>false)&&glb sc x&&mt S fc N sc a (.a es)
 | .me f o a,nd=>onE nd fun y0=>dFA y0 fun x m ap es p=>(match S.fd[f]? with|some d=>d.kind==1&&d.name==m|none=>false)&& !qdL x&&nLn ap p&&decide (es.length<29)&&mt S fc N sc o (.e x)&&mt S fc N sc a (.a es)
 | .mk f a,nd=>onE nd fun y0=>dFN y0 fun x _ es _=>(match S.fd[f]? with|some d=>d.kind==2&&S.cl[d.cls]? ==some x|none=>false)&&glb sc x&&mt S fc N sc a (.a es)
 | .bf f a,nd=>onE nd fun y0=>dFN y0 fun x _ es _=>(f==x)&&bfN.contains x&&S.bl.contains x&&glb sc x&& !es.isEmpty&&mt S fc N sc a (.a es)
 | .bt f a,nd=>onE nd fun y0=>dFN y0 fun x _ es _=>(f==x)&&btN.contains x&&S.bl.contains x&&glb sc x&& !es.isEmpty&&mt S fc N sc a (.a es)
 | .ap o a,nd=>onE nd fun y0=>dFA y0 fun x m ap z1 p=>l1 z1 fun y=>(m==("append":Str))&& !qdL x&&nLn ap p&&mt S fc N sc o (.e x)&&mt S fc N sc a (.a [y])
 | .dg d k,nd=>onE nd fun y0=>dS y0 fun x y _=>mt S fc N sc d (.e x)&&mt S fc N sc k (.e y)
 | .d1 d k,nd=>onE nd fun y0=>dFA y0 fun x m ap z1 p=>l1 z1 fun y=>(m==("get":Str))&& !qdL x&&nLn ap p&&mt S fc N sc d (.e x)&&mt S fc N sc k (.e y)
 | .dk,nd=>onE nd fun y0=>dD y0 fun z1 z2 _=>l0 z1 <|l0 z2 <|true
 | .dt,nd=>onE nd fun y0=>dD y0 fun z1 z2 _=>l0 z1 <|l0 z2 <|true
 | .ic neg a x,nd=>onC nd fun y0=>dC1 y0 fun y o z1 _=>dN z1 fun x' _=>(o==if neg then .NotIn else .In)&&(x==x')&&(S.gt.lookup x).isSome&&glb sc x&&mt S fc N sc a (.e y)
 | .tx x a,nd=>onE nd fun y0=>dS y0 fun z1 y _=>dN z1 fun x' _=>(x==x')&&S.tb.contains x&&glb sc x&&mt S fc N sc a (.e y)
 | .tn x a,nd=>onT nd (fun _=>false) fun y0=>dC1 y0 fun y o z1 _=>dN z1 fun x' _=>(o== .NotIn)&&(x==x')&&S.tb.contains x&&glb sc x&&mt S fc N sc a (.e y)
 | .cv i a,nd=>onE nd fun y0=>dFN y0 fun x _ es _=>(N[i]? ==some x)&& !es.isEmpty&&mt S fc N sc a (.a es)
 | .di l a,nd=>onE nd fun y0=>dS y0 fun z1 y _=>dD z1 fun ks vs _=>quh l ks vs&& !l.isEmpty&&decide (l.length<=15)&&decide (l.map Prod.fst).Nodup&&mt S fc N sc a (.e y)
 | .lr a b,nd=>onE nd fun y0=>dFN y0 fun x _ z1 _=>l1 z1 fun z2=>dFN z2 fun y _ z3 _=>l2 z3 fun z w=>(x==("list":Str))&&(y==("range":Str))&&S.bl.contains x&&S.bl.contains y&&glb sc x&&glb sc y&&mt S fc N sc a (.e z)&&mt S fc N sc b (.e w)
 | .cp _ tup nm cap it t e,nd=>onE nd fun y0=>dG y0 fun el z1 scope _=>l1 z1 fun z2=>match z2 with|⟨tg,ite,ifs,as⟩=>fc&&(as==0)&&qnw tup tg nm&&qsd N sc scope nm cap&&okE ite&&mt S fc N sc it (.i tg ite)&&mt S false (nm++cap.map Prod.snd) scope e (.e el)&&(match ifs with| []=>qrn t| [c]=>mt S false (nm++cap.map Prod.snd) scope t (.t c)|_=>false)
 | .ik a,nd=>onI nd fun _ x=>okE x&&mt S fc N sc a (.e x)
 | .im a,nd=>onI nd fun tg=>fun y0=>dFA y0 fun x m ap z1 p=>l0 z1 <|(tg.ctorIdx==25)&&(m==("items":Str))&& !qdL x&&nLn ap p&&mt S fc N sc a (.e x)
 | .lv _ a,nd=>onE nd fun y0=>dFN y0 fun y _ z1 _=>l1 z1 fun z2=>dFA z2 fun x m ap z3 p=>l0 z3 <|(y==("list":Str))&&(m==("values":Str))&&S.bl.contains y&&glb sc y&& !qdL x&&nLn ap p&&mt S fc N sc a (.e x)
 | .pr i j a,nd=>onS nd fun y0=>tA1 y0 fun z1 z2 _=>dT z1 fun z3 _ _=>l2 z3 fun z4 z5=>dN z4 fun x px=>dN z5 fun y py=>dT z2 fun z6 _ _=>l2 z6 fun u v=>fc&&(N[i]? ==some x)&&(N[j]? ==some y)&&(i != j)&&(sc.names.lookup x==some .local)&&(sc.names.lookup y==some .local)&&(py.line==px.line)&& !(y==x)&& !([u,v].all (foldedForSure 8))&& !([u,v].all (constantsAlone 8))&&mt S fc N sc a (.a [u,v])
 | .wh t b,nd=>onS nd fun y0=>tW y0 fun x y z1 _=>l0 z1 <|fc&&mt S fc N sc t (.t x)&&mt S fc N sc b (.b y)
 | .dd d k,nd=>onS nd fun y0=>tD y0 fun z1 _=>l1 z1 fun z2=>dS z2 fun x y _=>mt S fc N sc d (.e x)&&mt S fc N sc k (.e y)
 | .is a,nd=>onI nd fun _ x=>okE x&&mt S fc N sc a (.e x)
 | .st a,nd=>onI nd fun _ x=>okE x&&mt S fc N sc a (.e x)
 | .r1 a,nd=>onI nd fun _=>fun y0=>dFN y0 fun x _ z1 _=>l1 z1 fun y=>(x==("range":Str))&&S.bl.contains x&&glb sc x&&mt S fc N sc a (.e y)
 | .r2 a b,nd=>onI nd fun _=>fun y0=>dFN y0 fun x _ z1 _=>l2 z1 fun y z=>(x==("range":Str))&&S.bl.contains x&&glb sc x&&mt S fc N sc a (.e y)&&mt S fc N sc b (.e z)
 | .set i a,nd=>onS nd fun y0=>tA1 y0 fun z1 e _=>dN z1 fun x p=>fc&&(N[i]? ==some x)&&(!isC e||sc.names.lookup x==some .cell)&&mt S fc N sc a (.e e)
 | .sc i _ tup nm cap it t e,nd=>onS nd fun y0=>tA1 y0 fun z1 z2 _=>dN z1 fun x p=>dG z2 fun el z3 scope p2=>l1 z3 fun z4=>match z4 with|⟨tg,ite,ifs,as⟩=>fc&&(N[i]? ==some x)&&(sc.names.lookup x==some .local)&&(p.line==p2.line)&& !(scope.names.any fun y=>y.1==x&&(y.2== .local||y.2== .cell))&&(as==0)&&qnw tup tg nm&&qsd N sc scope nm cap&&okE ite&&mt S fc N sc it (.i tg ite)&&mt S false (nm++cap.map Prod.snd) scope e (.e el)&&(match ifs with| []=>qrn t| [c]=>mt S false (nm++cap.map Prod.snd) scope t (.t c)|_=>false)
 | .un is a,nd=>onS nd fun y0=>tA1 y0 fun z1 e _=>dT z1 fun es _ _=>fc&&qcw N is es&& !isC e&&(e.ctorIdx != 25)&&mt S fc N sc a (.e e)
 | .sf c f o a,nd=>onS nd fun y0=>tA1 y0 fun z1 e _=>dA z1 fun x f' _=>(f==f')&&S.fs.contains (c,f)&& !isC e&&mt S fc N sc o (.e x)&&mt S fc N sc a (.e e)
 | .dp d k a,nd=>onS nd fun y0=>tA1 y0 fun z1 e _=>dS z1 fun x y _=>!isC e&&mt S fc N sc d (.e x)&&mt S fc N sc k (.e y)&&mt S fc N sc a (.e e)
 | .sp l i a,nd=>onS nd fun y0=>tA1 y0 fun z1 e _=>dS z1 fun x y _=>!isC e&&mt S fc N sc l (.e x)&&mt S fc N sc i (.e y)&&mt S fc N sc a (.e e)
 | .re a,nd=>onS nd fun y0=>tR y0 fun z1 _=>o1 z1 fun e=>mt S fc N sc a (.e e)
 | .if_ t a b,nd=>onS nd fun y0=>tI y0 fun x y z _=>mt S fc N sc t (.t x)&&mt S fc N sc a (.b y)&&mt S fc N sc b (.b z)
 | .fo tup is it b,nd=>onS nd fun y0=>tF y0 fun tg x y z1 _=>l0 z1 <|fc&&okE x&&cond tup (dT tg fun es _ _=>qcw N is es) (dN tg fun z _=>l1 is fun i=>N[i]? ==some z)&&mt S fc N sc it (.i tg x)&&mt S fc N sc b (.b y)
 | .ex a,nd=>onS nd fun y0=>tE y0 fun e _=>!isC e&&mt S fc N sc a (.e e)
 | .ra,nd=>match nd with| .s _=>true| .b _=>true|_=>false
 | .se a b,nd=>onL nd fun y0=>lc y0 fun x y=>mt S fc N sc a (.s x)&&mt S fc N sc b (.b y)
 | .en,nd=>onL nd fun y0=>l0 y0 <|true
section
variable {S:SI}{fc:Bool}{N:List Str}{sc:Scope}
theorem qay{t:T}{x:Expr}(h:mt S fc N sc t (.e x)=true):okE x=true:=by
 cases t<;>first|exact(qhG h).1|exact absurd h wan
theorem qaT{e:Expr}{es:List Expr}{env:Env}(h:okE e=true):starEach (e::es) env=(false,eval e env)::starEach es env:=by
 cases e<;>first|rfl|cases h
theorem qfI{i:Expr}(h:okE i=true):∀ o v,subscripted i false o v=operate [o,v] (getItem o v):=by
 intro o v;cases i<;>first|rfl|cases h
theorem qbf{op:CmpOp}{e:Expr}(h:okE e=true):behindInMarks op e=false:=by
 cases e<;>first|rfl|cases h
theorem qfV{e:Expr}{env:Env}(h:okE e=true):∀ x,foldedSetIterable e env x=pure x:=by
 intro x;cases e<;>first|rfl|cases h
theorem qcT{e:Expr}{tg:Option Expr}{l:Nat}{env:Env}(h:okE e=true)(hc:isC e=false):swapsWith e tg l env=pure false:=by
 cases e<;>first|rfl|(cases hc;done)|(cases h;done)
theorem qdb{o:Expr}{m:Str}{env:Env}(h:qdL o=false):attributeBase o m env (eval o env)=eval o env:=by
 cases o<;>first|rfl|skip
 rename_i f as ks p;cases f<;>first|rfl|skip
 cases as<;>first|rfl|skip
 cases ks<;>first|rfl|cases h
theorem qp0{e:Expr}{env:Env}(h:qro e=false):∀ whole,isTrue e env whole=(do let v<-whole;standAt e.pos;holding [v] (truthy v)):=by
 intro w;cases e<;>first|rfl|cases h|skip
 rename_i o x p;cases o<;>first|rfl|cases h
theorem qbx:∀ {r:T} {xs:List Expr},mt S fc N sc r (.a xs)=true->xs.all okE=true
 |r,[],_=>rfl
 |r,x::xs,h=>by
  cases r<;>first|exact absurd h wan|skip
  have h:=qhG h;rw[wat,qay h.1,qbx h.2];rfl
theorem qdP{env:Env}:∀ {xs:List Expr},xs.all okE=true->starEach xs env=xs.map fun e=>(false,eval e env)
 | [],_=>rfl
 |x::xs,h=>by
  rw[wat,waa]at h;rw[qaT h.1,qdP h.2];rfl
theorem qb8{env:Env}{p:Pos}{xs:List Expr}(h:xs.all okE=true):(backTo p (starEach xs env)).any (·.1)=false:=by
 rw[qdP h];unfold backTo;simp
theorem qf3{env:Env}{p:Pos}{xs:List Expr}(h:xs.all okE=true):(backTo p (starEach xs env)).all (fun x=>!x.1)=true:=by
 rw[qdP h];unfold backTo;simp
theorem back_eq{env:Env}{p:Pos}{xs:List Expr}(h:xs.all okE=true):backTo p (starEach xs env)=xs.map fun e=>(false,eval e env):=by
 rw[qdP h];unfold backTo;simp[wah,Function.comp_def]
theorem qlT{o:Expr}{m:Str}{apos pos:Pos}{es:List Expr}{env:Env}(hb:qdL o=false)(ha:es.all okE=true)(hl:es.length<29)(hn:nLn apos pos=true):
 eval (.Call (.Attribute o m apos) es [] pos) env=(do
  let ov<-eval o env
  standAt apos.atName
  let(f,first) <-holding [ov] (getMethod ov m (do return (<-importBound o env).getD true))
  callWith pos f first (backTo pos (starEach es env)) (backToKw pos (keywordEach [] env))):=by
 have e1:eval (.Call (.Attribute o m apos) es [] pos) env=(do
  let ov<-attributeBase o m env (eval o env)
  standAt apos.atName
  methodCall o m apos pos env ov (es.length+([]:List Keyword).length) (backTo pos (starEach es env)) (backToKw pos (keywordEach [] env))):=rfl
 rw[e1,qdb hb];have few:methodCallForm (es.length+([]:List Keyword).length) (backTo pos (starEach es env)) (backToKw pos (keywordEach [] env))=true:=by
  unfold methodCallForm;rw[qf3 ha];have:es.length+0+0<30:=by omega
  simp[backToKw,keywordEach,this];omega
 have hpos:methodCallPos true o env apos pos=pure pos:=by
  unfold methodCallPos;unfold nLn at hn;rw[if_pos (by rw[hn];rfl)]
 unfold methodCall;rw[few,hpos];rfl
end
structure Wd(P:Program)(w:World)(K:Frg)(mg:Str->Option Value)(base:Heap)(Γ:G)(k:Nat):Prop where
 bl:∀ x∈Γ.S.bl,mg x=none
 gi:∀ x i,Γ.S.gi.lookup x=some i->qyh mg x i
 gt:∀ x l,Γ.S.gt.lookup x=some l->qsj K mg x l
 tb:∀ x∈Γ.S.tb,KTab P w K mg x (Γ.tb x)
 tt:∀ x l,Γ.S.tt.lookup x=some l->qr9 P w K mg x l
 cl:∀ i c,Γ.S.cl[i]? =some c->Cls K (Γ.C i)/\mg c=some (.ref (Γ.C i))
 fs:∀ c f,(c,f)∈Γ.S.fs->Cls K (Γ.C c)/\NoAttr K (Γ.C c) f
 fn:∀ (i:Nat) d,Γ.S.fd[i]? =some d->d.kind=0->RFn P w K mg base k d.name d.ps (Γ.fn i)
 me:∀ (i:Nat) d,Γ.S.fd[i]? =some d->d.kind=1->Cls K (Γ.C d.cls)/\RMt P w K mg base (Γ.C d.cls) k d.name d.ps (Γ.fn i)
 ini:∀ (i:Nat) d,Γ.S.fd[i]? =some d->d.kind=2->∃ j,j+1<=k/\RIn P w K mg base (Γ.C d.cls) j d.ps (Γ.ini i)
 cvs:∀ q∈Γ.cvs,∃ fd ps,PySem.W.keepIn K (.ref q.1)=true/\Binds K fd ps []/\FnOk P w K mg base CX0 k q.1 fd ps (qfl K q.2)
structure OkX(k:Nat)(fc:Bool)(N:List Str)(sc:Scope)(X:Cx):Prop where
 hN:X.N=N
 vis:∀ x∈N,Vis X.env.scope x/\dbg x=true
 gl:∀ x,sc.names.lookup x=some .globalImplicit->Gl X x
 calm:X.calm=true
 room:Room k X.A
 fn:fc=true->X.env.scope=sc/\N.Nodup/\(∀ x∈N,Loc sc x)/\(∀ x,X.fn x=true)/\PassesOwn (model X.prog X.w) X.A X.env X.xe/\X.env.blockKind= .function/\∀ x,X.env.kindOf x=sc.names.lookup x
noncomputable def Good (Γ:G)(X:Cx)(t:T):Nd->Prop
 | .e x=>RPE X x (tr Γ t).E
 | .t x=>RPT X x (tr Γ t).T
 | .a xs=>RPA X xs (tr Γ t).A
 | .i tg x=>RPI X tg x (tr Γ t).I
 | .p x=>RPO X x (tr Γ t).P
 | .s x=>RPS X x (tr Γ t).S
 | .b xs=>qm7 X xs (tr Γ t).S
section
variable {X:Cx}{Γ:G}{t:T}{r:RTE}{f:Expr->Bool}{nd:Nd}
theorem qeq(e:tr Γ t=ex r)(he:∀ x,f x=true->RPE X x r)(h:onE nd f=true):Good Γ X t nd:=by
 cases nd<;>first|(cases h;done)|skip
 · show RPE X _ (tr Γ t).E;rw[e];exact he _ (qhG h).2
 · rename_i x
   have h':(!qro x&&f x)=true:=h;rw[waa,Bool.not_eq_true']at h';show RPT X _ (tr Γ t).T;rw[e];exact qwB (he _ h'.2) (qp0 h'.1)
theorem qcD(e:tr Γ t=ex r)(he:∀ x,f x=true->RPE X x r/\RPT X x (qfA r))(h:onC nd f=true):Good Γ X t nd:=by
 cases nd<;>first|(cases h;done)|skip
 · show RPE X _ (tr Γ t).E;rw[e];exact(he _ (qhG h).2).1
 · show RPT X _ (tr Γ t).T;rw[e];exact(he _ h).2
theorem RPE.imp{e:Expr}{t t':RTE}(h:RPE X e t)(i:∀ σ M Q,t' σ M Q->t σ M Q):RPE X e t':=PE.imp h fun σ0 H Q0 h=>by
 obtain⟨σ,M,Q,hs,hv,ht,hk⟩:=h;exact⟨σ,M,Q,hs,hv,i _ _ _ ht,hk⟩
theorem RPS.imp{e:Stmt}{t t':RTS}(h:RPS X e t)(i:∀ D σ M,t' D σ M->t D σ M):RPS X e t':=PS.imp h fun D0 σ0 H h=>by
 obtain⟨σ,M,D,hs,hv,ht,hd⟩:=h;exact⟨σ,M,D,hs,hv,i _ _ _ ht,hd⟩
theorem qlQ{e:Expr}:RPE X e qbT:=fun pins s σ0 H Q0 I h=>by
 obtain⟨σ,M,Q,hs,hv,ht,hk⟩:=h;exact ht.elim
theorem qoc{g:Value->Value->Sem Value}:ROp X g (fun _ _ _ _=>False):=fun pins s σ H x y v u Q0 I rx ry h=>by
 obtain⟨a,b,M,Q,ra,rb,hv,hq,hk⟩:=h;exact hq.elim
theorem qtW:∀ o:Operator,ROp X (binaryOp o) (opR o):=by
 intro o;cases o<;>first|exact qDr|exact qDi|exact qDm|exact qDn|exact qDq|exact qDk|exact qoc
theorem qfi(hu:X.A.units+64<cLine):∀ o:CmpOp,ROp X (compareOp o) (cmR o):=by
 intro o;cases o<;>first|exact olt|exact ole|exact ogt|exact oge|exact qDp hu|exact qDl hu|exact ois|exact qt0|exact oin hu|exact qtX hu
theorem qeE{o p:CmpOp}{b c:Expr}(h:okE c=true):lastMarks [o,p] [b,c]=false:=qbf h
end
section
variable {X:Cx}
theorem qx7:CallR X (.builtin "isinstance") (upC X.K qwW):=by
 intro pins s σ H xs us Q0 I rl h;obtain⟨rs,M,Q,rr,hv,hq,hk⟩:=h;unfold qwW at hq;split at hq
 · rename_i a
   exact qkB pins s σ H xs us Q0 I rl ⟨_,M,Q,rr,hv,⟨rfl,hq⟩,hk⟩
 · rename_i x t _
   by_cases h1:t= "int"
   · subst h1;exact qoK pins s σ H xs us Q0 I rl ⟨_,M,Q,rr,hv,⟨rfl,hq⟩,hk⟩
   by_cases h2:t= "bool"
   · subst h2;exact qmY pins s σ H xs us Q0 I rl ⟨_,M,Q,rr,hv,⟨rfl,hq⟩,hk⟩
   by_cases h3:t= "str"
   · subst h3;exact qoJ pins s σ H xs us Q0 I rl ⟨_,M,Q,rr,hv,⟨rfl,hq⟩,hk⟩
   by_cases h4:t= "tuple"
   · subst h4;exact qkA pins s σ H xs us Q0 I rl ⟨_,M,Q,rr,hv,⟨rfl,hq⟩,hk⟩
   by_cases h5:t= "list"
   · subst h5;exact qmX pins s σ H xs us Q0 I rl ⟨_,M,Q,rr,hv,⟨rfl,hq⟩,hk⟩
   · unfold isT at hq
     rw[if_neg h1,if_neg h2,if_neg h3,if_neg h4,if_neg h5]at hq;exact hq.elim
 · exact hq.elim
theorem qx6:CallR X (.builtin "len") (upC X.K qlu):=by
 intro pins s σ H xs us Q0 I rl h;obtain⟨rs,M,Q,rr,hv,hq,hk⟩:=h;unfold qlu at hq;split at hq
 · rename_i a
   split at hq
   · rename_i ys e
     exact qAT pins s σ H xs us Q0 I rl ⟨_,M,Q,rr,hv,by simp only[qvC,e];exact hq,hk⟩
   · rename_i kvs e
     exact qx2 pins s σ H xs us Q0 I rl ⟨_,M,Q,rr,hv,⟨a,kvs,rfl,e,hq⟩,hk⟩
   · exact hq.elim
 · exact qAT pins s σ H xs us Q0 I rl ⟨_,M,Q,rr,hv,hq,hk⟩
theorem qu9:bootBuiltins "max" =some (.builtin "max"):=by decide+kernel
theorem qm1:bootBuiltins "sorted" =some (.builtin "sorted"):=by decide+kernel
variable {x:Str}{p pos:Pos}{e:Expr}{es:List Expr}{t:RTA}
theorem qyc(hc:X.calm=true)(hx:bfN.contains x=true)(hm:X.mg x=none)(hg:Gl X x)(hd:(x==("__debug__":Str))=false)(ha:RPA X (e::es) t)(ho:(e::es).all okE=true):RPE X (.Call (.Name x p) (e::es) [] pos) (qeP (bfR x) t):=by
 rw[wat,waa]at ho;have s1:=qaT (es:=es) (env:=X.env) ho.1;have s2:=qb8 (env:=X.env) (p:=pos) ho.2;have hm':x= "len"∨x= "isinstance"∨x= "all"∨x= "max"∨x= "sorted"∨x= "ord":=by simpa[bfN]using hx
 rcases hm' with rfl|rfl|rfl|rfl|rfl|rfl
 · exact qe5 qx6 hm qva ha hg (by decide) hd s1 s2
 · exact qe5 qx7 hm qf0 ha hg (by decide) hd s1 s2
 · exact qe5 (qoO hc) hm qvc ha hg (by decide) hd s1 s2
 · exact qe5 (qDG hc) hm qu9 ha hg (by decide) hd s1 s2
 · exact qe5 (qu0 hc) hm qm1 ha hg (by decide) hd s1 s2
 · exact qe5 qDF hm qu8 ha hg (by decide) hd s1 s2
theorem qu5(hc:X.calm=true)(hx:btN.contains x=true)(hm:X.mg x=none)(hg:Gl X x)(hd:(x==("__debug__":Str))=false)(ha:RPA X (e::es) t)(ho:(e::es).all okE=true):RPE X (.Call (.Name x p) (e::es) [] pos) (qeP (btR x) t):=by
 rw[wat,waa]at ho;have s1:=qaT (es:=es) (env:=X.env) ho.1;have s2:=qb8 (env:=X.env) (p:=pos) ho.2;have hm':x= "tuple"∨x= "list":=by simpa[btN]using hx
 rcases hm' with rfl|rfl
 · exact qo9 quZ hm qjA ha hg (by decide) hd s1 s2
 · exact qo9 qx1 hm qm2 ha hg (by decide) hd s1 s2
theorem qvX{y:String}(hx:["int","bool","str","tuple","list"].contains y=true)(hm:X.mg (Str.ofString y)=none)(hg:Gl X (Str.ofString y)):RPE X (.Name (Str.ofString y) pos) (rC (.ty y)):=by
 have hm':y= "int"∨y= "bool"∨y= "str"∨y= "tuple"∨y= "list":=by simpa using hx
 rcases hm' with rfl|rfl|rfl|rfl|rfl
 · exact qqd hm hg
 · exact qnH hm hg
 · exact qqc hm hg
 · exact qlb hm hg
 · exact qnG hm hg
theorem qut{C:Addr}{f:Str}{Q:RVK}:kFl C f Q=(fun x M1=>match x with| .ref a=>∃ fs v,M1 a=some (.ins C fs)/\fs.lookup f=some v/\Q v M1|_=>False):=by
 funext x M1;cases x with
 |ref a=>
  refine propext ⟨fun h=>?_,fun⟨fs,v,e1,e2,q⟩=>?_⟩
  · unfold kFl at h
    simp only at h;split at h
    · rename_i C' fs e1
      obtain⟨rfl,h'⟩:=h;split at h'
      · rename_i v e2;exact⟨fs,v,e1,e2,h'⟩
      · exact h'.elim
    · exact h.elim
  · unfold kFl;simp only[e1,e2];exact⟨trivial,q⟩
 |_=>rfl
theorem qxQ{C:Addr}{f:Str}{ta:RTE}(hc:Cls X.K C)(hn:NoAttr X.K C f)(he:RPE X e ta)(hb:qdL e=false):RPE X (.Attribute e f pos) (uFl C f ta):=RPE.imp (qC7 hc hn he (qdb hb)) fun σ M Q h=>by
 unfold uFl at h;rw[qut]at h;exact h
theorem qwk{C:Addr}{f:Str}{o value:Expr}{ta tv:RTE}{pos':Pos}(hc:Cls X.K C)(hn:NoAttr X.K C f)(ha:RPE X o ta)(hv:RPE X value tv)(hs:swapsWith value (some (.Attribute o f pos')) pos.line X.env=pure false):RPS X (.Assign [.Attribute o f pos'] value pos) (uSf C f ta tv):=RPS.imp (qCF hc hn ha hv hs) fun D σ M h=>by
 unfold uSf at h;have:∀ y,kSf C f y (D.nx σ)=(fun x M2=>match x with| .ref a=>∃ fs,M2 a=some (.ins C fs)/\fs.length<1000/\D.nx σ (put M2 a (.ins C (qgM f y fs)))|_=>False):=fun y=>by
  funext x M1;cases x with
  |ref a=>
   refine propext ⟨fun h=>?_,fun⟨fs,e1,q⟩=>?_⟩
   · unfold kSf at h
     simp only at h;split at h
     · rename_i C' fs e1
       obtain⟨rfl,h'⟩:=h;exact⟨fs,e1,h'⟩
     · exact h.elim
   · unfold kSf;simp only[e1];exact⟨trivial,q⟩
  |_=>rfl
 simp only[this]at h;exact h
theorem qpu{C:Addr}{m:Str}{sp:RSp}{t:RTA}{σ:RSt}{Q:RVK}:kMe C m sp t σ Q=(fun x M1=>match x with| .ref a=>∃ fs,M1 a=some (.ins C fs)/\fs.lookup m=none/\t σ M1 fun rs M2=>sp (.ref a::rs) M2 Q|_=>False):=by
 funext x M1;cases x with
 |ref a=>
  refine propext ⟨fun h=>?_,fun⟨fs,e1,e2,q⟩=>?_⟩
  · unfold kMe at h
    simp only at h;split at h
    · rename_i C' fs e1
      obtain⟨rfl,h'⟩:=h;exact⟨fs,e1,h'⟩
    · exact h.elim
  · unfold kMe;simp only[e1];exact⟨trivial,e2,q⟩
 |_=>rfl
theorem qt6{C:Addr}{m:Str}{sp:RSp}{o:Expr}{ta:RTE}{apos:Pos}{k:Nat}{ps:List Str}(F:RMt X.prog X.w X.K X.mg X.base C k m ps sp)(c:Cls X.K C)(hr:Room k X.A)(he:RPE X o ta)(hb:qdL o=false)(hn:nLn apos pos=true):
 RPE X (.Call (.Attribute o m apos) [] [] pos) (uMe C m sp ta qnq):=RPE.imp (qqm F c hr he (qlT hb rfl (by decide) hn)) fun σ M Q h=>by
 unfold uMe at h;rw[qpu]at h;exact h
theorem qxn{C:Addr}{m:Str}{sp:RSp}{o:Expr}{ta:RTE}{apos:Pos}{k:Nat}{ps:List Str}(F:RMt X.prog X.w X.K X.mg X.base C k m ps sp)(c:Cls X.K C)(hr:Room k X.A)(he:RPE X o ta)(ha:RPA X (e::es) t)(hb:qdL o=false)(ho:(e::es).all okE=true)(hl:(e::es).length<29)(hn:nLn apos pos=true):
 RPE X (.Call (.Attribute o m apos) (e::es) [] pos) (uMe C m sp ta t):=by
 have ho':=ho;rw[wat,waa]at ho;refine RPE.imp (qsQ F c hr he ha (qaT ho.1) (qb8 ho.2) (qlT hb ho' hl hn)) fun σ M Q h=>?_
 unfold uMe at h;rw[qpu]at h;exact h
end
theorem qrF{S:SI}{fc:Bool}{N:List Str}{sc:Scope}{r:T}(h:mt S fc N sc r (.a [])=true):r= .e0:=by
 cases r<;>first|rfl|exact absurd h wan
section
variable {X:Cx}{C:Addr}
theorem qqn{x:Str}{p pos:Pos}{k:Nat}{ps:List Str}{sp:RSp}(F:RIn X.prog X.w X.K X.mg X.base C k ps sp)(hr:Room (k+1) X.A)(hm:X.mg x=some (.ref C))(hg:Gl X x)(hdb:(x==("__debug__":Str))=false):RPE X (.Call (.Name x p) [] [] pos) (qj1 C sp qnq):=by
 obtain⟨g,fd,hM,hb,F⟩:=F.ex;refine PE.imp (qn1 hM F hr hg hm hb .nil qii hdb) fun σ0 H Q0 h=>?_
 obtain⟨σ,M,Q,hs,hv,ht,hk⟩:=h;refine fun a dx na nd ne=>?_
 have ex1:Ext H (upd H dx (.own a)):=Ext.new nd;have na':(upd H dx (.own a)) a=none:=by rw[qae (Ne.symm ne)];exact na
 have ex2:Ext H (upd (upd H dx (.own a)) a (.ins C dx [])):=ex1.trans (Ext.new na');refine⟨[.ref a],put M a (.ins C []),_,Reps.cons (by simp only[Rep]) Reps.nil,(hv.new nd).newPut na' ⟨dx,[],rfl,rfl⟩,ht a (hv.free na),fun rv M2 v H2 q2 e2 v2 r2=>?_⟩
 obtain⟨rfl,q2⟩:=q2;simp only[Rep]at r2;exact⟨r2,hk _ M2 _ H2 q2 (ex2.trans e2) v2 (by simp only[Rep])⟩
theorem qtE{pos:Pos}:∀ (l:List (Str×Int)) (ks:List (Option Expr)) (vs:List Expr),quh l ks vs=true->PPs X pos ks vs (qcP (wsI l))/\ks.all (·.isSome)=true/\ks.length=vs.length/\ks.length=l.length
 | [],ks,vs,h=>by
  cases ks<;>cases vs<;>first|(exact⟨qqE,rfl,rfl,rfl⟩)|(simp[quh]at h)
 |(x,n)::l,ks,vs,h=>by
  unfold quh at h;split at h
  · rename_i e1;cases e1
  · rename_i x' n' l' y j p ks' m j' p' vs' e1
    cases e1;simp only[waa,beq_iff_eq]at h;obtain⟨⟨rfl,rfl⟩,h⟩:=h;obtain⟨a,b,c,d⟩:=qtE (pos:=pos) l ks' vs' h;refine⟨qnX qpi qpk a,by rw[wat,b];rfl,by rw[waf,waf,c],by rw[waf,waf,d]⟩
  · cases h
theorem qbi{sc:Scope}{x:Str}(h:glb sc x=true):sc.names.lookup x=some .globalImplicit/\(x==("__debug__":Str))=false:=by
 unfold glb at h;rw[waa,beq_iff_eq,Bool.not_eq_true']at h;exact h
theorem quQ{x:Str}(h:dbg x=true):(x==("__debug__":Str))=false/\(x==("__classdict__":Str))=false:=by
 unfold dbg at h
 rwa [waa,Bool.not_eq_true',Bool.not_eq_true']at h
theorem qi3{tg e:Expr}{l:Nat}{env:Env}(h:okE e=true)(hc:isC e=false):swapsWithSole [tg] e l env=pure false:=qcT h hc
theorem mem_of{α:Type}[BEq α][LawfulBEq α]{a:α}{l:List α}(h:l.contains a=true):a∈l:=by simpa using h
theorem qr4{o i:Expr}{p:Pos}(h:okE i=true):∀ v,assign (.Subscript o i p) X.env v=(do
 let ov<-holding [v] (eval o X.env)
 let iv<-holding [v,ov] (eval i X.env)
 standAt p
 holding [v,ov,iv] (setItem ov iv v)
 release [v,ov,iv] []):=by intro v;cases i<;>first|rfl|cases h
theorem qmk{K:Frg}{neg:Bool}{ss:List Str}{ta:RTE}{σ0:L2.St}{H:Hp}{Q0:VK}(h:up K (qsf neg ss ta) σ0 H Q0):tOp (upO K (qvD K neg)) (up K ta) (up K (rCT K ss)) σ0 H Q0:=by
 obtain⟨σ,M,Q,hs,hv,ht,hk⟩:=h;refine⟨σ,M,_,hs,hv,ht,fun rx M1 x H1 q e1 v1 r1=>?_⟩
 refine⟨σ,M1,fun y M2=>∃ p,y= .ref p/\qvm K p ss/\M2=M1,hs.ext e1,v1,fun p hp=>⟨p,rfl,hp,rfl⟩,fun ry M2 y H2 q2 e2 v2 r2=>?_⟩
 obtain⟨p,rfl,hp,rfl⟩:=q2;exact⟨rx,.ref p,_,Q,Rep.ext e2 _ _ r1,r2,v2,⟨ss,hp,q.1,q.2⟩,hk.ext (e1.trans e2)⟩
theorem qpE{neg:Bool}{op:CmpOp}{ss:List Str}{a:Expr}{ta:RTE}{x:Str}{p pos:Pos}(ho:ROp X (compareOp op) (qvD X.K neg))(h:qsj X.K X.mg x ss)(ha:RPE X a ta)(hg:Gl X x)(hd:(x==("__debug__":Str))=false):RPE X (.Compare a [op] [.Name x p] pos) (qsf neg ss ta)/\RPT X (.Compare a [op] [.Name x p] pos) (qfA (qsf neg ss ta)):=
 ⟨PE.imp (qlH ho ha (rgt h hg hd) (qbf rfl)) fun _ _ _ h=>qmk h,PT.imp (qlz ho ha (rgt h hg hd) (qbf rfl)) fun σ0 H Q0 h=>by
  obtain⟨σ,M,Q,hs,hv,ht,hk⟩:=h;exact qmk ⟨σ,M,_,hs,hv,ht,qcd hk⟩⟩
theorem qxo{o e:Expr}{m:Str}{ap p:Pos}(h0:qdL o=false)(hn:nLn ap p=true)(he:okE e=true):M1 X o m ap e p where
 base:=qdb h0
 few:=by rw[qf3 (by rw[wat,he];rfl)];rfl
 line:=hn
 trees:=back_eq (by rw[wat,he];rfl)
end
section
variable {X:Cx}{Γ:G}{k:Nat}{fc:Bool}{N:List Str}{sc:Scope}
theorem OkX.var(O:OkX k fc N sc X){i:Nat}{x:Str}{pos:Pos}(h:N[i]? =some x):RPE X (.Name x pos) (qqt i):=by
 have m:=O.vis x (List.mem_of_getElem? h);have d:=quQ m.2;exact rv i (by rw[O.hN];exact h) m.1 d.1 d.2
theorem OkX.setN(O:OkX k true N sc X){i:Nat}{x:Str}{e:Expr}{te:RTE}{pos pos':Pos}(h:N[i]? =some x)(he:RPE X e te)(hs:swapsWith e (some (.Name x pos')) pos.line X.env=pure false):RPS X (.Assign [.Name x pos'] e pos) (qtg i te):=by
 obtain⟨hsc,nd,hl,hf,_⟩:=O.fn rfl;exact sset i he (by rw[O.hN];exact nd) (by rw[O.hN];exact h) (by rw[hsc];exact hl x (List.mem_of_getElem? h)) hs (.inl (hf x))
theorem OkX.gN(O:OkX k true N sc X){i:Nat}{x:Str}{pos:Pos}(h:N[i]? =some x):RPG X (.Name x pos) (rgN i):=by
 obtain⟨hsc,nd,hl,hf,_⟩:=O.fn rfl;exact qxK i (by rw[O.hN];exact nd) (by rw[O.hN];exact h) (by rw[hsc];exact hl x (List.mem_of_getElem? h)) (.inl (hf x))
theorem qgS(O:OkX k true N sc X):∀ (is:List Nat) (es:List Expr),qcw N is es=true->PGs X es (qow is)/\(assignEach es X.env).length=is.length/\(assignEach es X.env).findIdx? (·.1)=none
 | [],[],_=>⟨qlF,rfl,rfl⟩
 | [],_::_,h=>by simp[qcw]at h
 |i::is,[],h=>by simp[qcw]at h
 |i::is,e::es,h=>by
  cases e<;>first|(simp[qcw]at h;done)|skip
  rename_i x p;simp only[qcw,waa,beq_iff_eq]at h;obtain⟨hsc,nd,hl,hf,_⟩:=O.fn rfl;obtain⟨a,b,c⟩:=qgS O is es h.2;have hd:(assignEach (.Name x p::es) X.env)=(false,assign (.Name x p) X.env)::assignEach es X.env:=rfl;refine⟨qje (qfH (i:=i) (by rw[O.hN];exact nd) (by rw[O.hN];exact h.1) (by rw[hsc];exact hl x (List.mem_of_getElem? h.1)) (.inl (hf x))) a,by rw[hd,waf,b];rfl,by rw[hd,List.findIdx?_cons,c];rfl⟩
theorem gT(O:OkX k true N sc X){is:List Nat}{es:List Expr}{j:Nat}{pos:Pos}(h:qcw N is es=true):RPG X (.Tuple es j pos) (rgU is):=by
 obtain⟨a,b,c⟩:=qgS O is es h;exact qDz O.calm a rfl b c
theorem qf2{scope:Scope}{nm:List Str}{cap:List (Nat×Str)}{cl:List (Str×Addr)}{C:Addr}{s:Shared}{H:Hp}{fp:List Addr}(O:OkX k fc N sc X)(hs:qsd N sc scope nm cap=true):
 OkX k false (nm++cap.map Prod.snd) scope (blk X scope cl C (nm++cap.map Prod.snd) s H fp):=by
 unfold qsd at hs;simp only[waa,wak,beq_iff_eq]at hs;obtain⟨⟨⟨⟨⟨⟨⟨hcap,_⟩,_⟩,_⟩,_⟩,hnm⟩,_⟩,hdb⟩:=hs;refine⟨rfl,fun x hx=>⟨?_,hdb x hx⟩,fun x h=>glB h,O.calm,O.room,fun h=>by cases h⟩
 rcases wax.mp hx with hx|hx
 · exact .inl (lookup_relabel_local (hnm x hx))
 · obtain⟨p,hp,rfl⟩:=wai.mp hx
   exact .inr (qdd (hcap p hp).1.2)
theorem qu2{x:Str}(h:cf sc x=true):sc.names.lookup x=some .cell∨sc.names.lookup x=some .free:=by
 unfold cf at h
 rwa [wa9,beq_iff_eq,beq_iff_eq]at h
theorem qsy{tup:Bool}{tg:Expr}{nm:List Str}(h:qnw tup tg nm=true):qsz tup tg nm:=by
 unfold qnw at h;unfold qsz;split at h
 · simpa using h
 · simpa using h
 · cases h
structure qnp(X:Cx)(N:List Str)(sc scope:Scope)(nm:List Str)(cap:List (Nat×Str)):Prop where
 hcaps:∀ p∈cap,N[p.1]? =some p.2/\scope.names.lookup p.2=some .free/\(sc.names.lookup p.2=some .cell∨sc.names.lookup p.2=some .free)
 hfr:∀ y∈scope.names,y.2= .free->(sc.names.lookup y.1=some .cell∨sc.names.lookup y.1=some .free)
 hcell:∀ y∈scope.names,y.2≠.cell
 hkind:scope.kind= .function
 hnames:∀ y∈scope.names,y.2= .local->scope.names.lookup y.1=some .local
 hx:∀ x∈nm,scope.names.lookup x=some .local
 hnd:(nm++cap.map Prod.snd).Nodup
theorem qhw{scope:Scope}{nm:List Str}{cap:List (Nat×Str)}(hs:qsd N sc scope nm cap=true):qnp X N sc scope nm cap:=by
 unfold qsd at hs;simp only[waa,wak,beq_iff_eq,decide_eq_true_eq]at hs;obtain⟨⟨⟨⟨⟨⟨⟨hcap,hfr⟩,hcell⟩,hkind⟩,hnames⟩,hnm⟩,hnd⟩,hdb⟩:=hs;refine⟨fun p hp=>⟨(hcap p hp).1.1,(hcap p hp).1.2,qu2 (hcap p hp).2⟩,fun y hy e=>?_,fun y hy e=>?_,hkind,fun y hy e=>?_,hnm,hnd⟩
 · have:=hfr y hy
   rw[e]at this;exact qu2 (by simpa using this)
 · have:=hcell y hy
   rw[e]at this;simp at this
 · have:=hnames y hy
   rw[e]at this;simpa using this
end
section
variable {Γ:G}{k:Nat}{X:Cx}{fc:Bool}{N:List Str}{sc:Scope}
theorem qwf{el:Expr}{gs:List Comprehension}{scope:Scope}{p:Pos}{x:Str}{px:Pos}{l:Nat}(O:OkX k true N sc X)(h:sc.names.lookup x=some .cell):swapsWith (.ListComp el gs scope p) (some (.Name x px)) l X.env=pure false:=by
 obtain⟨_,_,_,_,_,hb,hk⟩:=O.fn rfl;show(pure (X.env.blockKind== .function&&X.env.kindOf x==some .local&&px.line==p.line&& !(scope.names.any fun(n,k)=>n==x&&(k== .local||k== .cell))):Sem Bool)=_
 rw[hk,h,show((some NameKind.cell:Option NameKind)==some .local)=false from by decide]
 simp
theorem qwe{el:Expr}{gs:List Comprehension}{scope:Scope}{p:Pos}{x:Str}{px:Pos}{l:Nat}(O:OkX k true N sc X)(h:sc.names.lookup x=some .local)(hl:px.line=p.line)(ha:(scope.names.any fun y=>y.1==x&&(y.2== .local||y.2== .cell))=false):swapsWith (.ListComp el gs scope p) (some (.Name x px)) l X.env=pure true:=by
 obtain⟨_,_,_,_,_,hb,hk⟩:=O.fn rfl;show(pure (X.env.blockKind== .function&&X.env.kindOf x==some .local&&px.line==p.line&& !(scope.names.any fun(n,k)=>n==x&&(k== .local||k== .cell))):Sem Bool)=_
 rw[hk,h,hb,hl];have:(scope.names.any fun(n,k)=>n==x&&(k== .local||k== .cell))=false:=ha
 rw[this];simp
theorem qsM{elt iter tg:Expr}{nm:List Str}{tup md:Bool}{y:Str}{py:Pos}{scope:Scope}{pos spos:Pos}{ti:RTI}{tt:RTT}{te:RTE}{ifs:List Expr}{cap:List (Nat×Str)}(O:OkX k true N sc X)(i:Nat)(c:qnp X N sc scope nm cap)(htg:qsz tup tg nm)(hi:RPI X tg iter ti)
 (hif:∀ cl C s H fp,qr6 (blk X scope cl C (nm++cap.map Prod.snd) s H fp) ifs tt) (hel:∀ cl C s H fp,RPE (blk X scope cl C (nm++cap.map Prod.snd) s H fp) elt te) (hs:∀ v,foldedSetIterable iter X.env v=pure v) (hiN:N[i]? =some y)
 (hsw:swapsWith (.ListComp elt [⟨tg,iter,ifs,0⟩] scope pos) (some (.Name y py)) spos.line X.env=pure true):
 RPS X (.Assign [.Name y py] (.ListComp elt [⟨tg,iter,ifs,0⟩] scope pos) spos) (qtg i (qe7 (qhF tup nm.length) md ti (cap.map Prod.fst) tt te)):=by
 obtain⟨hsc,nd,hl,hf,_⟩:=O.fn rfl;intro pins s σ0 H D0 I h;obtain⟨σ,M,D,hst,hv,ht,hd⟩:=h;rw[exec_Assign_Name_used _ _ _ _ hsw];refine wpAny_bind (wpAny_standAt (wpAny_bind ?_));show wpAny _ _ (do let _<-comprehension (.ListComp elt [⟨tg,iter,ifs,0⟩] scope pos) scope X.env _ (newList []) false (eval iter X.env) (some (assign (.Name y py) X.env))) _ _ s
 refine wpAny_bind (wpAny_mono (qjx (PP:=fun _ s'=>∃ σ' H',Inv X pins σ' H' s'/\D0.nx σ' H') cap htg O.calm hi hif hel hsc O.hN c.hcaps c.hfr c.hcell c.hkind c.hnames c.hx c.hnd hs I (Q0:=fun v H'=>D0.nx (σ0.set i (some v)) H') ⟨σ,M,_,hst,hv,ht,fun rx M1 v H1 q e1 v1 r1=>hd.nx _ M1 _ H1 q e1 v1 ((hst.ext e1).set r1 i)⟩ ?_) (fun _ s' hq=>wpAny_pure (wpAny_pure hq)) fun _ _ e=>e)
 intro D C s5 m5 H5 hn inv q hC hL hS hce hpi;have J:Inv X pins σ0 H5 s5:=inv s5.heap (Heap.SameBut.refl ..);refine wpAny_assign_Name (qgh J (by rw[O.hN];exact nd) (by rw[O.hN];exact hiN) (by rw[hsc];exact hl y (List.mem_of_getElem? hiN)) (v:=.ref D) rfl (fun s6 I6 sb=>?_) (.inl (hf y)))
 obtain⟨a,sb,ha⟩:=sb;have hCa:C≠a:=by
  rcases ha with rfl|e
  · exact hL
  · exact fun z=>hce y a e z.symm
 obtain⟨o,es,ep,ho,r⟩:=hn;refine⟨m5,⟨o,es,ep,sb.extBut _ _ hCa ho,r⟩,fun h' sb'=>⟨_,H5,Inv.turned (t':=s6.toks) (it:=C) I6 (fun b o hb e=>sb'.extBut b o hb e) hC hL (.inr hS) hce hpi,q⟩⟩
theorem qs0{elt iter tg:Expr}{nm:List Str}{tup md:Bool}{scope:Scope}{pos:Pos}{ti:RTI}{tt:RTT}{te:RTE}{ifs:List Expr}{cap:List (Nat×Str)}(O:OkX k true N sc X)(c:qnp X N sc scope nm cap)(htg:qsz tup tg nm)(hi:RPI X tg iter ti)
 (hif:∀ cl C s H fp,qr6 (blk X scope cl C (nm++cap.map Prod.snd) s H fp) ifs tt) (hel:∀ cl C s H fp,RPE (blk X scope cl C (nm++cap.map Prod.snd) s H fp) elt te) (hs:∀ v,foldedSetIterable iter X.env v=pure v):
 RPE X (.ListComp elt [⟨tg,iter,ifs,0⟩] scope pos) (qe7 (qhF tup nm.length) md ti (cap.map Prod.fst) tt te):=by
 obtain⟨hsc,nd,hl,hf,_⟩:=O.fn rfl;intro pins s σ0 H Q0 I hw;rw[eval_ListComp];exact qjx cap htg O.calm hi hif hel hsc O.hN c.hcaps c.hfr c.hcell c.hkind c.hnames c.hx c.hnd hs I hw (use:=none) fun D C s5 m5 H5 hn inv q hC hL hS hce hpi=>⟨m5,hn,fun h' sb=>⟨.ref D,H5,inv h' sb,rfl,q⟩⟩
end
section
variable {X:Cx}{Γ:G}{t:T}{nd:Nd}
theorem qjd{op:BoolOp}{vs:List Expr}{p:Pos}{t:RTT}(h:RPT X (.BoolOp op vs p) t):RPW X (.BoolOp op vs p) t:=fun whole pins s σ H Q I w=>h pins s σ H Q I w
theorem qjs{f g:Expr->Bool}(he:∀ x,f x=true->RPE X x (tr Γ t).E)(ht:∀ x,g x=true->RPT X x (tr Γ t).T)(h:onT nd f g=true):Good Γ X t nd:=by
 cases nd<;>first|(cases h;done)|exact ht _ h|exact he _ (qhG h).2
theorem quF{f:Stmt->Bool}(he:∀ x,f x=true->RPS X x (tr Γ t).S)(h:onS nd f=true):Good Γ X t nd:=by
 cases nd<;>first|(cases h;done)|exact he _ h
theorem qpI{f:List Expr->Bool}(he:∀ x,f x=true->RPA X x (tr Γ t).A)(h:onA nd f=true):Good Γ X t nd:=by
 cases nd<;>first|(cases h;done)|exact he _ h
theorem qfe{f:Expr->Expr->Bool}(he:∀ tg x,f tg x=true->RPI X tg x (tr Γ t).I)(h:onI nd f=true):Good Γ X t nd:=by
 cases nd<;>first|(cases h;done)|exact he _ _ h
theorem qpG{f:Option Expr->Bool}(he:∀ x,f x=true->RPO X x (tr Γ t).P)(h:onP nd f=true):Good Γ X t nd:=by
 cases nd<;>first|(cases h;done)|exact he _ h
theorem qpH{f:List Stmt->Bool}(he:∀ x,f x=true->qm7 X x (tr Γ t).S)(h:onL nd f=true):Good Γ X t nd:=by
 cases nd<;>first|(cases h;done)|exact he _ h
theorem qCE{st:Stmt}:RPS X st (fun _ _ _=>False):=fun pins s σ0 H D0 I h=>by
 obtain⟨σ,M,D,hs,hv,ht,hd⟩:=h;exact ht.elim
theorem qwj{st:List Stmt}:qm7 X st (fun _ _ _=>False):=fun pins s σ0 H D0 I h=>by
 obtain⟨σ,M,D,hs,hv,ht,hd⟩:=h;exact ht.elim
end
theorem qwg{x y:Str}{px py pt pt2:Pos}{kt k2:Nat}{u v:Expr}{env:Env}(hb:env.blockKind= .function)(hx:env.kindOf x=some .local)(hy:env.kindOf y=some .local)(hl:py.line=px.line)(ne:¬y=x)(ho:[u,v].all okE=true)(hf:[u,v].all (foldedForSure 8)=false)(hc:[u,v].all (constantsAlone 8)=false):
 swappedStores [.Tuple [.Name x px,.Name y py] kt pt] (.Tuple [u,v] k2 pt2) env=pure (some [x,y]):=by
 unfold swappedStores;have en:([x,y]:List Str).eraseDups.length=2:=by
  have:(y==x)=false:=by simpa using ne
  simp[List.eraseDups_cons,this]
 simp only[wat,List.all_nil,Bool.and_true,waa]at ho;simp[hb,hx,hy,hl,hf,hc,en,Expr.pos];rintro (z|z)
 · split at z
   · cases ho.1
   · cases z
 · split at z
   · cases ho.2
   · cases z
theorem qfh{Γ:G}{k:Nat}{X:Cx}{N:List Str}{sc:Scope}{t:T}{ifs:List Expr}(O:OkX k false N sc X)(W:Wd X.prog X.w X.K X.mg X.base Γ k)
 (ih:∀ {fc:Bool} {N:List Str} {sc:Scope} {X:Cx},OkX k fc N sc X->Wd X.prog X.w X.K X.mg X.base Γ k->∀ {nd},mt Γ.S fc N sc t nd=true->Good Γ X t nd)
 (h:(match ifs with| []=>qrn t| [c]=>mt Γ.S false N sc t (.t c)|_=>false)=true):qr6 X ifs (tr Γ t).T:=by
 split at h
 · revert h
   exact fun h=>di h fun i=>T.b.elim t i fun b h=>by cases b<;>first|exact qBQ|cases h
 · exact qBP (ih O W h)
 · cases h
set_option hygiene false in
local macro_rules
 | `(tactic|walk_at "g0")=>`(tactic|(intro fc N sc X O W nd h))
 | `(tactic|walk_at "gE")=>`(tactic|(walk_at "g0";refine qeq rfl (fun x hx=>?_) h))
 | `(tactic|walk_at "gS")=>`(tactic|(walk_at "g0";refine quF (fun x hx=>?_) h))
 | `(tactic|walk_at "ga")=>`(tactic|simp only[waa,beq_iff_eq]at hx)
theorem sound{Γ:G}{k:Nat}:∀ (t:T) {fc:Bool} {N:List Str} {sc:Scope} {X:Cx},OkX k fc N sc X->Wd X.prog X.w X.K X.mg X.base Γ k->∀ {nd},mt Γ.S fc N sc t nd=true->Good Γ X t nd:=by
 intro t
 induction t with
 |v i=>
  walk_at "gE";refine qda hx fun _ _ hx=>?_
  exact O.var (by simpa using hx)
 |i n=>
  walk_at "gE";refine qoH hx fun m _ _ hx=>?_
  obtain rfl:=eq_of_beq hx;exact ri
 |s n=>
  walk_at "gE";refine qoH hx fun m _ _ hx=>?_
  obtain rfl:=eq_of_beq hx;exact rs
 |b n=>
  walk_at "gE";refine qoH hx fun m _ _ hx=>?_
  obtain rfl:=eq_of_beq hx;exact rb
 |n=>
  walk_at "gE";refine qoH hx fun _ _ _ hx=>?_
  obtain rfl:=eq_of_beq hx;exact rn
 |g x0=>
  walk_at "gE";refine qda hx fun _ _ hx=>?_
  walk_at "ga";obtain⟨⟨rfl,h1⟩,h2⟩:=hx;obtain⟨h2,h3⟩:=qbi h2;obtain⟨i,hi⟩:=wa5.mp h1;rw[hi];exact rgi (W.gi _ _ hi) (O.gl _ h2) h3
 |ty x0=>
  walk_at "gE";refine qda hx fun _ _ hx=>?_
  walk_at "ga";obtain⟨⟨⟨rfl,h1⟩,h2⟩,h3⟩:=hx;exact qvX h1 (W.bl _ (mem_of h2)) (O.gl _ (qbi h3).1)
 |op o a b iha ihb=>
  walk_at "gE";refine qxY hx fun _ _ _ _ hx=>?_
  walk_at "ga";obtain⟨⟨rfl,h1⟩,h2⟩:=hx;exact rop (qtW o) (iha O W h1) (ihb O W h2)
 |cm o a b iha ihb=>
  walk_at "g0";refine qcD rfl (fun x hx=>?_) h
  refine qhu hx fun _ _ _ _ hx=>?_
  walk_at "ga";obtain⟨⟨rfl,h1⟩,h2⟩:=hx;exact⟨qC8 (qfi O.room.units o) (iha O W h1) (ihb O W h2) (qbf (qay h2)),qwD (qfi O.room.units o) (iha O W h1) (ihb O W h2) (qbf (qay h2))⟩
 |ch o p a b c iha ihb ihc=>
  walk_at "g0";refine qcD rfl (fun x hx=>?_) h
  refine quY hx fun _ z1 z2 _ hx=>?_
  refine qka hx fun _ _ hx=>?_
  refine qka hx fun _ _ hx=>?_
  walk_at "ga";obtain⟨⟨⟨⟨rfl,rfl⟩,h1⟩,h2⟩,h3⟩:=hx;exact⟨qs1 (qfi O.room.units _) (qfi O.room.units _) (iha O W h1) (ihb O W h2) (ihc O W h3) (qeE (qay h3)),qqe (qfi O.room.units _) (qfi O.room.units _) (iha O W h1) (ihb O W h2) (ihc O W h3) (qeE (qay h3))⟩
 |an a b iha ihb=>
  walk_at "g0";refine qjs (fun x hx=>?_) (fun x hx=>?_) h
  · refine qoG hx fun z1 z2 p hx=>?_
    refine qks hx fun hx=>?_
    refine qdE hx fun x z3 hx=>?_
    refine qdE hx fun y r hx=>?_
    simp only[waa]at hx;have h1:=iha O W hx.1;have h2:=ihb O W hx.2;cases r with
    |nil=>exact qs4 h1 (qAm (h2:RPE X y _))
    |cons z r=>exact qs4 h1 h2
  · refine qoG hx fun z1 z2 p hx=>?_
    refine qks hx fun hx=>?_
    refine qdE hx fun x z3 hx=>?_
    refine qdE hx fun y r hx=>?_
    simp only[waa]at hx;have h1:=iha O W hx.1;have h2:=ihb O W hx.2;cases r with
    |nil=>exact rtw (rand h1 (qwN (h2:RPT X y _)))
    |cons z r=>exact rtw (rand h1 (qjd h2))
 |or a b iha ihb=>
  walk_at "g0";refine qjs (fun x hx=>?_) (fun x hx=>?_) h
  · refine qoG hx fun z1 z2 p hx=>?_
    refine qks hx fun hx=>?_
    refine qdE hx fun x z3 hx=>?_
    refine qdE hx fun y r hx=>?_
    simp only[waa]at hx;have h1:=iha O W hx.1;have h2:=ihb O W hx.2;cases r with
    |nil=>exact qAl h1 (qAm (h2:RPE X y _))
    |cons z r=>exact qAl h1 h2
  · refine qoG hx fun z1 z2 p hx=>?_
    refine qks hx fun hx=>?_
    refine qdE hx fun x z3 hx=>?_
    refine qdE hx fun y r hx=>?_
    simp only[waa]at hx;have h1:=iha O W hx.1;have h2:=ihb O W hx.2;cases r with
    |nil=>exact rtw (ror h1 (qC4 (h2:RPT X y _)))
    |cons z r=>exact rtw (ror h1 (qjd h2))
 |no a iha=>
  walk_at "g0";refine qjs (fun x hx=>?_) (fun x hx=>?_) h
  · refine quT hx fun z1 _ _ hx=>?_
    refine qks hx fun hx=>?_
    exact qwF (iha O W hx)
  · refine quT hx fun z1 _ _ hx=>?_
    refine qks hx fun hx=>?_
    exact qwC (iha O W hx)
 |ie t a b iht iha ihb=>
  walk_at "gE";refine qxX hx fun _ _ _ _ hx=>?_
  walk_at "ga";obtain⟨⟨h1,h2⟩,h3⟩:=hx;exact rif (iht O W h1) (iha O W h2) (ihb O W h3)
 |tu a iha=>
  walk_at "gE";refine qmS hx fun _ _ _ hx=>?_
  exact qC2 (iha O W hx)
 |ll a iha=>
  walk_at "gE";refine quV hx fun _ _ hx=>?_
  exact qC6 (iha O W hx)
 |lm a iha=>
  walk_at "gE";refine quV hx fun _ _ hx=>?_
  exact qC5 (iha O W hx)
 |e0=>
  walk_at "g0";refine qpI (fun x hx=>?_) h
  refine qc6 hx fun hx=>?_
  exact qvM
 |ec a r iha ihr=>
  walk_at "g0";refine qpI (fun x hx=>?_) h
  refine qdE hx fun _ _ hx=>?_
  walk_at "ga";obtain⟨h1,h2⟩:=hx;exact qkE (iha O W h1) (ihr O W h2) (qaT (qay h1))
 |ix a b iha ihb=>
  walk_at "gE";refine qhs hx fun _ _ _ hx=>?_
  walk_at "ga";obtain⟨h1,h2⟩:=hx;exact rix (iha O W h1) (ihb O W h2) (qfI (qay h2))
 |sl a l h0 iha ihl ihh=>
  walk_at "gE";refine qhs hx fun _ z1 _ hx=>?_
  refine qxW hx fun _ _ z2 _ hx=>?_
  refine qt4 hx fun hx=>?_
  walk_at "ga";obtain⟨⟨h1,h2⟩,h3⟩:=hx;exact rsl (iha O W h1) (ihl O W h2) (ihh O W h3)
 |p0=>
  walk_at "g0";refine qpG (fun x hx=>?_) h
  refine qt4 hx fun hx=>?_
  exact qw4
 |p1 a iha=>
  walk_at "g0";refine qpG (fun x hx=>?_) h
  refine qt3 hx fun _ hx=>?_
  exact qw1 (iha O W hx)
 |fl c f a iha=>
  walk_at "gE";refine qrN hx fun _ _ _ hx=>?_
  walk_at "ga";obtain⟨⟨⟨rfl,h1⟩,h2⟩,h3⟩:=hx;exact qxQ (W.fs _ _ (mem_of h1)).1 (W.fs _ _ (mem_of h1)).2 (iha O W h3) (by simpa using h2)
 |ca f a iha=>
  walk_at "gE";refine qcc hx fun x p es p' hx=>?_
  simp only[waa]at hx;obtain⟨⟨h1,h2⟩,h3⟩:=hx;cases e:Γ.S.fd[f]? with
  |none=>rw[e]at h1;cases h1
  |some d=>
  rw[e]at h1;simp only[waa,beq_iff_eq]at h1;obtain⟨h1,rfl⟩:=h1;obtain⟨h2,h4⟩:=qbi h2;cases es with
  |nil=>
   have:=qrF h3;subst this;exact qqo (W.fn f d e h1) O.room (O.gl _ h2) h4
  |cons z es=>
   have ho:=qbx h3;rw[wat,waa]at ho;exact qs3 (W.fn f d e h1) O.room (iha O W h3) (O.gl _ h2) h4 (qaT ho.1) (qb8 ho.2)
 |me f o a iho iha=>
  walk_at "g0";cases ef:Γ.S.fd[f]? with
  |none=>
   refine qeq (r:=qbT) (by show ex _=_;rw[ef]) (fun x hx=>qlQ) h
  |some d=>
   refine qeq (r:=uMe (Γ.C d.cls) d.name (Γ.fn f) (tr Γ o).E (tr Γ a).A) (by show ex _=_;rw[ef]) (fun x hx=>?_) h
   refine qht hx fun x m ap es p hx=>?_
   rw[ef]at hx;simp only[waa,beq_iff_eq,decide_eq_true_eq]at hx;obtain⟨⟨⟨⟨⟨⟨h1,rfl⟩,h2⟩,h3⟩,h4⟩,h5⟩,h6⟩:=hx;have W1:=W.me f d ef h1;cases es with
   |nil=>
    have:=qrF h6;subst this;exact qt6 W1.2 W1.1 O.room (iho O W h5) (by simpa using h2) h3
   |cons z es=>exact qxn W1.2 W1.1 O.room (iho O W h5) (iha O W h6) (by simpa using h2) (qbx h6) h4 h3
 |mk f a iha=>
  walk_at "g0";cases ef:Γ.S.fd[f]? with
  |none=>
   refine qeq (r:=qbT) (by show ex _=_;rw[ef]) (fun x hx=>qlQ) h
  |some d=>
   refine qeq (r:=qj1 (Γ.C d.cls) (Γ.ini f) (tr Γ a).A) (by show ex _=_;rw[ef]) (fun x hx=>?_) h
   refine qcc hx fun x p es p' hx=>?_
   rw[ef]at hx;walk_at "ga";obtain⟨⟨⟨h1,h1'⟩,h2⟩,h3⟩:=hx;obtain⟨h2,h4⟩:=qbi h2;obtain⟨j,hj,F⟩:=W.ini f d ef h1;have C1:=W.cl _ _ h1';cases es with
   |nil=>
    have:=qrF h3;subst this;exact qqn F (O.room.mono hj) C1.2 (O.gl _ h2) h4
   |cons z es=>
    have ho:=qbx h3;rw[wat,waa]at ho;exact qsS F (O.room.mono hj) C1.2 (iha O W h3) (O.gl _ h2) h4 (qaT ho.1) (qb8 ho.2)
 |bf f a iha=>
  walk_at "gE";refine qcc hx fun x p es p' hx=>?_
  walk_at "ga";obtain⟨⟨⟨⟨⟨rfl,h1⟩,h2⟩,h3⟩,h4⟩,h5⟩:=hx;obtain⟨h3,h6⟩:=qbi h3;cases es with
  |nil=>cases h4
  |cons z es=>exact qyc O.calm h1 (W.bl _ (mem_of h2)) (O.gl _ h3) h6 (iha O W h5) (qbx h5)
 |bt f a iha=>
  walk_at "gE";refine qcc hx fun x p es p' hx=>?_
  walk_at "ga";obtain⟨⟨⟨⟨⟨rfl,h1⟩,h2⟩,h3⟩,h4⟩,h5⟩:=hx;obtain⟨h3,h6⟩:=qbi h3;cases es with
  |nil=>cases h4
  |cons z es=>exact qu5 O.calm h1 (W.bl _ (mem_of h2)) (O.gl _ h3) h6 (iha O W h5) (qbx h5)
 |ap o a iho iha=>
  walk_at "gE";refine qht hx fun _ _ _ z1 _ hx=>?_
  refine qc5 hx fun _ hx=>?_
  walk_at "ga";obtain⟨⟨⟨⟨rfl,h1⟩,h2⟩,h3⟩,h4⟩:=hx;exact qqp (iho O W h3) (iha O W h4) (qdb (by simpa using h1)) (by rw[qf3 (qbx h4)];rfl) h2 (qaT (by have:=qbx h4;rw[wat,waa]at this;exact this.1)) rfl
 |dg d k0 ihd ihk=>
  walk_at "gE";refine qhs hx fun _ _ _ hx=>?_
  walk_at "ga";obtain⟨h1,h2⟩:=hx;exact qvV (qhi O.room) (ihd O W h1) (ihk O W h2) (qfI (qay h2))
 |dn neg k0 d ihk ihd=>
  walk_at "g0";refine qcD rfl (fun x hx=>?_) h
  refine qhu hx fun _ _ _ _ hx=>?_
  walk_at "ga";obtain⟨⟨h0,h1⟩,h2⟩:=hx;have g1:=ihk O W h1;have g2:=ihd O W h2;cases neg with
  |true=>rw[if_pos rfl]at h0;subst h0;exact⟨qpX (qhi O.room) g1 g2 (qbf (qay h2)),qnt (qhi O.room) g1 g2 (qbf (qay h2))⟩
  |false=>rw[if_neg (by decide)]at h0;subst h0;exact⟨qBO (qhi O.room) g1 g2 (qbf (qay h2)),qvU (qhi O.room) g1 g2 (qbf (qay h2))⟩
 |d1 d k0 ihd ihk=>
  walk_at "gE";refine qht hx fun _ _ _ z1 _ hx=>?_
  refine qc5 hx fun _ hx=>?_
  walk_at "ga";obtain⟨⟨⟨⟨rfl,h1⟩,h2⟩,h3⟩,h4⟩:=hx;exact qss (qhi O.room) (ihd O W h3) (ihk O W h4) (qxo (by simpa using h1) h2 (qay h4))
 |dk=>
  walk_at "gE";refine qrM hx fun z1 z2 _ hx=>?_
  refine qc6 hx fun hx=>?_
  refine qc6 hx fun hx=>?_
  exact qwK
 |dt=>
  walk_at "gE";refine qrM hx fun z1 z2 _ hx=>?_
  refine qc6 hx fun hx=>?_
  refine qc6 hx fun hx=>?_
  exact qsX
 |ic neg a x0 iha=>
  walk_at "g0";cases ef:Γ.S.gt.lookup x0 with
  |none=>
   refine qcD (r:=qbT) (by show ex _=_;rw[ef]) (fun x hx=>?_) h
   refine qhu hx fun _ _ z1 _ hx=>?_
   refine qda hx fun _ _ hx=>?_
   rw[ef]at hx;simp at hx
  |some ss=>
   refine qcD (r:=qsf neg ss (tr Γ a).E) (by show ex _=_;rw[ef]) (fun x hx=>?_) h
   refine qhu hx fun _ _ z1 _ hx=>?_
   refine qda hx fun _ _ hx=>?_
   walk_at "ga";obtain⟨⟨⟨⟨h0,rfl⟩,_⟩,h2⟩,h3⟩:=hx;obtain⟨h2,h4⟩:=qbi h2;have g:=iha O W h3;cases neg with
   |true=>rw[if_pos rfl]at h0;subst h0;exact qpE (qqU O.room.units) (W.gt _ _ ef) g (O.gl _ h2) h4
   |false=>rw[if_neg (by decide)]at h0;subst h0;exact qpE (qDo O.room.units) (W.gt _ _ ef) g (O.gl _ h2) h4
 |tx x0 a iha=>
  walk_at "gE";refine qhs hx fun z1 _ _ hx=>?_
  refine qda hx fun _ _ hx=>?_
  walk_at "ga";obtain⟨⟨⟨rfl,h1⟩,h2⟩,h3⟩:=hx;exact qC3 (W.tb _ (mem_of h1)) (iha O W h3) (qfI (qay h3)) (O.gl _ (qbi h2).1) (qbi h2).2
 |tn x0 a iha=>
  walk_at "g0";refine qjs (fun x hx=>by cases hx) (fun x hx=>?_) h
  refine qhu hx fun _ _ z1 _ hx=>?_
  refine qda hx fun _ _ hx=>?_
  walk_at "ga";obtain⟨⟨⟨⟨rfl,rfl⟩,h1⟩,h2⟩,h3⟩:=hx;obtain⟨h2,h5⟩:=qbi h2;exact qlc (W.tb _ (mem_of h1)) (iha O W h3) (O.gl _ h2) h5
 |cv i a iha=>
  walk_at "gE";refine qcc hx fun x p es p' hx=>?_
  walk_at "ga";obtain⟨⟨h1,h2⟩,h3⟩:=hx;cases es with
  |nil=>cases h2
  |cons z es=>
   have ho:=qbx h3;rw[wat,waa]at ho;exact qs2 Γ.cvs (fun q hq=>by obtain⟨fd,ps,a1,a2,a3⟩:=W.cvs q hq;exact⟨fd,ps,k,O.room,a1,a2,a3⟩) (O.var h1) (iha O W h3) (qaT ho.1) (qb8 ho.2)
 |di l a iha=>
  walk_at "gE";refine qhs hx fun z1 _ _ hx=>?_
  refine qrM hx fun _ _ _ hx=>?_
  simp only[waa,decide_eq_true_eq]at hx;obtain⟨⟨⟨⟨h1,h2⟩,h3⟩,h4⟩,h5⟩:=hx;obtain⟨a1,a2,a3,a4⟩:=qtE (X:=X) _ _ _ h1;have hl:l≠[]:=by intro z;rw[z]at h2;cases h2
  exact qsY l (qhi O.room) a1 (iha O W h5) h4 rfl h3 a2 a3 (by intro z;rw[z]at a4;exact hl (List.eq_nil_of_length_eq_zero a4.symm)) (by rw[a4];exact h3) (qfI (qay h5))
 |lr a b iha ihb=>
  walk_at "gE";refine qcc hx fun _ _ z1 _ hx=>?_
  refine qc5 hx fun z2 hx=>?_
  refine qcc hx fun _ _ z3 _ hx=>?_
  refine qka hx fun _ _ hx=>?_
  walk_at "ga";obtain⟨⟨⟨⟨⟨⟨⟨rfl,rfl⟩,h1⟩,h2⟩,h3⟩,h4⟩,h5⟩,h6⟩:=hx;have s1:=qaT (es:=[]) (env:=X.env) (qay h6);have s2:=fun r=>qaT (es:=r) (env:=X.env) (qay h5)
  exact qsT (W.bl _ (mem_of h1)) (W.bl _ (mem_of h2)) O.calm (iha O W h5) (ihb O W h6) (O.gl _ (qbi h3).1) (O.gl _ (qbi h4).1) (by rw[s2,s1];rfl) s1 (s2 _) s1 rfl
 |cp md tup nm cap it t e ihi iht ihe=>
  walk_at "gE";refine quW hx fun el z1 scope p hx=>?_
  refine qc5 hx fun z2 hx=>?_
  obtain⟨tg,ite,ifs,as⟩:=z2;walk_at "ga";obtain⟨⟨⟨⟨⟨⟨⟨rfl,rfl⟩,h1⟩,h2⟩,h3⟩,h4⟩,h5⟩,h6⟩:=hx;exact qs0 O (qhw h2) (qsy h1) (ihi O W h4) (fun cl C s H fp=>qfh (qf2 O h2) W iht h6) (fun cl C s H fp=>ihe (qf2 O h2) W h5) (qfV h3)
 |ik a iha=>
  walk_at "g0";refine qfe (fun tg x hx=>?_) h
  simp only[waa]at hx;exact qxC (iha O W hx.2)
 |im a iha=>
  walk_at "g0";refine qfe (fun tg x hx=>?_) h
  refine qht hx fun x m ap z p hx=>?_
  refine qc6 hx fun hx=>?_
  walk_at "ga";obtain⟨⟨⟨⟨h0,rfl⟩,h1⟩,h2⟩,h3⟩:=hx;exact Expr.Tuple.elim tg h0 fun _ _ _=>quC (iha O W h3) (qdb (by simpa using h1)) h2
 |lv md a iha=>
  walk_at "gE";refine qcc hx fun _ _ z1 _ hx=>?_
  refine qc5 hx fun z2 hx=>?_
  refine qht hx fun _ _ _ z3 _ hx=>?_
  refine qc6 hx fun hx=>?_
  walk_at "ga";obtain⟨⟨⟨⟨⟨⟨rfl,rfl⟩,h1⟩,h2⟩,h3⟩,h4⟩,h5⟩:=hx;exact rlv (W.bl _ (mem_of h1)) O.calm (iha O W h5) (O.gl _ (qbi h2).1) (qdb (by simpa using h3)) h4
 |pr i j a iha=>
  walk_at "gS";refine qdX hx fun z1 z2 pos hx=>?_
  refine qmS hx fun z3 kt pt hx=>?_
  refine qka hx fun z4 z5 hx=>?_
  refine qda hx fun x px hx=>?_
  refine qda hx fun y py hx=>?_
  refine qmS hx fun z6 k2 pt2 hx=>?_
  refine qka hx fun u v hx=>?_
  simp only[waa,beq_iff_eq,bne_iff_ne,ne_eq]at hx;obtain⟨⟨⟨⟨⟨⟨⟨⟨⟨⟨rfl,h1⟩,h2⟩,h3⟩,h4⟩,h5⟩,h6⟩,h7⟩,h8⟩,h9⟩,h10⟩:=hx;obtain⟨hsc,nd,hl,hf,_,hb,hk⟩:=O.fn rfl;exact qCC O.calm (by rw[O.hN];exact nd) (by rw[O.hN];exact h1) (by rw[O.hN];exact h2) h3 (by rw[hsc];exact h4) (by rw[hsc];exact h5) (iha O W h10) (qwg hb (by rw[hk];exact h4) (by rw[hk];exact h5) h6 (by simpa using h7) (qbx h10) ((Bool.not_eq_true' _).mp h8) ((Bool.not_eq_true' _).mp h9))
 |wh t b iht ihb=>
  walk_at "gS";refine qvZ hx fun _ _ z1 _ hx=>?_
  refine qc6 hx fun hx=>?_
  simp only[waa]at hx;obtain⟨⟨rfl,h1⟩,h2⟩:=hx;exact qsK (O.fn rfl).2.2.2.2.1 (iht O W h1) (ihb O W h2)
 |dd d k0 ihd ihk=>
  walk_at "gS";refine qv9 hx fun z1 _ hx=>?_
  refine qc5 hx fun z2 hx=>?_
  refine qhs hx fun _ _ _ hx=>?_
  simp only[waa]at hx;exact qwm (ihd O W hx.1) (ihk O W hx.2)
 |is a iha=>
  walk_at "g0";refine qfe (fun tg x hx=>?_) h
  simp only[waa]at hx;exact qDt (iha O W hx.2)
 |st a iha=>
  walk_at "g0";refine qfe (fun tg x hx=>?_) h
  simp only[waa]at hx;exact qDs (iha O W hx.2)
 |r1 a iha=>
  walk_at "g0";refine qfe (fun tg x hx=>?_) h
  refine qcc hx fun _ _ z1 _ hx=>?_
  refine qc5 hx fun _ hx=>?_
  walk_at "ga";obtain⟨⟨⟨rfl,h1⟩,h2⟩,h3⟩:=hx;have s1:=qaT (es:=[]) (env:=X.env) (qay h3);exact quB (W.bl _ (mem_of h1)) (iha O W h3) (O.gl _ (qbi h2).1) s1 s1
 |r2 a b iha ihb=>
  walk_at "g0";refine qfe (fun tg x hx=>?_) h
  refine qcc hx fun _ _ z1 _ hx=>?_
  refine qka hx fun _ _ hx=>?_
  walk_at "ga";obtain⟨⟨⟨⟨rfl,h1⟩,h2⟩,h3⟩,h4⟩:=hx;have s1:=qaT (es:=[]) (env:=X.env) (qay h4);have s2:=fun r=>qaT (es:=r) (env:=X.env) (qay h3)
  exact qry (W.bl _ (mem_of h1)) (iha O W h3) (ihb O W h4) (O.gl _ (qbi h2).1) (by rw[s2,s1];rfl) s1 (s2 _) s1
 |set i a iha=>
  walk_at "gS";refine qdX hx fun z1 e p' hx=>?_
  refine qda hx fun x p hx=>?_
  simp only[waa,beq_iff_eq,wa9]at hx;obtain⟨⟨⟨rfl,h1⟩,h2⟩,h3⟩:=hx;rcases h2 with h2|h2
  · exact O.setN h1 (iha O W h3) (qcT (qay h3) (by simpa using h2))
  · by_cases hc:isC e=true
    · cases e<;>first|(cases hc;done)|skip
      exact O.setN h1 (iha O W h3) (qwf O h2)
    · exact O.setN h1 (iha O W h3) (qcT (qay h3) (by simpa using hc))
 |sc i md tup nm cap it t e ihi iht ihe=>
  walk_at "gS";refine qdX hx fun z1 z2 p3 hx=>?_
  refine qda hx fun x p hx=>?_
  refine quW hx fun el z3 scope p2 hx=>?_
  refine qc5 hx fun z4 hx=>?_
  obtain⟨tg,ite,ifs,as⟩:=z4;walk_at "ga";obtain⟨⟨⟨⟨⟨⟨⟨⟨⟨⟨⟨rfl,h1⟩,h2⟩,h3⟩,h4⟩,rfl⟩,h5⟩,h6⟩,h7⟩,h8⟩,h9⟩,h10⟩:=hx;exact qsM O i (qhw h6) (qsy h5) (ihi O W h8) (fun cl C s H fp=>qfh (qf2 O h6) W iht h10) (fun cl C s H fp=>ihe (qf2 O h6) W h9) (qfV h7) h1 (qwe O h2 h3 (by simpa using h4))
 |un is a iha=>
  walk_at "gS";refine qdX hx fun z1 e p' hx=>?_
  refine qmS hx fun es j p hx=>?_
  simp only[waa]at hx;obtain⟨⟨⟨⟨rfl,h1⟩,h2⟩,h3⟩,h4⟩:=hx;have hw:swappedStores [.Tuple es j p] e X.env=pure none:=by cases e<;>first|rfl|cases h3
  exact qAi (iha O W h4) (gT O h1) (qi3 (qay h4) (by simpa using h2)) hw rfl
 |sf c f o a iho iha=>
  walk_at "gS";refine qdX hx fun z1 _ _ hx=>?_
  refine qrN hx fun _ _ _ hx=>?_
  walk_at "ga";obtain⟨⟨⟨⟨rfl,h1⟩,h2⟩,h3⟩,h4⟩:=hx;exact qwk (W.fs _ _ (mem_of h1)).1 (W.fs _ _ (mem_of h1)).2 (iho O W h3) (iha O W h4) (qcT (qay h4) (by simpa using h2))
 |dp d k0 a ihd ihk iha=>
  walk_at "gS";refine qdX hx fun z1 _ _ hx=>?_
  refine qhs hx fun _ _ _ hx=>?_
  walk_at "ga";obtain⟨⟨⟨h1,h2⟩,h3⟩,h4⟩:=hx;exact qsq (qhi O.room) (ihd O W h2) (ihk O W h3) (iha O W h4) (qcT (qay h4) (by simpa using h1))
 |sp l i a ihl ihi iha=>
  walk_at "gS";refine qdX hx fun z1 _ _ hx=>?_
  refine qhs hx fun _ _ _ hx=>?_
  walk_at "ga";obtain⟨⟨⟨h1,h2⟩,h3⟩,h4⟩:=hx;exact qAi (iha O W h4) (qDA (ihl O W h2) (ihi O W h3) qxb (qr4 (qay h3))) (qi3 (qay h4) (by simpa using h1)) rfl rfl
 |re a iha=>
  walk_at "gS";refine qv0 hx fun z1 _ hx=>?_
  refine qt3 hx fun _ hx=>?_
  exact qCB (iha O W hx)
 |if_ t a b iht iha ihb=>
  walk_at "gS";refine qv4 hx fun _ _ _ _ hx=>?_
  walk_at "ga";obtain⟨⟨h1,h2⟩,h3⟩:=hx;exact sif (iht O W h1) (iha O W h2) (ihb O W h3)
 |fo tup is it b ihi ihb=>
  walk_at "gS";refine qv5 hx fun tg x y z1 p hx=>?_
  refine qc6 hx fun hx=>?_
  simp only[waa]at hx;obtain⟨⟨⟨⟨rfl,h1⟩,h2⟩,h3⟩,h4⟩:=hx;have hp:=(O.fn rfl).2.2.2.2.1;have g3:=ihi O W h3;revert g3;cases tup with
  |true=>exact qmS h2 fun es _ _ h2 g3=>qAh hp O.calm g3 (gT O h2) (ihb O W h4) (qfV h1)
  |false=>
   refine qda h2 fun z _ h2=>?_
   exact qc5 h2 fun i h2 g3=>qAh hp O.calm g3 (O.gN (by simpa using h2)) (ihb O W h4) (qfV h1)
 |ex a iha=>
  walk_at "gS";refine qv6 hx fun _ _ hx=>?_
  walk_at "ga";obtain⟨h1,h2⟩:=hx;exact qwl (iha O W h2) (qcT (qay h2) (by simpa using h1))
 |ra=>
  intro fc N sc X O W nd h;cases nd<;>first|exact qCE|exact qwj|exact absurd h wan
 |se a b iha ihb=>
  walk_at "g0";refine qpH (fun x hx=>?_) h
  refine qdE hx fun _ _ hx=>?_
  walk_at "ga";obtain⟨h1,h2⟩:=hx;exact qwn (t:=(tr Γ a).S) (u:=(tr Γ b).S) (iha O W h1) (ihb O W h2)
 |en=>
  walk_at "g0";refine qpH (fun x hx=>?_) h
  refine qc6 hx fun hx=>?_
  exact qCD
structure Prg where
 S:SI
 tb:Str->List (Key×RV)
 C:Nat->Addr
 cv:List (Addr×Nat)
def Prg.G(p:Prg)(f f':Nat->RSp):G:=⟨p.S,p.tb,p.C,f,f',p.cv.map fun q=>(q.1,f q.2)⟩
def qAk(Γ:G)(d:FD):RSp:=fun rs M Q=>rs.length=d.ps.length/\(tr Γ d.body).S { nx:=fun _ M'=>Q .non M',rt:=Q } (qbR d.N rs) M
def qp4(p:Prg)(f f':Nat->RSp)(i:Nat):RSp:=match p.S.fd[i]? with
 |some d=>qAk (p.G f f') d
 |none=>fun _ _ _=>False
def qp9(p:Prg):Nat->(Nat->RSp)×(Nat->RSp)
 |0=>(fun _ _ _ _=>False,fun _ _ _ _=>False)
 |n+1=>(qp4 p (qp9 p n).1 (qp9 p n).2,(qp9 p n).1)
def sem(p:Prg)(n:Nat):Nat->RSp:=(qp9 p n).1
def Prg.Gn(p:Prg)(n:Nat):R.G:=p.G (sem p n) (qp9 p n).2
theorem qfq{p:Prg}{n i:Nat}{d:FD}(h:p.S.fd[i]? =some d):sem p (n+1) i=qAk (p.Gn n) d:=by
 show qp4 p _ _ i=_;unfold qp4;rw[h];rfl
structure HdF(K:Frg)(mg:Str->Option Value)(S:SI)(C:Nat->Addr)(d:FD)(g:Addr)(fd:FuncData):Prop where
 ex:∃ (qual:Str) (st:Stmt),Fun K d.name qual st g fd/\qdc d.N d.ps (qat st)/\qpS d.N (qat st)/\mt S true d.N (qat st) d.body (.b (qbZ st))=true
 bd:Binds K fd d.ps []
 k0:d.kind=0->mg d.name=some (.ref g)
 k1:d.kind=1->Cls K (C d.cls)/\Meth K (C d.cls) d.name g
 k2:d.kind=2->Mk K (C d.cls) g
structure Hd(P:Program)(w:World)(K:Frg)(mg:Str->Option Value)(p:Prg):Prop where
 bl:∀ x∈p.S.bl,mg x=none
 gi:∀ x i,p.S.gi.lookup x=some i->qyh mg x i
 gt:∀ x l,p.S.gt.lookup x=some l->qsj K mg x l
 tb:∀ x∈p.S.tb,KTab P w K mg x (p.tb x)
 tt:∀ x l,p.S.tt.lookup x=some l->qr9 P w K mg x l
 cl:∀ (i:Nat) c,p.S.cl[i]? =some c->Cls K (p.C i)/\mg c=some (.ref (p.C i))
 fs:∀ c f,(c,f)∈p.S.fs->Cls K (p.C c)/\NoAttr K (p.C c) f
 fns:∀ (i:Nat) d,p.S.fd[i]? =some d->∃ g fd,HdF K mg p.S p.C d g fd
 cv:∀ q∈p.cv,∃ d,p.S.fd[q.2]? =some d/\d.kind=0/\mg d.name=some (.ref q.1)
section
variable {P:Program}{w:World}{K:Frg}{mg:Str->Option Value}{p:Prg}{base:Heap}
theorem qjm{k:Nat}{g:Addr}{fd:FuncData}{ps:List Str}:FnOk P w K mg base CX0 k g fd ps (qfl K fun _ _ _=>False) where
 len:=fun vs H Q E h=>by obtain⟨rs,M,Q',_,_,h,_⟩:=h;exact h.elim
 run:=fun A outer s H args us vs Q E _ _ _ _ h=>by obtain⟨rs,M,Q',_,_,h,_⟩:=h;exact h.elim
theorem qvS{n:Nat}(H:Hd P w K mg p)(L:∀ (i:Nat) d g fd,p.S.fd[i]? =some d->HdF K mg p.S p.C d g fd->FnOk P w K mg base CX0 (n+1) g fd d.ps (qfl K (sem p n i))/\FnOk P w K mg base CX0 n g fd d.ps (qfl K ((qp9 p n).2 i))):Wd P w K mg base (p.Gn n) (n+1) where
 bl:=H.bl
 gi:=H.gi
 gt:=H.gt
 tb:=H.tb
 tt:=H.tt
 cl:=H.cl
 fs:=H.fs
 fn:=fun i d e hk=>by
  obtain⟨g,fd,F⟩:=H.fns i d e;obtain⟨q,st,F1,_⟩:=F.ex;exact⟨g,fd,F.k0 hk,F1.kp,F.bd,(L i d g fd e F).1⟩
 me:=fun i d e hk=>by
  obtain⟨g,fd,F⟩:=H.fns i d e;exact⟨(F.k1 hk).1,⟨g,fd,(F.k1 hk).2,F.bd,(L i d g fd e F).1⟩⟩
 ini:=fun i d e hk=>by
  obtain⟨g,fd,F⟩:=H.fns i d e;exact⟨n,wac _,⟨g,fd,F.k2 hk,F.bd,(L i d g fd e F).2⟩⟩
 cvs:=fun q hq=>by
  obtain⟨q0,h0,rfl⟩:=wai.mp hq;obtain⟨d,e,hk,hm⟩:=H.cv q0 h0;obtain⟨g,fd,F⟩:=H.fns q0.2 d e;have:=(F.k0 hk).symm.trans hm;cases this;obtain⟨q,st,F1,_⟩:=F.ex;exact⟨fd,d.ps,F1.kp,F.bd,(L q0.2 d _ fd e F).1⟩
theorem lev(H:Hd P w K mg p):∀ (n:Nat) (i:Nat) d g fd,p.S.fd[i]? =some d->HdF K mg p.S p.C d g fd->FnOk P w K mg base CX0 (n+1) g fd d.ps (qfl K (sem p n i))/\FnOk P w K mg base CX0 n g fd d.ps (qfl K ((qp9 p n).2 i))
 |0,i,d,g,fd,e,F=>⟨qjm,qjm⟩
 |n+1,i,d,g,fd,e,F=>by
  refine⟨?_,(lev H n i d g fd e F).1⟩;rw[qfq e];obtain⟨qual,st,F1,S1,N1,m1⟩:=F.ex;refine qwJ F1 S1 (fun rs M Q h=>h.1) (fun cdv A outer s H0 E hr=>?_) fun rs M Q h=>h.2
  have O:OkX (n+1) true d.N (qat st) (qpN CX0 P w K mg base d.N qual (qat st) g cdv A outer s H0 E).nox:=by
   refine⟨rfl,fun x hx=>⟨?_,?_⟩,fun x h=>h,rfl,hr,fun _=>⟨rfl,N1.nd,N1.loc,fun _=>rfl,PassesOwn.never,?_,fun x=>rfl⟩⟩
   · exact(N1.loc x hx).elim .inl fun z=>.inr (.inl z)
   · have:=N1.dbg x hx
     unfold dbg;rw[this.1,this.2];rfl
   · show(if(qat st).kind.isAnnotationScope then ScopeKind.function else(qat st).kind)=_
     rw[S1.kind];rfl
  exact sound d.body O (qvS H (lev H n)) m1
end
def qrv:Stmt->Bool
 | .FunctionDef ..=>true
 |_=>false
structure FA where
 n:String
 q:String
 s:Stmt
 g:Addr
 c:Addr
 pm:Value
def FA.fn(D:FA):Obj:=HD.fnO D.n D.q D.s D.pm (.ref D.c)
def fdOf(D:FA):FuncData:=PySem.W.fnOf D.n D.q (qiS D.s) (qbZ D.s) (qat D.s) .none .none .none D.pm none (.ref D.c) .none
theorem qxP{D:FA}(h:qrv D.s=true):D.fn=⟨.type "function",none,.func (fdOf D),#[]⟩:=by
 unfold FA.fn fdOf;cases e:D.s<;>rw[e]at h<;>first|rfl|cases h
theorem quK{K:Frg}{D:FA}(h:qrv D.s=true)(l:K.lookup D.g=some D.fn)(c:PySem.W.codeIn K (.ref D.c) D.q=true)(k:PySem.W.keepIn K (.ref D.g)=true):Fun K D.n D.q D.s D.g (fdOf D):=
 ⟨⟨_,_,_,_,_,_,_,_,_,rfl,by rw[l,qxP h],c⟩,k⟩
def qxs(o:Option NameKind):Bool:=match o with
 |some .local=>true
 |some .cell=>true
 |_=>false
theorem qq1{o:Option NameKind}(h:qxs o=true):o=some .local∨o=some .cell:=by
 unfold qxs at h;split at h
 · exact .inl rfl
 · exact .inr rfl
 · cases h
def qxN:NameKind->Bool
 | .free=>false
 |_=>true
noncomputable def qkZ (N ps:List Str)(sc:Scope):Bool:=(match sc.kind with| .function=>true|_=>false)&& !sc.isCoroutine&& !sc.isGenerator&&decide N.Nodup&&decide (N.take ps.length=ps)&&sc.names.all (fun y=>qxN y.2)&&N.all (fun x=>qxs (sc.names.lookup x)&& !(x==("__debug__":Str))&& !(x==("__classdict__":Str)))
theorem qnE{N ps:List Str}{sc:Scope}(h:qkZ N ps sc=true):qdc N ps sc/\qpS N sc:=by
 unfold qkZ at h;simp only[waa,Bool.not_eq_true',decide_eq_true_eq,wak]at h;obtain⟨⟨⟨⟨⟨⟨h1,h2⟩,h3⟩,h4⟩,h5⟩,h6⟩,h7⟩:=h;have l:∀ x∈N,sc.names.lookup x=some .local∨sc.names.lookup x=some .cell:=fun x hx=>qq1 (h7 x hx).1.1
 refine⟨⟨?_,h2,h3,h4,h5,fun x hx=>l x ?_,fun y hy=>?_⟩,⟨h4,l,fun x hx=>⟨(h7 x hx).1.2,(h7 x hx).2⟩⟩⟩
 · revert h1;cases sc.kind<;>simp
 · rw[<-h5]at hx;exact List.mem_of_mem_take hx
 · have:=h6 y hy
   intro z;rw[z]at this;cases this
def qsg:Option (Option Value)->Bool
 |some none=>true
 |_=>false
theorem qmg{o:Option (Option Value)}(h:qsg o=true):o=some none:=by
 unfold qsg at h;split at h
 · rfl
 · cases h
def qvK(i:Int):Option (Option Value)->Bool
 |some (some (.int j _))=>j==i
 |_=>false
theorem qrp{i:Int}{o:Option (Option Value)}(h:qvK i o=true):∃ t,o=some (some (.int i t)):=by
 unfold qvK at h;split at h
 · rename_i j t;exact⟨t,by rw[eq_of_beq h]⟩
 · cases h
def qpD(a:Addr):Option (Option Value)->Bool
 |some (some (.ref b))=>b==a
 |_=>false
theorem qen{a:Addr}{o:Option (Option Value)}(h:qpD a o=true):o=some (some (.ref a)):=by
 unfold qpD at h;split at h
 · rw[eq_of_beq h]
 · cases h
def qxB:Option (Option Value)->Bool
 |some (some (.builtin "object.__setattr__"))=>true
 |_=>false
theorem qrq{o:Option (Option Value)}(h:qxB o=true):o=some (some (.builtin "object.__setattr__")):=by
 unfold qxB at h;split at h
 · rfl
 · cases h
def qny:List Str->List Value->Bool
 | [],[]=>true
 |x::xs,.str y _::ys=>(x==y)&&qny xs ys
 |_,_=>false
theorem qkS:∀ {ss:List Str} {vs:List Value},qny ss vs=true->Vals (ss.map V.str) vs
 | [],[],_=>.nil
 |x::xs,.str y t::ys,h=>by
  unfold qny at h;rw[waa]at h;cases eq_of_beq h.1;exact .cons ⟨t,rfl⟩ (qkS h.2)
noncomputable def qvw (K:Frg)(ss:List Str):Option (Option Value)->Bool
 |some (some (.ref a))=>match K.lookup a with
  |some ⟨.type "tuple",_,.seq its _,_⟩=>decide (its.size<=100)&&qny ss its.toList
  |_=>false
 |_=>false
theorem qsw{K:Frg}{h:Heap}{mg:Str->Option Value}{x:Str}{ss:List Str}(X:K.In h)(G:h.Ns mainGlobals mg)(e:qvw K ss (PySem.W.nsIn K mainGlobals x)=true):qsj K mg x ss:=by
 unfold qvw at e;split at e
 · rename_i a ea
   split at e
   · rename_i its n d sl el
     rw[waa,decide_eq_true_eq]at e;exact qpZ (waW X G ea) el (wal e.1 (by decide)) (qkS e.2)
   · cases e
 · cases e
noncomputable def qrQ (K:Frg)(C:Addr):Bool:=wa4 K C Str.empty&&wbb K C&&PySem.W.plainOver K C&&qxB (PySem.W.findIn K (.ref C) "__setattr__")
theorem qmV{K:Frg}{C:Addr}(h:qrQ K C=true):Cls K C:=by
 unfold qrQ at h;simp only[waa]at h;exact⟨h.1.1.1,h.1.1.2,h.1.2,qrq h.2⟩
noncomputable def qsh (K:Frg)(C:Nat->Addr)(d:FD)(D:FA):Bool:=qrv D.s&&PySem.W.codeIn K (.ref D.c) D.q&&PySem.W.keepIn K (.ref D.g)&&qkZ d.N d.ps (qat D.s)&&decide (d.name=(D.n:Str))&&
 (match d.kind with
  |0=>qpD D.g (PySem.W.nsIn K mainGlobals d.name)
  |1=>qrQ K (C d.cls)&&qpD D.g (PySem.W.findIn K (.ref (C d.cls)) d.name)&&PySem.W.isFn K (.ref D.g)
  |2=>PySem.W.makesIn K (C d.cls)&&qpD D.g (PySem.W.findIn K (.ref (C d.cls)) "__init__")&&PySem.W.isFn K (.ref D.g)&&PySem.W.keepIn K (.ref (C d.cls))
  |_=>false)
theorem quD{K:Frg}{h:Heap}{mg:Str->Option Value}{S:SI}{C:Nat->Addr}{d:FD}{D:FA}(X:K.In h)(G:h.Ns mainGlobals mg)(b:qsh K C d D=true)(l:K.lookup D.g=some D.fn)(m:mt S true d.N (qat D.s) d.body (.b (qbZ D.s))=true)
 (hb:∀ us:List Value,us.length=d.ps.length->bindArgs (fdOf D) ⟨us,[]⟩=pure (d.ps.zip us)):HdF K mg S C d D.g (fdOf D):=by
 unfold qsh at b;simp only[waa,decide_eq_true_eq]at b;obtain⟨⟨⟨⟨⟨b1,b2⟩,b3⟩,b4⟩,b5⟩,b6⟩:=b;obtain⟨s1,s2⟩:=qnE b4;refine⟨⟨D.q,D.s,b5 ▸ quK b1 l b2 b3,s1,s2,m⟩,.all hb,fun k=>?_,fun k=>?_,fun k=>?_⟩
 · rw[k]at b6;exact waW X G (qen b6)
 · rw[k]at b6
   simp only[waa]at b6;exact⟨qmV b6.1.1,⟨qen b6.1.2,b6.2,b3⟩⟩
 · rw[k]at b6
   simp only[waa]at b6;exact⟨b6.1.1.1,qen b6.1.1.2,b6.1.2,b6.2⟩
theorem qfk{α:Type}{f:α->Bool}{l:List α}(h:l.all f=true){x:α}(hx:x∈l):f x=true:=wak.mp h x hx
theorem qlW{α β:Type}{f g:α->β}:∀ {l:List α},l.map f=l.map g->∀ {x:α},x∈l->f x=g x
 |y::l,h,x,hx=>by
  rw[wad,wad]at h;injection h with h1 h2
  rcases was.mp hx with rfl|hx
  · exact h1
  · exact qlW h2 hx
theorem lookup_mem{β:Type}{x:Str}{y:β}:∀ {l:List (Str×β)},l.lookup x=some y->(x,y)∈l
 |(k,z)::l,h=>by
  unfold List.lookup at h;split at h
  · rename_i e
    cases h;rw[eq_of_beq e];exact .head _
  · exact .tail _ (lookup_mem h)
def kvA(l:List (Str×Addr)):List (Key×RV):=l.map fun p=>(.inr p.1,.ref p.2)
def wsA(l:List (Str×Addr)):List (Key×V):=l.map fun p=>(.inr p.1,.ref p.2)
theorem qAM:∀ l:List (Str×Addr),KV (wsA l) ((l.map fun p=>(p.1,Value.ref p.2)).map fun p=>((Sum.inr p.1:Key),p.2))
 | []=>.nil
 |(x,a)::r=>.cons ⟨rfl,rfl⟩ (qAM r)
theorem qo8{K:Frg}{H:Hp}:∀ l:List (Str×Addr),RepP K H (kvA l) (wsA l)
 | []=>rfl
 |p::r=>⟨V.ref p.2,wsA r,rfl,by simp only[Rep],qo8 r⟩
theorem qon{P:Program}{w:World}{K:Frg}{mg:Str->Option Value}{x:Str}{a:Addr}{es:Array DictEntry}{ep:Nat}{l:List (Str×Addr)}
 (hm:mg x=some (.ref a)) (lk:K.lookup a=some ⟨.type "dict",none,.dict es ep,#[]⟩) (ha:(a==sysModules)=false) (hr:qno w es.toList (l.map fun p=>(p.1,Value.ref p.2))) (hn:(l.map Prod.fst).Nodup):KTab P w K mg x (kvA l):=
 ql5 hm lk ha hr (by rw[wah];exact hn) ⟨rfl,rfl,rfl⟩ (qAM l) fun H=>qo8 l
theorem qxJ{P:Program}{w:World}{K:Frg}{h:Heap}{mg:Str->Option Value}{p:Prg}(X:K.In h)(G:h.Ns mainGlobals mg)
 (bl:(p.S.bl.all fun x=>qsg (PySem.W.nsIn K mainGlobals x))=true) (gi:(p.S.gi.all fun x=>qvK x.2 (PySem.W.nsIn K mainGlobals x.1))=true) (gt:(p.S.gt.all fun x=>qvw K x.2 (PySem.W.nsIn K mainGlobals x.1))=true)
 (cl:(p.S.cl.zipIdx.all fun x=>qrQ K (p.C x.2)&&qpD (p.C x.2) (PySem.W.nsIn K mainGlobals x.1))=true) (fs:(p.S.fs.all fun x=>qrQ K (p.C x.1)&&qsg (PySem.W.findIn K (.ref (p.C x.1)) x.2))=true)
 (tb:∀ x∈p.S.tb,KTab P w K mg x (p.tb x)) (tt:∀ x l,p.S.tt.lookup x=some l->qr9 P w K mg x l) (fn:∀ d∈p.S.fd,∃ g fd,HdF K mg p.S p.C d g fd)
 (cv:∀ q∈p.cv,∃ d,p.S.fd[q.2]? =some d/\d.kind=0/\qpD q.1 (PySem.W.nsIn K mainGlobals d.name)=true):Hd P w K mg p where
 bl:=fun x hx=>PySem.W.mg_none_of X G (qmg (qfk bl hx))
 gi:=fun x i hx=>by
  obtain⟨t,e⟩:=qrp (qfk gi (lookup_mem hx));exact⟨t,waW X G e⟩
 gt:=fun x l hx=>qsw X G (qfk gt (lookup_mem hx))
 tb:=tb
 tt:=tt
 cl:=fun i c hi=>by
  have:=qfk cl (x:=(c,i)) (List.mk_mem_zipIdx_iff_getElem?.mpr hi);rw[waa]at this;exact⟨qmV this.1,waW X G (qen this.2)⟩
 fs:=fun c f hx=>by
  have:=qfk fs hx;rw[waa]at this;exact⟨qmV this.1,qmg this.2⟩
 fns:=fun i d hi=>fn d (List.mem_of_getElem? hi)
 cv:=fun q hq=>by
  obtain⟨d,a,b,c⟩:=cv q hq;exact⟨d,a,b,waW X G (qen c)⟩
noncomputable def qou (K:Frg)(S:SI)(C:Nat->Addr)(n:Nat)(l:List (FD×FA)):Bool:=l.all fun x=>qsh K C x.1 x.2&&decide (x.1.ps.length=n)&&mt S true x.1.N (qat x.2.s) x.1.body (.b (qbZ x.2.s))
theorem grp{K:Frg}{h:Heap}{mg:Str->Option Value}{S:SI}{C:Nat->Addr}{n:Nat}{l:List (FD×FA)}(X:K.In h)(G:h.Ns mainGlobals mg)(b:qou K S C n l=true)(k:l.map (fun x=>K.lookup x.2.g)=l.map fun x=>some x.2.fn)
 (u:∀ us:List Value,us.length=n->l.map (fun x=>bindArgs (fdOf x.2) ⟨us,[]⟩)=l.map fun x=>pure (x.1.ps.zip us)):∀ x∈l,HdF K mg S C x.1 x.2.g (fdOf x.2):=fun x hx=>by
 have:=qfk b hx;simp only[waa,decide_eq_true_eq]at this;exact quD X G this.1.1 (qlW k hx) this.2 fun us hu=>qlW (u us (hu.trans this.1.2)) hx
theorem quL{K:Frg}{mg:Str->Option Value}{S:SI}{C:Nat->Addr}{l:List (FD×FA)}(e:S.fd=l.map (·.1))(h:∀ x∈l,HdF K mg S C x.1 x.2.g (fdOf x.2)):∀ d∈S.fd,∃ g fd,HdF K mg S C d g fd:=fun d hd=>by
 rw[e]at hd;obtain⟨x,hx,rfl⟩:=wai.mp hd;exact⟨_,_,h x hx⟩
theorem qce{α:Type}{P:α->Prop}{a b:List α}(h1:∀ x∈a,P x)(h2:∀ x∈b,P x):∀ x∈a++b,P x:=fun x hx=>(wax.mp hx).elim (h1 x) (h2 x)
section
variable {Γ:G}{σ:RSt}{M:RM}{Q:RVK}{D:RD}{a b c d e t l h o k r it:T}{i n:Nat}{QB:Bool->RM->Prop}{QA:List RV->RM->Prop}{QI:List RV->(RM->Prop)->(RM->RM)->RM->Prop}{QP:Option Int->RM->Prop}
def kV'(o:Option (Option RV))(Q:RV->Prop):Prop:=match o with|some (some v)=>Q v|_=>False
theorem qdR{v:RV}{Q:RV->Prop}:kV' (some (some v)) Q=Q v:=rfl
theorem t_v:(tr Γ (.v i)).E σ M Q=kV' σ[i]? (fun v=>Q v M):=by
 show qqt i σ M Q=_;unfold qqt kV';rfl
theorem t_i{n:Int}:(tr Γ (.i n)).E σ M Q=Q (.int n) M:=rfl
theorem t_s{x:Str}:(tr Γ (.s x)).E σ M Q=Q (.str x) M:=rfl
theorem t_b{x:Bool}:(tr Γ (.b x)).E σ M Q=Q (.bl x) M:=rfl
theorem t_n:(tr Γ .n).E σ M Q=Q .non M:=rfl
theorem t_g{x:Str}{i:Int}(h:Γ.S.gi.lookup x=some i):(tr Γ (.g x)).E σ M Q=Q (.int i) M:=by
 show(match Γ.S.gi.lookup x with|some i=>rC (.int i)|none=>qbT) σ M Q=_
 rw[h];rfl
theorem qBR{x:String}:(tr Γ (.ty x)).E σ M Q=Q (.ty x) M:=rfl
theorem qBZ{o:Operator}:(tr Γ (.op o a b)).E σ M Q=(tr Γ a).E σ M fun x M1=>(tr Γ b).E σ M1 fun y M2=>opR o x y M2 Q:=rfl
theorem qCg{o:CmpOp}:(tr Γ (.cm o a b)).E σ M Q=(tr Γ a).E σ M fun x M1=>(tr Γ b).E σ M1 fun y M2=>cmR o x y M2 Q:=rfl
def kB(Q:Bool->RM->Prop):RVK:=fun v M=>match v with| .bl k=>Q k M|_=>False
theorem qhf{k:Bool}:kB QB (.bl k) M=QB k M:=rfl
noncomputable def kCh (p:CmpOp)(Γ:G)(c:T)(σ:RSt)(y:RV)(Q:RVK):RVK:=fun z M3=>match z with
 | .bl k=>if k=true then(tr Γ c).E σ M3 fun w M4=>cmR p y w M4 Q else Q (.bl false) M3
 |_=>False
theorem qck{k:Bool}{A B:Prop}:((k=true->A)/\(k=false->B))=if k=true then A else B:=by cases k<;>simp
theorem qCh{o p:CmpOp}:(tr Γ (.ch o p a b c)).E σ M Q=(tr Γ a).E σ M fun x M1=>(tr Γ b).E σ M1 fun y M2=>cmR o x y M2 (kCh p Γ c σ y Q):=by
 show qe8 _ _ _ _ _ σ M Q=_;unfold qe8 kCh;simp only[qck]<;>rfl
theorem qpw{p:CmpOp}{y:RV}{k:Bool}:kCh p Γ c σ y Q (.bl k) M=if k=true then(tr Γ c).E σ M fun w M4=>cmR p y w M4 Q else Q (.bl false) M:=rfl
theorem qD2{o:CmpOp}:(tr Γ (.cm o a b)).T σ M QB=(tr Γ (.cm o a b)).E σ M (kB QB):=rfl
theorem qD3{o p:CmpOp}:(tr Γ (.ch o p a b c)).T σ M QB=(tr Γ (.ch o p a b c)).E σ M (kB QB):=rfl
theorem qD4{f:Nat}:(tr Γ (.ca f a)).T σ M QB=(tr Γ (.ca f a)).E σ M (kB QB):=rfl
theorem qDZ{f:Nat}:(tr Γ (.me f o a)).T σ M QB=(tr Γ (.me f o a)).E σ M (kB QB):=rfl
theorem qD5{f:Str}:(tr Γ (.bf f a)).T σ M QB=(tr Γ (.bf f a)).E σ M (kB QB):=rfl
theorem qD1{neg:Bool}:(tr Γ (.dn neg k d)).T σ M QB=(tr Γ (.dn neg k d)).E σ M (kB QB):=rfl
theorem qD0{neg:Bool}{x:Str}:(tr Γ (.ic neg a x)).T σ M QB=(tr Γ (.ic neg a x)).E σ M (kB QB):=rfl
theorem qDW{x:Str}:(tr Γ (.tn x a)).T σ M QB=(tr Γ (.tn x a)).E σ M (kB QB):=rfl
theorem qD6:(tr Γ (.an a b)).T σ M QB=(tr Γ a).T σ M fun c M1=>if c=true then(tr Γ b).T σ M1 QB else QB false M1:=by
 show qvH _ _ σ M QB=_;unfold qvH;simp only[qck]
theorem qDX:(tr Γ (.or a b)).T σ M QB=(tr Γ a).T σ M fun c M1=>if c=true then QB true M1 else(tr Γ b).T σ M1 QB:=by
 show rOr _ _ σ M QB=_;unfold rOr;simp only[qck]
theorem qDY:(tr Γ (.no a)).T σ M QB=(tr Γ a).T σ M fun c M1=>QB (!c) M1:=rfl
def kAn(N:RM->Prop)(Q:RVK):RVK:=fun x M=>match x with| .bl c=>if c=true then N M else Q (.bl false) M|_=>False
def kOr(N:RM->Prop)(Q:RVK):RVK:=fun x M=>match x with| .bl c=>if c=true then Q (.bl true) M else N M|_=>False
theorem qdi{N:RM->Prop}{c:Bool}:kAn N Q (.bl c) M=if c=true then N M else Q (.bl false) M:=rfl
theorem qpt{N:RM->Prop}{c:Bool}:kOr N Q (.bl c) M=if c=true then Q (.bl true) M else N M:=rfl
theorem qCm:(tr Γ (.an a b)).E σ M Q=(tr Γ a).E σ M (kAn (fun M1=>(tr Γ b).E σ M1 Q) Q):=by
 show qnR _ _ σ M Q=_;unfold qnR kAn;simp only[qck]<;>rfl
theorem qBY:(tr Γ (.or a b)).E σ M Q=(tr Γ a).E σ M (kOr (fun M1=>(tr Γ b).E σ M1 Q) Q):=by
 show qvB _ _ σ M Q=_;unfold qvB kOr;simp only[qck]<;>rfl
def kNo(Q:RVK):RVK:=fun x M=>match x with| .bl c=>Q (.bl (!c)) M|_=>False
theorem qus{c:Bool}:kNo Q (.bl c) M=Q (.bl (!c)) M:=rfl
theorem qB0:(tr Γ (.no a)).E σ M Q=(tr Γ a).E σ M (kNo Q):=rfl
theorem qB5:(tr Γ (.ie t a b)).E σ M Q=(tr Γ t).T σ M fun c M1=>if c=true then(tr Γ a).E σ M1 Q else(tr Γ b).E σ M1 Q:=by
 show rIf _ _ _ σ M Q=_;unfold rIf;simp only[qck]
theorem qBT:(tr Γ (.tu a)).E σ M Q=(tr Γ a).A σ M fun rs M1=>rs.length<=sizeLine/\Q (.tup rs) M1:=rfl
theorem qB4:(tr Γ (.ll a)).E σ M Q=(tr Γ a).A σ M fun rs M1=>rs.length<=sizeLine/\Q (.ls rs) M1:=rfl
theorem qB3:(tr Γ (.lm a)).E σ M Q=(tr Γ a).A σ M fun rs M1=>rs.length<=sizeLine/\∀ p,M1 p=none->Q (.ref p) (put M1 p (.lst rs)):=rfl
theorem qB8:(tr Γ .e0).A σ M QA=QA [] M:=rfl
theorem qB7:(tr Γ (.ec a r)).A σ M QA=(tr Γ a).E σ M fun x M1=>(tr Γ r).A σ M1 fun xs M2=>QA (x::xs) M2:=rfl
theorem qvx:(tr Γ (.ix a b)).E σ M Q=(tr Γ a).E σ M fun x M1=>(tr Γ b).E σ M1 fun y M2=>rIx x y M2 Q:=rfl
theorem qBV:(tr Γ (.sl a l h)).E σ M Q=(tr Γ a).E σ M fun x M1=>(tr Γ l).P σ M1 fun lo M2=>(tr Γ h).P σ M2 fun u M3=>qnQ x lo u M3 Q:=rfl
theorem qBX:(tr Γ .p0).P σ M QP=QP none M:=rfl
def kP(Q:Option Int->RM->Prop):RVK:=fun x M=>match x with| .int i=>Q (some i) M|_=>False
theorem qur{i:Int}:kP QP (.int i) M=QP (some i) M:=rfl
theorem qBW:(tr Γ (.p1 a)).P σ M QP=(tr Γ a).E σ M (kP QP):=rfl
theorem qB6{c:Nat}{f:Str}:(tr Γ (.fl c f a)).E σ M Q=(tr Γ a).E σ M (kFl (Γ.C c) f Q):=rfl
theorem qCi{f:Nat}:(tr Γ (.ca f a)).E σ M Q=(tr Γ a).A σ M fun rs M1=>Γ.fn f rs M1 Q:=rfl
theorem qdo{f:Nat}{d:FD}(h:Γ.S.fd[f]? =some d):(tr Γ (.me f o a)).E σ M Q=(tr Γ o).E σ M (kMe (Γ.C d.cls) d.name (Γ.fn f) (tr Γ a).A σ Q):=by
 show(match Γ.S.fd[f]? with|some d=>uMe (Γ.C d.cls) d.name (Γ.fn f) (tr Γ o).E (tr Γ a).A|none=>qbT) σ M Q=_
 rw[h];rfl
theorem qsA{f:Nat}{d:FD}(h:Γ.S.fd[f]? =some d):(tr Γ (.mk f a)).E σ M Q=(tr Γ a).A σ M fun rs M1=>∀ x,M1 x=none->Γ.ini f (.ref x::rs) (put M1 x (.ins (Γ.C d.cls) [])) fun v M2=>v= .non/\Q (.ref x) M2:=by
 show(match Γ.S.fd[f]? with|some d=>qj1 (Γ.C d.cls) (Γ.ini f) (tr Γ a).A|none=>qbT) σ M Q=_
 rw[h];rfl
theorem qCk{f:Str}:(tr Γ (.bf f a)).E σ M Q=(tr Γ a).A σ M fun rs M1=>bfR f rs M1 Q:=rfl
theorem qCj{f:Str}:(tr Γ (.bt f a)).E σ M Q=(tr Γ a).A σ M fun rs M1=>btR f rs M1 Q:=rfl
theorem qCd:(tr Γ (.dg d k)).E σ M Q=(tr Γ d).E σ M fun x M1=>(tr Γ k).E σ M1 fun y M2=>qst Q x y M2:=rfl
theorem qCa{neg:Bool}:(tr Γ (.dn neg k d)).E σ M Q=(tr Γ k).E σ M fun y M1=>(tr Γ d).E σ M1 fun x M2=>uIn neg Q x y M2:=rfl
theorem qCe:(tr Γ (.d1 d k)).E σ M Q=(tr Γ d).E σ M fun x M1=>isD M1 x/\(tr Γ k).E σ M1 fun y M2=>qkJ Q x y .non M2:=rfl
theorem qCb:(tr Γ .dk).E σ M Q= ∀ p,M p=none->Q (.ref p) (put M p (.dk [])):=rfl
theorem qB9:(tr Γ .dt).E σ M Q= ∀ p,M p=none->Q (.ref p) (put M p (.dt [])):=rfl
theorem qsB{neg:Bool}{x:Str}{ss:List Str}(h:Γ.S.gt.lookup x=some ss):(tr Γ (.ic neg a x)).E σ M Q=(tr Γ a).E σ M fun x M1=>okR 15 x=true/\Q (.bl (if neg then !inR x (ss.map RV.str)else inR x (ss.map RV.str))) M1:=by
 show(match Γ.S.gt.lookup x with|some ss=>qsf neg ss (tr Γ a).E|none=>qbT) σ M Q=_
 rw[h];rfl
theorem qcn:(tr Γ (.se a b)).S D σ M=(tr Γ a).S { D with nx:=(tr Γ b).S D } σ M:=rfl
theorem qwo:(tr Γ .en).S D σ M=D.nx σ M:=rfl
theorem qqa:(tr Γ (.set i a)).S D σ M=(tr Γ a).E σ M fun x M1=>D.nx (σ.set i (some x)) M1:=rfl
theorem qCJ:(tr Γ (.re a)).S D σ M=(tr Γ a).E σ M D.rt:=rfl
theorem qCM:(tr Γ (.if_ t a b)).S D σ M=(tr Γ t).T σ M fun c M1=>if c=true then(tr Γ a).S D σ M1 else(tr Γ b).S D σ M1:=by
 show qvF _ _ _ D σ M=_;unfold qvF;simp only[qck]
theorem qCO:(tr Γ (.ex a)).S D σ M=(tr Γ a).E σ M fun _ M1=>D.nx σ M1:=rfl
theorem qCI{c:Nat}{f:Str}:(tr Γ (.sf c f o a)).S D σ M=(tr Γ a).E σ M fun y M1=>(tr Γ o).E σ M1 (kSf (Γ.C c) f y (D.nx σ)):=rfl
theorem qCP:(tr Γ (.dp d k a)).S D σ M=(tr Γ a).E σ M fun v M1=>(tr Γ d).E σ M1 fun x M2=>(tr Γ k).E σ M2 fun y M3=>dPt M3 x y v (D.nx σ):=rfl
def kUn(is:List Nat)(σ:RSt)(N:RSt->RM->Prop):RVK:=fun x M=>match x with| .tup xs=>xs.length=is.length/\N (qdY σ is xs) M|_=>False
theorem ql9{is:List Nat}{xs:List RV}{N:RSt->RM->Prop}:kUn is σ N (.tup xs) M=(xs.length=is.length/\N (qdY σ is xs) M):=rfl
theorem qAj{is:List Nat}:(tr Γ (.un is a)).S D σ M=(tr Γ a).E σ M (kUn is σ D.nx):=rfl
theorem qin{i j:Int}:opR .Add (.int i) (.int j) M Q=Q (.int (i+j)) M:=rfl
theorem qxh{i j:Int}:opR .Sub (.int i) (.int j) M Q=Q (.int (i-j)) M:=rfl
theorem qx5{i j:Int}:cmR .Lt (.int i) (.int j) M Q=Q (.bl (decide (i<j))) M:=rfl
theorem qAU{i j:Int}:cmR .LtE (.int i) (.int j) M Q=Q (.bl (decide (i<=j))) M:=rfl
theorem qDM{i j:Int}:cmR .Gt (.int i) (.int j) M Q=Q (.bl (decide (j<i))) M:=rfl
theorem qDN{i j:Int}:cmR .GtE (.int i) (.int j) M Q=Q (.bl (decide (j<=i))) M:=rfl
theorem qDL{x:RV}:cmR .Is x .non M Q=Q (.bl (isN x)) M:=rfl
theorem qrS{x:RV}:cmR .IsNot x .non M Q=Q (.bl (!isN x)) M:=rfl
theorem qya{i j:Int}:cmR .Eq (.int i) (.int j) M Q=Q (.bl (i==j)) M:=by
 show(_/\_/\Q (.bl (eqR (.int i) (.int j))) M)=_;simp[qaW,okR,eqR]
theorem qx9{i j:Str}:cmR .Eq (.str i) (.str j) M Q=Q (.bl (i==j)) M:=by
 show(_/\_/\Q (.bl (eqR (.str i) (.str j))) M)=_;simp[qaW,okR,eqR]
theorem qx3{i j:Int}:cmR .NotEq (.int i) (.int j) M Q=Q (.bl (!(i==j))) M:=by
 show(_/\_/\Q (.bl (!eqR (.int i) (.int j))) M)=_;simp[qaW,okR,eqR]
end
section
variable {Γ:G}{σ:RSt}{M:RM}{Q:RVK}{D:RD}{a b c d e t l h o k r it:T}{i n:Nat}{QB:Bool->RM->Prop}{QA:List RV->RM->Prop}{QI:List RV->(RM->Prop)->(RM->RM)->RM->Prop}{x:Addr}{f:Str}{C:Addr}{N:RM->Prop}{y v z:RV}
def wO{α:Type}(o:Option α)(Q:α->Prop):Prop:=match o with|some v=>Q v|none=>False
theorem qhK{α:Type}{v:α}{Q:α->Prop}:wO (some v) Q=Q v:=rfl
def fO(C:Addr)(f:Str)(Q:RVK)(M:RM)(o:Option RO):Prop:=match o with
 |some (.ins C' fs)=>C'=C/\wO (fs.lookup f) fun v=>Q v M
 |_=>False
theorem qrg:kFl C f Q (.ref x) M=fO C f Q M (M x):=by
 show(match M x with|some (.ins C' fs)=>C'=C/\(match fs.lookup f with|some v=>Q v M|none=>False)|_=>False)=_
 unfold fO;cases M x with
 |none=>rfl
 |some u=>
  cases u<;>first|rfl|skip
  rename_i C' fs;show(C'=C/\(match fs.lookup f with|some v=>Q v M|none=>False))=(C'=C/\wO (fs.lookup f) fun v=>Q v M)
  cases fs.lookup f<;>rfl
theorem qaS{fs:List (Str×RV)}:fO C f Q M (some (.ins C fs))=wO (fs.lookup f) fun v=>Q v M:=by
 show(C=C/\_)=_;rw[eq_self_iff_true,true_and]
def sO(C:Addr)(f:Str)(y:RV)(N:RM->Prop)(x:Addr)(M:RM)(o:Option RO):Prop:=match o with
 |some (.ins C' fs)=>C'=C/\fs.length<1000/\N (put M x (.ins C (qgM f y fs)))
 |_=>False
theorem qra:kSf C f y N (.ref x) M=sO C f y N x M (M x):=rfl
theorem qaB{fs:List (Str×RV)}:sO C f y N x M (some (.ins C fs))=(fs.length<1000/\N (put M x (.ins C (qgM f y fs)))):=by
 show(C=C/\_)=_;rw[eq_self_iff_true,true_and]
def mO(C:Addr)(m:Str)(sp:RSp)(t:RTA)(σ:RSt)(Q:RVK)(x:Addr)(M:RM)(o:Option RO):Prop:=match o with
 |some (.ins C' fs)=>C'=C/\fs.lookup m=none/\t σ M fun rs M2=>sp (.ref x::rs) M2 Q
 |_=>False
theorem qrc{m:Str}{sp:RSp}{t:RTA}:kMe C m sp t σ Q (.ref x) M=mO C m sp t σ Q x M (M x):=rfl
theorem qaE{m:Str}{sp:RSp}{t:RTA}{fs:List (Str×RV)}:mO C m sp t σ Q x M (some (.ins C fs))=(fs.lookup m=none/\t σ M fun rs M2=>sp (.ref x::rs) M2 Q):=by
 show(C=C/\_)=_;rw[eq_self_iff_true,true_and]
def gO(Q:RVK)(y:RV)(M:RM)(o:Option RO):Prop:=match o.bind (qsi · y)with
 |some (some v)=>Q v M
 |_=>False
theorem qnv:qst Q (.ref x) y M=gO Q y M (M x):=rfl
def iO(neg:Bool)(Q:RVK)(y:RV)(M:RM)(o:Option RO):Prop:=match o.bind (qsi · y)with
 |some r=>Q (.bl (if neg then !r.isSome else r.isSome)) M
 |none=>False
theorem qpY{neg:Bool}:uIn neg Q (.ref x) y M=iO neg Q y M (M x):=rfl
def dO(Q:RVK)(y z:RV)(M:RM)(o:Option RO):Prop:=match o.bind (qsi · y)with
 |some r=>Q (r.getD z) M
 |none=>False
theorem qf9:qkJ Q (.ref x) y z M=dO Q y z M (M x):=rfl
def qO(o:Option RO):Prop:=match o with
 |some (.dk _)=>True
 |some (.dt _)=>True
 |some (.fk _)=>True
 |some (.ft _)=>True
 |_=>False
theorem qrx:isD M (.ref x)=qO (M x):=rfl
theorem qwZ{kvs:List (TK×RV)}:qO (some (.dt kvs))=True:=rfl
theorem quI{kvs:List (Key×RV)}{m:Int}:gO Q (.int m) M (some (.dk kvs))=wO (lk kvs (.inl m)) fun v=>Q v M:=by
 show(match some (lk kvs (.inl m))with|some (some v)=>Q v M|_=>False)=_
 cases lk kvs (.inl m)<;>rfl
theorem quG{kvs:List (TK×RV)}{s:TK}(h:qco y=some s):gO Q y M (some (.dt kvs))=wO (lk kvs s) fun v=>Q v M:=by
 show(match(qco y).map (lk kvs)with|some (some v)=>Q v M|_=>False)=_
 rw[h];show(match some (lk kvs s)with|some (some v)=>Q v M|_=>False)=_
 cases lk kvs s<;>rfl
theorem qxH{neg:Bool}{kvs:List (Key×RV)}{m:Int}:iO neg Q (.int m) M (some (.dk kvs))=Q (.bl (if neg then !(lk kvs (.inl m)).isSome else(lk kvs (.inl m)).isSome)) M:=rfl
theorem qxG{neg:Bool}{kvs:List (TK×RV)}{s:TK}(h:qco y=some s):iO neg Q y M (some (.dt kvs))=Q (.bl (if neg then !(lk kvs s).isSome else(lk kvs s).isSome)) M:=by
 show(match(qco y).map (lk kvs)with|some r=>Q (.bl (if neg then !r.isSome else r.isSome)) M|none=>False)=_
 rw[h];rfl
theorem quU{kvs:List (TK×RV)}{s:TK}(h:qco y=some s):dO Q y z M (some (.dt kvs))=Q ((lk kvs s).getD z) M:=by
 show(match(qco y).map (lk kvs)with|some r=>Q (r.getD z) M|none=>False)=_
 rw[h];rfl
def pO(y v:RV)(N:RM->Prop)(x:Addr)(M:RM)(o:Option RO):Prop:=match o with
 |some (.dk kvs)=>match qfc y with
  |some k=>kvs.length<sizeLine/\N (put M x (.dk (pt kvs k v)))
  |none=>False
 |some (.dt kvs)=>match qco y with
  |some k=>kvs.length<sizeLine/\N (put M x (.dt (pt kvs k v)))
  |none=>False
 |_=>False
theorem qiT:dPt M (.ref x) y v N=pO y v N x M (M x):=rfl
theorem qtO{kvs:List (Key×RV)}{m:Int}:pO (.int m) v N x M (some (.dk kvs))=(kvs.length<sizeLine/\N (put M x (.dk (pt kvs (.inl m) v)))):=rfl
theorem qik{kvs:List (TK×RV)}{s:TK}(h:qco y=some s):pO y v N x M (some (.dt kvs))=(kvs.length<sizeLine/\N (put M x (.dt (pt kvs s v)))):=by
 show(match qco y with|some k=>kvs.length<sizeLine/\N (put M x (.dt (pt kvs k v)))|none=>False)=_
 rw[h]
def aO(t:RTA)(σ:RSt)(Q:RVK)(x:Addr)(M:RM)(o:Option RO):Prop:=match o with
 |some (.lst _)=>t σ M fun rs M2=>∃ ys y,rs= [y]/\M2 x=some (.lst ys)/\ys.length<sizeLine/\Q .non (put M2 x (.lst (ys++ [y])))
 |_=>False
def kAp(t:RTA)(σ:RSt)(Q:RVK):RVK:=fun v M=>match v with
 | .ref x=>aO t σ Q x M (M x)
 |_=>False
theorem qCl:(tr Γ (.ap o a)).E σ M Q=(tr Γ o).E σ M (kAp (tr Γ a).A σ Q):=by
 show qvG _ _ σ M Q=_;unfold qvG;congr 1;funext v M1;cases v<;>try rfl
 rename_i p;show((∃ ys,M1 p=some (.lst ys))/\_)=aO _ _ _ p M1 (M1 p);cases e:M1 p with
 |none=>exact propext ⟨fun z=>(by obtain⟨⟨_,z⟩,_⟩:=z;cases z),fun z=>z.elim⟩
 |some u=>cases u<;>first|exact propext ⟨fun z=>(by obtain⟨⟨_,z⟩,_⟩:=z;cases z),fun z=>z.elim⟩|exact propext ⟨fun z=>z.2,fun z=>⟨⟨_,rfl⟩,z⟩⟩
theorem qri{t:RTA}:kAp t σ Q (.ref x) M=aO t σ Q x M (M x):=rfl
theorem qvl{t:RTA}{xs:List RV}:aO t σ Q x M (some (.lst xs))=t σ M fun rs M2=>∃ ys y,rs= [y]/\M2 x=some (.lst ys)/\ys.length<sizeLine/\Q .non (put M2 x (.lst (ys++ [y]))):=rfl
theorem xi_tup{xs:List RV}{m:Int}:rIx (.tup xs) (.int m) M Q=wO (atI xs m) fun v=>Q v M:=by
 show(match atI xs m with|some v=>Q v M|none=>False)=_
 cases atI xs m<;>rfl
theorem qsm{xs:List RV}{m:Int}:rIx (.ls xs) (.int m) M Q=wO (atI xs m) fun v=>Q v M:=by
 show(match atI xs m with|some v=>Q v M|none=>False)=_
 cases atI xs m<;>rfl
def xO(m:Int)(Q:RVK)(M:RM)(o:Option RO):Prop:=match o with
 |some (.lst xs)=>wO (atI xs m) fun v=>Q v M
 |_=>False
theorem qsl{m:Int}:rIx (.ref x) (.int m) M Q=xO m Q M (M x):=by
 show(match M x with|some (.lst xs)=>(match atI xs m with|some v=>Q v M|none=>False)|_=>False)=_
 unfold xO;cases M x with
 |none=>rfl
 |some u=>
  cases u<;>first|rfl|skip
  rename_i xs;show(match atI xs m with|some v=>Q v M|none=>False)=wO (atI xs m) fun v=>Q v M
  cases atI xs m<;>rfl
theorem qso{m:Int}{xs:List RV}:xO m Q M (some (.lst xs))=wO (atI xs m) fun v=>Q v M:=rfl
theorem qpP{xs:List RV}{lo hi:Option Int}:qnQ (.tup xs) lo hi M Q=Q (.tup (qhv xs lo hi)) M:=rfl
theorem qx0{xs:List RV}{lo hi:Option Int}:qnQ (.ls xs) lo hi M Q=Q (.ls (qhv xs lo hi)) M:=rfl
theorem qB1{md:Bool}:(tr Γ (.lv md a)).E σ M Q=(tr Γ a).E σ M (kLv md Q):=rfl
def vO(md:Bool)(Q:RVK)(M:RM)(o:Option RO):Prop:=wO (o.bind qmR) fun xs=>qrE md xs M Q
theorem qrd{md:Bool}:kLv md Q (.ref x) M=vO md Q M (M x):=by
 show(match(M x).bind qmR with|some xs=>qrE md xs M Q|none=>False)=_
 unfold vO;cases(M x).bind qmR<;>rfl
theorem qvT{md:Bool}{kvs:List (TK×RV)}:vO md Q M (some (.dt kvs))=qrE md (kvs.map (·.2)) M Q:=rfl
theorem qju{xs:List RV}:qrE false xs M Q=Q (.ls xs) M:=rfl
noncomputable def kPr (i j:Nat)(σ:RSt)(N:RSt->RM->Prop):List RV->RM->Prop:=fun rs M1=>match rs with
 | [v,w]=>N ((σ.set i (some v)).set j (some w)) M1
 |_=>False
theorem qCL{j:Nat}:(tr Γ (.pr i j a)).S D σ M=(tr Γ a).A σ M (kPr i j σ D.nx):=rfl
theorem qrb{j:Nat}{N:RSt->RM->Prop}:kPr i j σ N [v,y] M=N ((σ.set i (some v)).set j (some y)) M:=rfl
theorem qCH:(tr Γ (.sp l k a)).S D σ M=(tr Γ a).E σ M fun v M1=>(tr Γ l).E σ M1 fun o M2=>(tr Γ k).E σ M2 fun i M3=>qif o i v M3 fun M4=>D.nx σ M4:=rfl
theorem qCN{tup:Bool}{is:List Nat}:(tr Γ (.fo tup is it b)).S D σ M=(tr Γ it).I σ M fun xs ok un M1=>qdA (match tup,is with|true,is=>rgU is|false,[i]=>rgN i|_,_=>fun _ _ _ _=>False) (tr Γ b).S D ok un xs σ M1:=rfl
noncomputable def kS (Q:List RV->(RM->Prop)->(RM->RM)->RM->Prop):RVK:=fun v M1=>match v with
 | .tup xs=>Q xs okT id M1
 | .ls xs=>Q xs okT id M1
 | .ref a=>match M1 a with
  |some (.lst xs)=>Q xs (fun M=>M a=some (.lst xs)) id M1
  |_=>False
 |_=>False
theorem qDx:(tr Γ (.is a)).I σ M QI=(tr Γ a).E σ M (kS QI):=rfl
theorem qxx{xs:List RV}:kS QI (.ls xs) M=QI xs okT id M:=rfl
theorem quq{xs:List RV}:kS QI (.tup xs) M=QI xs okT id M:=rfl
theorem qDw:(tr Γ (.r1 a)).I σ M QI=(tr Γ a).E σ M fun v M1=>qls QI [v] M1:=rfl
theorem qwT{m:Int}:qls QI [.int m] M=(-(2 ^ 62)<=m/\m<2 ^ 62/\QI (nums m.toNat) okT id M):=rfl
theorem qxD:(tr Γ (.ik a)).I σ M QI=(tr Γ a).E σ M (qpv true QI):=rfl
theorem qDy:(tr Γ (.im a)).I σ M QI=(tr Γ a).E σ M (qrf QI):=rfl
theorem qsc{md tup:Bool}{nm:List Str}{cap:List (Nat×Str)}:(tr Γ (.cp md tup nm cap it t a)).E σ M Q=(tr Γ it).I σ M fun xs ok un M1=>xs.length<sizeLine/\qaR (qhF tup nm.length) md ok un (tr Γ t).T (tr Γ a).E ((cap.map Prod.fst).map fun i=>(σ[i]?).join) xs [] M1 Q:=rfl
theorem qse{md tup:Bool}{nm:List Str}{cap:List (Nat×Str)}:(tr Γ (.sc i md tup nm cap it t a)).S D σ M=(tr Γ (.cp md tup nm cap it t a)).E σ M fun x M1=>D.nx (σ.set i (some x)) M1:=rfl
theorem qbq{bd:RV->Option (List RV)}{md:Bool}{ok:RM->Prop}{un:RM->RM}{tt:RTT}{te:RTE}{base:List (Option RV)}{Q:RVK}{M:RM}(p:RV->Bool)(g:RV->RV)(hok:ok M):∀ (xs acc:List RV),
 (∀ x∈xs,∃ bs,bd x=some bs/\(∀ K:Bool->RM->Prop,K (p x) M->tt (bs.map some++base) M K)/\(p x=true->∀ K:RVK,K (g x) M->te (bs.map some++base) M K))->
 qrE md (acc++(xs.filter p).map g) (un M) Q->qaR bd md ok un tt te base xs acc M Q
 | [],acc,_,h=>⟨hok,by simpa using h⟩
 |x::xs,acc,hx,h=>by
  obtain⟨bs,h1,h2,h3⟩:=hx x (.head _);have hx':=fun y hy=>hx y (wap x hy)
  refine⟨hok,?_⟩;rw[h1];refine h2 _ ⟨fun hp=>h3 hp _ (qbq p g hok xs _ hx' ?_),fun hp=>qbq p g hok xs _ hx' ?_⟩
  · rw[List.filter_cons_of_pos hp,wad]at h
    simpa using h
  · rw[List.filter_cons_of_neg (by simp[hp])]at h
    exact h
theorem qmH{g:RTG}{tb:RTS}{ok:RM->Prop}{un:RM->RM}(I:List RV->RSt->RM->Prop)(hok:∀ xs σ M,I xs σ M->ok M)(hend:∀ σ M,I [] σ M->D.nx σ (un M))
 (hstep:∀ x xs σ M (W:List RV->RSt->RM->Prop),I (x::xs) σ M->(∀ σ' M',I xs σ' M'->W xs σ' M')->g x σ M fun σ2 M2=>tb { D with nx:=W xs,ct:=W xs,bk:=fun σ M=>ok M/\D.nx σ (un M),rt:=fun v M=>ok M/\D.rt v (un M) } σ2 M2):∀ xs σ M,I xs σ M->qdA g tb D ok un xs σ M
 | [],σ,M,h=>⟨hok _ _ _ h,hend _ _ h⟩
 |x::xs,σ,M,h=>⟨hok _ _ _ h,hstep x xs σ M (fun xs=>qdA g tb D ok un xs) h fun σ' M' h'=>qmH I hok hend hstep xs σ' M' h'⟩
theorem qvi{i:Int}:bfR "isinstance" [.int i,.ty "int"] M Q=Q (.bl true) M:=rfl
theorem qvj{i:Int}:bfR "isinstance" [.int i,.ty "bool"] M Q=Q (.bl false) M:=rfl
theorem qr2{b:Bool}:bfR "isinstance" [.bl b,.ty "bool"] M Q=Q (.bl true) M:=rfl
theorem qvh{x:Str}:bfR "isinstance" [.str x,.ty "str"] M Q=Q (.bl true) M:=rfl
theorem qvg{xs:List RV}:bfR "isinstance" [.tup xs,.ty "tuple"] M Q=Q (.bl true) M:=rfl
theorem qrZ{xs:List RV}:bfR "len" [.tup xs] M Q=Q (.int xs.length) M:=rfl
theorem qr0{x:Str}:bfR "len" [.str x] M Q=(x.length<=sizeLine/\Q (.int x.length) M):=rfl
theorem qr1{xs:List RV}:bfR "len" [.ls xs] M Q=Q (.int xs.length) M:=rfl
theorem qvf{i j:Int}:bfR "max" [.int i,.int j] M Q=Q (.int (if j > i then j else i)) M:=rfl
theorem qve{x:Str}:bfR "ord" [.str x] M Q=(x.length=1/\Q (.int (x.cps.getD 0 0:Nat)) M):=rfl
theorem qpQ{bs:List Bool}:bfR "all" [.ls (bs.map RV.bl)] M Q=Q (.bl (bs.all id)) M:=by
 refine propext ⟨fun h=>?_,fun h=>⟨bs,rfl,h⟩⟩
 obtain⟨bs',e,h⟩:=h;have e:bs.map RV.bl=bs'.map RV.bl:=by injection e with e1 _;injection e1
 have:bs=bs':=List.map_inj_right (fun a b z=>by cases z;rfl)|>.mp e
 subst this;exact h
theorem qvk{a b:Bool}:(if a=true then Q (.bl b) M else Q (.bl false) M)=Q (.bl (a&&b)) M:=by cases a<;>rfl
theorem qCK:(tr Γ .ra).S D σ M=False:=rfl
theorem qDu:(tr Γ (.st a)).I σ M QI=(tr Γ a).E σ M fun v M1=>match v with| .str x=>QI (qb9 x) okT id M1|_=>False:=rfl
theorem qrt:isN .non=true:=rfl
theorem qrr{x:Str}:isN (.str x)=false:=rfl
theorem qru{i:Int}:isN (.int i)=false:=rfl
theorem qrs:isN (.ref x)=false:=rfl
theorem qu4{x:Str}:cmR .Eq .non (.str x) M Q=Q (.bl false) M:=by
 show(_/\_/\Q (.bl (eqR .non (.str x))) M)=_;simp[qaW,okR,eqR]
theorem qb1{α:Type}{xs:List α}{k:Nat}{v:α}(h:xs[k]? =some v):atI xs (k:Int)=some v:=by
 have hk:k<xs.length:=(List.getElem?_eq_some_iff.mp h).1;have e:ixN xs.length (k:Int)=some k:=by
  unfold ixN;simp;omega
 unfold atI;rw[e];exact h
theorem qvL{α:Type}{a0:α}{r:List α}:atI (a0::r) 0=some a0:=qb1 (k:=0) rfl
theorem qyf{α:Type}{a0 a1:α}{r:List α}:atI (a0::a1::r) 1=some a1:=qb1 (k:=1) rfl
theorem qye{α:Type}{a0 a1 a2:α}{r:List α}:atI (a0::a1::a2::r) 2=some a2:=qb1 (k:=2) rfl
theorem qAX{α:Type}{a0 a1 a2 a3:α}{r:List α}:atI (a0::a1::a2::a3::r) 3=some a3:=qb1 (k:=3) rfl
theorem qyd{α:Type}{a0 a1 a2 a3 a4:α}{r:List α}:atI (a0::a1::a2::a3::a4::r) 4=some a4:=qb1 (k:=4) rfl
theorem qAW{α:Type}{a0 a1 a2 a3 a4 a5:α}{r:List α}:atI (a0::a1::a2::a3::a4::a5::r) 5=some a5:=qb1 (k:=5) rfl
theorem qAV{α:Type}{a0 a1 a2 a3 a4 a5 a6 a7:α}{r:List α}:atI (a0::a1::a2::a3::a4::a5::a6::a7::r) 7=some a7:=qb1 (k:=7) rfl
theorem z_0:(0<=sizeLine)=True:=eq_true (by decide)
theorem z_1:(1<=sizeLine)=True:=eq_true (by decide)
theorem qBt:(1<sizeLine)=True:=eq_true (by decide)
theorem qDK:((1:Nat):Int)=1:=rfl
theorem z_2:(2<=sizeLine)=True:=eq_true (by decide)
theorem z_3:(3<=sizeLine)=True:=eq_true (by decide)
theorem z_4:(4<=sizeLine)=True:=eq_true (by decide)
theorem qDJ:((4:Nat):Int)=4:=rfl
theorem z_5:(5<=sizeLine)=True:=eq_true (by decide)
theorem qDI:((7:Nat):Int)=7:=rfl
theorem z_8:(8<=sizeLine)=True:=eq_true (by decide)
theorem qDH:((8:Nat):Int)=8:=rfl
theorem qua{k:Nat}:(((k+1:Nat):Int)==0)=false:=by simp;omega
theorem qxZ{x:RV}{r:List RV}:qhv (x::r) (some 1) none=r:=by
 unfold qhv;rw[show HT.sIx (x::r).length 0 (some 1)=1 from by show min 1 (r.length+1)=1;omega,HT.sIx_none]
 simp
def tO(key:Option Key)(kvs:List (Key×RV))(Q:RVK)(M:RM):Prop:=match key with
 |some k=>wO (qa0 kvs k) fun v=>Q v M
 |none=>False
theorem qBS{x:Str}:(tr Γ (.tx x a)).E σ M Q=(tr Γ a).E σ M fun y M1=>tO (qfc y) (Γ.tb x) Q M1:=by
 show qvA (Γ.tb x) _ σ M Q=_;unfold qvA;congr 1;funext y M1;unfold tO wO;generalize qfc y=q;cases q with
 |none=>rfl
 |some k=>
  dsimp only;cases qa0 (Γ.tb x) k<;>rfl
theorem qsE{x:Str}{kvs:List (Key×RV)}:tO (qfc (.str x)) kvs Q M=wO (qa0 kvs (.inr x)) fun v=>Q v M:=rfl
theorem qBU{x:Str}:(tr Γ (.tn x a)).E σ M Q=(tr Γ a).E σ M (qdS (Γ.tb x) Q):=rfl
theorem qq8{x:Str}{kvs:List (Key×RV)}:qdS kvs Q (.str x) M=Q (.bl (!(qa0 kvs (.inr x)).isSome)) M:=rfl
noncomputable def kCv (cvs:List (Addr×RSp))(t:RTA)(σ:RSt)(Q:RVK):RVK:=fun v M1=>match v with
 | .ref f=>∃ sp,(f,sp)∈cvs/\t σ M1 fun rs M2=>sp rs M2 Q
 |_=>False
theorem qCf:(tr Γ (.cv i a)).E σ M Q=(tr Γ (.v i)).E σ M (kCv Γ.cvs (tr Γ a).A σ Q):=rfl
theorem qmc{cvs:List (Addr×RSp)}{t:RTA}:kCv cvs t σ Q (.ref x) M= ∃ sp,(x,sp)∈cvs/\t σ M fun rs M2=>sp rs M2 Q:=rfl
theorem qB2:(tr Γ (.lr a b)).E σ M Q=(tr Γ a).E σ M fun x M1=>(tr Γ b).E σ M1 fun y M2=>kLR Q [x,y] M2:=rfl
theorem qre{i j:Int}:kLR Q [.int i,.int j] M=((-1000000<=i/\i<=1000000/\-1000000<=j/\j<=1000000)/\(j-i).toNat<=1000/\Q (.ls (qa4 i (j-i).toNat)) M):=rfl
theorem qCQ:(tr Γ (.dd d k)).S D σ M=(tr Γ d).E σ M fun x M1=>(tr Γ k).E σ M1 fun y M2=>atKey M2 x y fun a kvs k=>(qa0 kvs k).isSome=true/\D.nx σ (put M2 a (.dk (qoB kvs k))):=rfl
theorem qt2{xs ys:List RV}:opR .Add (.ls xs) (.ls ys) M Q=(xs.length+ys.length<=sizeLine/\Q (.ls (xs++ys)) M):=rfl
theorem qgR{xs ys:List RV}:opR .Add (.tup xs) (.tup ys) M Q=(xs.length+ys.length<=sizeLine/\Q (.tup (xs++ys)) M):=rfl
theorem qDv:(tr Γ (.r2 a b)).I σ M QI=(tr Γ a).E σ M fun x M1=>(tr Γ b).E σ M1 fun y M2=>qjc QI [x,y] M2:=rfl
theorem qkU{xs:List RV}:bfR "sorted" [.ls xs] M Q=qq9 xs M Q:=rfl
theorem qo5{kvs:List (Key×RV)}{ns:List Int}(h:M x=some (.dk kvs))(hk:kvs.map (·.1)=ns.map Sum.inl)(hl:ns.length<64)(hq:∀ ns':List Int,ns'.Perm ns->ns'.Pairwise (· <= ·)->Q (.ls (ns'.map RV.int)) M):bfR "sorted" [.ref x] M Q:=by
 show qgK [.ref x] M Q;unfold qgK;simp only[h];exact⟨x,kvs,ns,rfl,h,hk,hl,hq⟩
theorem qem{rows:List TK}(hl:rows.length<64)(hk:qca rows=true)(hq:Q (.ls ((qeJ rows).map qaD)) M):qq9 (rows.map qaD) M Q:=by
 have e:∀ rows:List TK,rowsOf (rows.map qaD)=some rows:=by
  intro rows
  induction rows with
  |nil=>rfl
  |cons r rs ih=>
   have kt:∀ k:TK,qj4 (k.map oR)=some k:=by
    intro k
    induction k with
    |nil=>rfl
    |cons o k ihk=>
     have e1:qpo (oR o)=some o:=by cases o with|none=>rfl|some z=>cases z<;>rfl
     show(match qpo (oR o),qj4 (k.map oR)with|some k,some ks=>some (k::ks)|_,_=>none)=_
     rw[e1,ihk]
   show(match qco (qaD r),rowsOf (rs.map qaD)with|some k,some ks=>some (k::ks)|_,_=>none)=_
   rw[show qco (qaD r)=some r from kt r,ih]
 unfold qq9;rw[e];exact⟨hl,hk,hq⟩
theorem qxk{i j:Int}:opR .Mod (.int i) (.int j) M Q=(0<j/\Q (.int (i % j)) M):=rfl
theorem qxl{i j:Int}:opR .FloorDiv (.int i) (.int j) M Q=((0<j/\j<1073741824)/\Q (.int (i / j)) M):=rfl
theorem qxi{i j:Int}:opR .Pow (.int i) (.int j) M Q=((0<=j/\j<=1000000/\i.natAbs<2 ^ 64)/\Q (.int (i ^ j.toNat)) M):=rfl
theorem qxj{i j:Int}:opR .Mult (.int i) (.int j) M Q=(CMul i j/\Q (.int (i*j)) M):=rfl
def lO(k:Int)(v:RV)(N:RM->Prop)(x:Addr)(M:RM)(o:Option RO):Prop:=match o with
 |some (.lst xs)=>wO (ixN xs.length k) fun j=>N (put M x (.lst (xs.set j v)))
 |_=>False
theorem qp6{m:Int}:qif (.ref x) (.int m) v M N=lO m v N x M (M x):=by
 show(match M x with|some (.lst xs)=>(match ixN xs.length m with|some j=>N (put M x (.lst (xs.set j v)))|none=>False)|_=>False)=_
 unfold lO;cases M x with
 |none=>rfl
 |some u=>
  cases u<;>first|rfl|skip
  rename_i xs;show(match ixN xs.length m with|some j=>N (put M x (.lst (xs.set j v)))|none=>False)=wO (ixN xs.length m) fun j=>N (put M x (.lst (xs.set j v)))
  cases ixN xs.length m<;>rfl
theorem qug{m:Int}{xs:List RV}:lO m v N x M (some (.lst xs))=wO (ixN xs.length m) fun j=>N (put M x (.lst (xs.set j v))):=rfl
theorem qxA:ixN 3 0=some 0:=rfl
theorem qxz:ixN 3 1=some 1:=rfl
theorem qxy:ixN 3 2=some 2:=rfl
end
end R
namespace K06
open PySem PySem.Spec PyProof.Rows L2 R
def top(i:Nat):Stmt:=PySem.Challenge.pw_lentgate_k06_first_letters_out.main.body.getD i (.Pass ⟨0,0,0,0⟩)
noncomputable def qb4:FD:=⟨0,0,"is_whole",["thing"],["thing"],.se (.re (.an (.bf "isinstance" (.ec (.v 0) (.ec (.ty "int") .e0))) (.no (.bf "isinstance" (.ec (.v 0) (.ec (.ty "bool") .e0)))))) .en⟩
noncomputable def qb7:FD:=⟨0,0,"is_house",["thing"],["thing"],.se (.re (.ca 45 (.ec (.v 0) (.ec (.i 0) (.ec (.g "GREATEST_HOUSE") .e0))))) .en⟩
noncomputable def qcN:FD:=⟨0,0,"is_door",["thing"],["thing"],.se (.re (.ca 45 (.ec (.v 0) (.ec (.i 1) (.ec (.g "GREATEST_DOOR") .e0))))) .en⟩
noncomputable def qb6:FD:=⟨0,0,"is_place",["thing"],["thing"],.se (.re (.ca 45 (.ec (.v 0) (.ec (.i 0) (.ec (.g "GREATEST_PLACE") .e0))))) .en⟩
noncomputable def qcL:FD:=⟨0,0,"is_kind",["thing"],["thing"],.se (.re (.ic false (.v 0) "KINDS")) .en⟩
noncomputable def qcI:FD:=⟨0,0,"is_sign",["sign"],["sign","at"],.se (.set 1 (.bf "ord" (.ec (.v 0) .e0))) (.se (.re (.an (.ch .LtE .LtE (.g "FIRST_SIGN") (.v 1) (.g "LAST_SIGN")) (.cm .NotEq (.v 1) (.g "PERCENT_SIGN")))) .en)⟩
noncomputable def qcH:FD:=⟨0,0,"is_text",["thing"],["thing"],.se (.if_ (.or (.no (.bf "isinstance" (.ec (.v 0) (.ec (.ty "str") .e0)))) (.cm .Gt (.bf "len" (.ec (.v 0) .e0)) (.g "MOST_SIGNS"))) (.se (.re (.b false)) .en) .en) (.se (.re (.bf "all" (.ec (.cp false false ["sign"] [] (.st (.v 0)) (.b true) (.ca 5 (.ec (.v 0) .e0))) .e0))) .en)⟩
noncomputable def qcK:FD:=⟨0,0,"is_out",["parts"],["parts","kind","house","door","place","far","word","text"],.se (.if_ (.cm .NotEq (.bf "len" (.ec (.v 0) .e0)) (.i 7)) (.se (.re (.b false)) .en) .en) (.se (.un [1,2,3,4,5,6,7] (.v 0)) (.se (.re (.an (.ca 1 (.ec (.v 2) .e0)) (.an (.ca 2 (.ec (.v 3) .e0)) (.an (.ca 3 (.ec (.v 4) .e0)) (.an (.ca 2 (.ec (.v 5) .e0)) (.ca 46 (.ec (.v 1) (.ec (.v 6) (.ec (.v 7) .e0))))))))) .en))⟩
noncomputable def qcF:FD:=⟨0,0,"name_of",["thing"],["thing"],.se (.if_ (.or (.no (.bf "isinstance" (.ec (.v 0) (.ec (.ty "tuple") .e0)))) (.or (.cm .Eq (.bf "len" (.ec (.v 0) .e0)) (.i 0)) (.no (.bf "isinstance" (.ec (.ix (.v 0) (.i 0)) (.ec (.ty "str") .e0)))))) (.se (.re .n) .en) .en) (.se (.re (.ix (.v 0) (.i 0))) .en)⟩
noncomputable def qcO:FD:=⟨0,0,"is_deed",["thing"],["thing","name","has_parts"],.se (.set 1 (.ca 8 (.ec (.v 0) .e0))) (.se (.if_ (.tn "DEEDS" (.v 1)) (.se (.re (.b false)) .en) .en) (.se (.set 2 (.tx "DEEDS" (.v 1))) (.se (.re (.cv 2 (.ec (.sl (.v 0) (.p1 (.i 1)) .p0) .e0))) .en)))⟩
noncomputable def qb5:FD:=⟨0,0,"is_times",["thing"],["thing","lives"],.se (.if_ (.or (.no (.bf "isinstance" (.ec (.v 0) (.ec (.ty "tuple") .e0)))) (.cm .NotEq (.bf "len" (.ec (.v 0) .e0)) (.i 4))) (.se (.re (.b false)) .en) .en) (.se (.set 1 (.bf "all" (.ec (.cp false false ["time"] [] (.is (.sl (.v 0) .p0 (.p1 (.i 3)))) (.b true) (.ca 45 (.ec (.v 0) (.ec (.i 1) (.ec (.g "GREATEST_TIME") .e0))))) .e0))) (.se (.re (.an (.v 1) (.ca 45 (.ec (.ix (.v 0) (.i 3)) (.ec (.i 0) (.ec (.g "GREATEST_TIME") .e0)))))) .en))⟩
noncomputable def qcM:FD:=⟨0,0,"is_form",["thing"],["thing","low","high","lending","sieve","pick","most","renew","times"],.se (.if_ (.or (.no (.bf "isinstance" (.ec (.v 0) (.ec (.ty "tuple") .e0)))) (.cm .NotEq (.bf "len" (.ec (.v 0) .e0)) (.i 8))) (.se (.re (.b false)) .en) .en) (.se (.un [1,2,3,4,5,6,7,8] (.v 0)) (.se (.if_ (.or (.ic true (.v 3) "LENDINGS") (.or (.ic true (.v 4) "SIEVES") (.ic true (.v 5) "PICKS"))) (.se (.re (.b false)) .en) .en) (.se (.if_ (.or (.no (.ca 45 (.ec (.v 6) (.ec (.i 1) (.ec (.g "GREATEST_MOST") .e0))))) (.no (.bf "isinstance" (.ec (.v 7) (.ec (.ty "bool") .e0))))) (.se (.re (.b false)) .en) .en) (.se (.re (.an (.ca 23 (.ec (.v 1) (.ec (.v 2) .e0))) (.ca 10 (.ec (.v 8) .e0)))) .en))))⟩
noncomputable def qa9:FD:=⟨2,0,"__init__",["self"],["self"],.se (.sf 0 "many_told" (.v 0) (.i 0)) (.se (.sf 0 "standing" (.v 0) .dk) .en)⟩
noncomputable def qaH:FD:=⟨1,1,"from_mark",["self"],["self"],.se (.re (.op .Add (.lr (.fl 1 "mark" (.v 0)) (.op .Add (.fl 1 "high" (.v 0)) (.i 1))) (.lr (.fl 1 "low" (.v 0)) (.fl 1 "mark" (.v 0))))) .en⟩
noncomputable def qaN:FD:=⟨1,3,"living",["self"],["self"],.se (.re (.lv false (.fl 3 "by_inner" (.v 0)))) .en⟩
noncomputable def qb3:FD:=⟨0,0,"talk_row",["talk"],["talk","kind","house","door","place","far"],.se (.un [1,2,3,4,5] (.fl 2 "inner" (.v 0))) (.se (.re (.tu (.ec (.v 1) (.ec (.fl 2 "number" (.v 0)) (.ec (.v 2) (.ec (.v 3) (.ec (.v 4) (.ec (.v 5) (.ec (.fl 2 "state" (.v 0)) (.ec (.fl 2 "over" (.v 0)) .e0)))))))))) .en)⟩
noncomputable def qbo:FD:=⟨1,4,"free",["self"],["self"],.se (.re (.me 30 (.fl 3 "pool" (.fl 4 "table" (.v 0))) (.ec (.fl 3 "now" (.fl 4 "table" (.v 0))) .e0))) .en⟩
noncomputable def qbc:FD:=⟨1,4,"lends",["self"],["self"],.se (.re (.bf "sorted" (.ec (.cp false true ["number","holder"] [] (.im (.fl 3 "holders" (.fl 4 "table" (.v 0)))) (.b true) (.op .Add (.tu (.ec (.v 0) .e0)) (.v 1))) .e0))) .en⟩
noncomputable def qba:FD:=⟨1,4,"talks",["self"],["self"],.se (.re (.bf "sorted" (.ec (.cp false false ["talk"] [] (.is (.me 14 (.fl 4 "table" (.v 0)) .e0)) (.b true) (.ca 15 (.ec (.v 0) .e0))) .e0))) .en⟩
noncomputable def qbb:FD:=⟨1,4,"rests",["self"],["self"],.se (.re (.me 29 (.fl 3 "pool" (.fl 4 "table" (.v 0))) (.ec (.fl 3 "now" (.fl 4 "table" (.v 0))) .e0))) .en⟩
noncomputable def qbu:FD:=⟨0,0,"_law_whole",["found"],["found"],.se (.re (.an (.bf "isinstance" (.ec (.v 0) (.ec (.ty "int") .e0))) (.no (.bf "isinstance" (.ec (.v 0) (.ec (.ty "bool") .e0)))))) .en⟩
noncomputable def f_law:FD:=⟨0,0,"law",["script"],["script","bag","form","houses","doors","places","fars","gate","numbers","ends","mark","cells","k","holders","holder","due","inner","found","number"],.se (.set 1 (.ca 40 (.ec (.ca 39 (.ec (.v 0) (.ec (.i 0) .e0))) (.ec (.i 0) .e0)))) (.se (.set 2 (.ca 54 (.ec (.v 1) (.ec (.ix (.ll (.ec (.s "door") (.ec (.s "place") (.ec (.s "talk") .e0)))) (.ca 41 (.ec (.v 1) (.ec (.i 3) .e0)))) (.ec (.ix (.ll (.ec (.s "all") (.ec (.s "place") (.ec (.s "talk") .e0)))) (.ca 41 (.ec (.v 1) (.ec (.i 3) .e0)))) .e0))))) (.se (.sc 3 false false ["k"] [(1,"bag")] (.r1 (.i 3)) (.b true) (.ca 41 (.ec (.v 1) (.ec (.i 100) .e0)))) (.se (.set 4 (.ll (.ec (.op .Add (.ix (.v 2) (.i 0)) (.ca 41 (.ec (.v 1) (.ec (.i 200) .e0)))) (.ec (.op .Add (.i 1) (.ca 41 (.ec (.v 1) (.ec (.i 9999) .e0)))) (.ec (.op .Add (.ix (.v 2) (.i 0)) (.ca 41 (.ec (.v 1) (.ec (.i 3) .e0)))) .e0))))) (.se (.sc 5 false false ["k"] [(1,"bag")] (.r1 (.i 3)) (.b true) (.op .Add (.i 1) (.ca 41 (.ec (.v 1) (.ec (.i 1000000) .e0))))) (.se (.sc 6 false false ["k"] [(1,"bag")] (.r1 (.i 3)) (.b true) (.op .Add (.i 1) (.ca 41 (.ec (.v 1) (.ec (.i 9999) .e0))))) (.se (.set 7 (.mk 35 (.ec (.v 2) .e0))) (.se (.set 8 .dt) (.se (.set 9 .dt) (.se (.set 10 (.ix (.v 2) (.i 0))) (.se (.set 11 (.op .Add (.sl (.v 0) (.p1 (.i 1)) (.p1 (.i 63))) (.ll (.ec (.i 0) .e0)))) (.se (.fo false [12] (.r1 (.bf "max" (.ec (.i 12) (.ec (.bf "len" (.ec (.v 11) .e0)) .e0)))) (.se (.set 16 (.ca 44 (.ec (.ca 42 (.ec (.v 11) (.ec (.v 12) .e0))) (.ec (.tu (.ec (.v 3) (.ec (.v 4) (.ec (.v 5) (.ec (.v 6) .e0))))) .e0)))) (.se (.set 14 (.ca 43 (.ec (.v 2) (.ec (.v 16) .e0)))) (.se (.if_ (.dn true (.v 14) (.v 8)) (.se (.un [18,10] (.ca 58 (.ec (.v 2) (.ec (.v 8) (.ec (.v 10) (.ec (.ix (.v 16) (.i 2)) .e0)))))) (.se (.dp (.v 8) (.v 14) (.v 18)) .en)) .en) (.se (.dp (.v 9) (.v 16) (.dg (.v 8) (.v 14))) (.se (.set 17 (.me 60 (.v 7) (.ec (.ix (.v 16) (.i 0)) (.ec (.ix (.v 16) (.i 1)) (.ec (.ix (.v 16) (.i 2)) (.ec (.ix (.v 16) (.i 3)) (.ec (.ix (.v 16) (.i 4)) (.ec (.s "say") (.ec (.s "x") .e0))))))))) (.se (.if_ (.or (.cm .NotEq (.v 17) (.tu (.ec (.s "led") (.ec (.dg (.v 8) (.v 14)) .e0)))) (.no (.ca 20 (.ec (.ix (.v 17) (.i 1)) .e0)))) (.se (.re (.b false)) .en) .en) .en))))))) (.se (.set 13 .dk) (.se (.fo false [14] (.ik (.v 8)) (.se (.dp (.v 13) (.dg (.v 8) (.v 14)) (.v 14)) .en)) (.se (.if_ (.cm .NotEq (.me 17 (.v 7) .e0) (.cp false false ["number"] [(13,"holders")] (.is (.bf "sorted" (.ec (.v 13) .e0))) (.b true) (.op .Add (.tu (.ec (.v 0) .e0)) (.dg (.v 1) (.v 0))))) (.se (.re (.b false)) .en) .en) (.se (.sc 15 false false ["inner"] [(9,"ends"),(2,"form")] (.ik (.v 9)) (.b true) (.op .Add (.op .Add (.tu (.ec (.s "note") (.ec (.dg (.v 1) (.v 0)) .e0))) (.sl (.v 0) (.p1 (.i 1)) .p0)) (.tu (.ec (.s "note") (.ec (.ix (.ix (.v 2) (.i 7)) (.i 0)) .e0))))) (.se (.re (.an (.cm .Eq (.me 18 (.v 7) .e0) (.bf "sorted" (.ec (.v 15) .e0))) (.an (.cm .Eq (.me 16 (.v 7) .e0) (.op .Sub (.i 200) (.bf "len" (.ec (.v 13) .e0)))) (.cm .Eq (.me 19 (.v 7) .e0) (.ll .e0))))) .en))))))))))))))))⟩
noncomputable def qcG:FD:=⟨0,0,"is_word",["kind","thing"],["kind","thing"],.se (.if_ (.cm .Eq (.v 0) (.s "note")) (.se (.re (.ic false (.v 1) "NOTE_WORDS")) .en) .en) .ra⟩
noncomputable def qcJ:FD:=⟨0,0,"is_pool",["low","high"],["low","high"],.se (.re (.an (.ca 2 (.ec (.v 0) .e0)) (.an (.ca 2 (.ec (.v 1) .e0)) (.ch .LtE .LtE (.v 0) (.v 1) (.op .Add (.v 0) (.g "WIDEST_STEP")))))) .en⟩
noncomputable def qbL:FD:=⟨0,0,"holder_of",["form","inner"],["form","inner","lending","kind","house","door","place","far"],.se (.un [3,4,5,6,7] (.v 1)) (.se (.set 2 (.ix (.v 0) (.i 2))) (.se (.if_ (.cm .Eq (.v 2) (.s "door")) (.se (.re (.tu (.ec (.v 3) (.ec (.v 4) (.ec (.v 5) (.ec .n (.ec .n .e0))))))) .en) .en) (.se (.if_ (.cm .Eq (.v 2) (.s "place")) (.se (.re (.tu (.ec (.v 3) (.ec (.v 4) (.ec (.v 5) (.ec (.v 6) (.ec .n .e0))))))) .en) .en) (.se (.re (.tu (.ec (.v 3) (.ec (.v 4) (.ec (.v 5) (.ec (.v 6) (.ec (.v 7) .e0))))))) .en))))⟩
noncomputable def qcE:FD:=⟨0,0,"time_of",["form","state"],["form","state","times"],.se (.set 2 (.ix (.v 0) (.i 7))) (.se (.re (.ix (.v 2) (.tx "TIME_AT" (.v 1)))) .en)⟩
noncomputable def qbs:FD:=⟨0,0,"note_state",["state","word"],["state","word"],.se (.if_ (.an (.cm .Eq (.v 1) (.s "say")) (.or (.cm .Is (.v 0) .n) (.cm .Eq (.v 0) (.s "note")))) (.se (.re (.s "note")) .en) .en) (.se (.re .n) .en)⟩
noncomputable def qbB:FD:=⟨1,1,"has",["self","number"],["self","number"],.se (.re (.ch .LtE .LtE (.fl 1 "low" (.v 0)) (.v 1) (.fl 1 "high" (.v 0)))) .en⟩
noncomputable def qbk:FD:=⟨1,1,"take",["self","number"],["self","number"],.se (.dp (.fl 1 "taken" (.v 0)) (.v 1) (.b true)) (.se (.if_ (.dn false (.v 1) (.fl 1 "until" (.v 0))) (.se (.dd (.fl 1 "until" (.v 0)) (.v 1)) .en) .en) (.se (.sf 1 "mark" (.v 0) (.ie (.cm .Eq (.v 1) (.fl 1 "high" (.v 0))) (.fl 1 "low" (.v 0)) (.op .Add (.v 1) (.i 1)))) .en))⟩
noncomputable def qaO:FD:=⟨1,1,"resting",["self","moment"],["self","moment"],.se (.re (.cp false false ["number"] [(0,"self"),(1,"moment")] (.is (.bf "sorted" (.ec (.fl 1 "until" (.v 0)) .e0))) (.cm .Gt (.dg (.fl 1 "until" (.v 1)) (.v 0)) (.v 2)) (.tu (.ec (.v 0) (.ec (.dg (.fl 1 "until" (.v 1)) (.v 0)) .e0))))) .en⟩
noncomputable def qaG:FD:=⟨1,1,"many_free",["self","moment"],["self","moment"],.se (.re (.bf "len" (.ec (.cp false false ["number"] [(1,"moment"),(0,"self")] (.r2 (.fl 1 "low" (.v 0)) (.op .Add (.fl 1 "high" (.v 0)) (.i 1))) (.me 48 (.v 2) (.ec (.v 0) (.ec (.v 1) .e0))) (.v 0)) .e0))) .en⟩
noncomputable def qa7:FD:=⟨2,3,"__init__",["self","form"],["self","form"],.se (.sf 3 "form" (.v 0) (.v 1)) (.se (.sf 3 "pool" (.v 0) (.mk 47 (.ec (.ix (.v 1) (.i 0)) (.ec (.ix (.v 1) (.i 1)) .e0)))) (.se (.sf 3 "now" (.v 0) (.i 0)) (.se (.sf 3 "by_inner" (.v 0) .dt) (.se (.sf 3 "by_number" (.v 0) .dk) (.se (.sf 3 "holders" (.v 0) .dk) (.se (.sf 3 "numbers" (.v 0) .dt) .en))))))⟩
noncomputable def qaF:FD:=⟨1,3,"of_inner",["self","inner"],["self","inner"],.se (.re (.d1 (.fl 3 "by_inner" (.v 0)) (.v 1))) .en⟩
noncomputable def qaz:FD:=⟨1,3,"number_of",["self","inner"],["self","inner"],.se (.re (.d1 (.fl 3 "numbers" (.v 0)) (.ca 24 (.ec (.fl 3 "form" (.v 0)) (.ec (.v 1) .e0))))) .en⟩
noncomputable def qa8:FD:=⟨1,3,"held",["self","house"],["self","house"],.se (.re (.cp false true ["number","holder"] [(1,"house")] (.im (.fl 3 "holders" (.v 0))) (.cm .Eq (.ix (.v 1) (.i 1)) (.v 2)) (.v 0))) .en⟩
noncomputable def qbn:FD:=⟨2,4,"__init__",["self","form"],["self","form"],.se (.if_ (.no (.ca 11 (.ec (.v 1) .e0))) (.se .ra .en) .en) (.se (.sf 4 "form" (.v 0) (.v 1)) (.se (.sf 4 "table" (.v 0) (.mk 31 (.ec (.v 1) .e0))) (.se (.sf 4 "strangers" (.v 0) (.mk 12 .e0)) (.se (.sf 4 "done" (.v 0) (.lm .e0)) (.se (.sf 4 "wish" (.v 0) .n) .en)))))⟩
noncomputable def qbp:FD:=⟨1,4,"deed",["self","deed"],["self","deed","answer"],.se (.if_ (.no (.ca 9 (.ec (.v 1) .e0))) (.se .ra .en) .en) (.se (.set 2 (.me 51 (.v 0) (.ec (.ix (.v 1) (.i 0)) (.ec (.sl (.v 1) (.p1 (.i 1)) .p0) .e0)))) (.se (.ex (.ap (.fl 4 "done" (.v 0)) (.ec (.tu (.ec (.v 1) (.ec (.v 2) .e0))) .e0))) (.se (.re (.v 2)) .en)))⟩
noncomputable def qbm:FD:=⟨1,4,"sent",["self","parts"],["self","parts","answer","number","kind","house","door","place","far","word","text"],.se (.un [4,5,6,7,8,9,10] (.v 1)) (.se (.set 2 (.me 52 (.v 0) (.ec (.tu (.ec (.v 4) (.ec (.v 5) (.ec (.v 6) (.ec (.v 7) (.ec (.v 8) .e0)))))) (.ec (.v 9) .e0)))) (.se (.if_ (.or (.cm .NotEq (.v 7) (.i 0)) (.cm .Eq (.ix (.v 2) (.i 0)) (.s "kept"))) (.se (.re (.v 2)) .en) .en) .ra))⟩
noncomputable def qaA:FD:=⟨1,4,"picked_for",["self","door"],["self","door","pool","now"],.se (.pr 2 3 (.ec (.fl 3 "pool" (.fl 4 "table" (.v 0))) (.ec (.fl 3 "now" (.fl 4 "table" (.v 0))) .e0))) (.se (.if_ (.an (.cm .IsNot (.fl 4 "wish" (.v 0)) .n) (.me 48 (.v 2) (.ec (.fl 4 "wish" (.v 0)) (.ec (.v 3) .e0)))) (.se (.re (.fl 4 "wish" (.v 0))) .en) .en) (.se (.re (.me 56 (.v 2) (.ec (.ix (.fl 4 "form" (.v 0)) (.i 4)) (.ec (.v 1) (.ec (.v 3) .e0))))) .en))⟩
noncomputable def qbO:FD:=⟨0,0,"_law_cell",["script","k"],["script","k"],.se (.if_ (.cm .Lt (.v 1) (.bf "len" (.ec (.v 0) .e0))) (.se (.re (.ix (.v 0) (.v 1))) .en) .en) (.se (.re (.i 0)) .en)⟩
noncomputable def qbN:FD:=⟨0,0,"_law_well",["cell","turn"],["cell","turn"],.se (.if_ (.cm .GtE (.v 0) (.op .Pow (.i 10) (.i 18))) (.se (.re (.lm (.ec (.op .Sub (.v 0) (.op .Pow (.i 10) (.i 18))) (.ec (.op .Mod (.v 0) (.i 2305843009213693951)) (.ec (.v 1) .e0))))) .en) .en) (.se (.re (.lm (.ec (.i 0) (.ec (.op .Mod (.v 0) (.i 2305843009213693951)) (.ec (.v 1) .e0))))) .en)⟩
noncomputable def qa1:FD:=⟨0,0,"_law_take",["bag","many"],["bag","many","p","n","found"],.se (.if_ (.cm .Gt (.ix (.v 0) (.i 0)) (.i 0)) (.se (.set 4 (.op .Mod (.ix (.v 0) (.i 0)) (.v 1))) (.se (.sp (.v 0) (.i 0) (.op .FloorDiv (.ix (.v 0) (.i 0)) (.v 1))) (.se (.re (.v 4)) .en))) .en) (.se (.sp (.v 0) (.i 2) (.op .Add (.ix (.v 0) (.i 2)) (.i 1))) (.se (.set 2 (.i 2305843009213693951)) (.se (.set 3 (.op .Mod (.op .Add (.ix (.v 0) (.i 1)) (.op .Mult (.i 1000003) (.ix (.v 0) (.i 2)))) (.v 2))) (.se (.set 3 (.op .Mod (.op .Add (.op .Add (.op .Mult (.v 3) (.v 3)) (.op .Mult (.i 7919) (.op .Pow (.ix (.v 0) (.i 2)) (.i 2)))) (.i 5)) (.v 2))) (.se (.re (.op .Mod (.op .FloorDiv (.op .Mod (.op .Pow (.v 3) (.i 3)) (.v 2)) (.i 13)) (.v 1))) .en)))))⟩
noncomputable def qbg:FD:=⟨0,0,"_law_bag_at",["cells","k"],["cells","k","bag"],.se (.if_ (.cm .Lt (.v 1) (.bf "len" (.ec (.v 0) .e0))) (.se (.re (.ca 40 (.ec (.ix (.v 0) (.v 1)) (.ec (.i 0) .e0)))) .en) .en) (.se (.set 2 (.ca 40 (.ec (.op .Mod (.ix (.v 0) (.op .Mod (.v 1) (.bf "len" (.ec (.v 0) .e0)))) (.op .Pow (.i 10) (.i 18))) (.ec (.i 0) .e0)))) (.se (.sp (.v 2) (.i 1) (.op .Mod (.op .Add (.op .Add (.ix (.v 2) (.i 1)) (.op .Mult (.op .Mult (.i 7919) (.v 1)) (.v 1))) (.op .Mult (.i 31) (.v 1))) (.i 2305843009213693951))) (.se (.re (.v 2)) .en)))⟩
noncomputable def qaQ:FD:=⟨0,0,"_law_holder_of",["form","inner"],["form","inner","seen"],.se (.set 2 (.di [("door",3),("place",4),("talk",5)] (.ix (.v 0) (.i 2)))) (.se (.re (.op .Add (.sl (.v 1) .p0 (.p1 (.v 2))) (.bt "tuple" (.ec (.op .Mult (.lm (.ec .n .e0)) (.op .Sub (.i 5) (.v 2))) .e0)))) .en)⟩
noncomputable def qaY:FD:=⟨0,0,"_law_an_inner",["bag","world"],["bag","world","house","door","houses","doors","places","fars"],.se (.un [4,5,6,7] (.v 1)) (.se (.set 2 (.ix (.v 4) (.ca 41 (.ec (.v 0) (.ec (.i 3) .e0))))) (.se (.set 3 (.ix (.v 5) (.ca 41 (.ec (.v 0) (.ec (.i 3) .e0))))) (.se (.re (.tu (.ec (.s "note") (.ec (.v 2) (.ec (.v 3) (.ec (.ix (.v 6) (.ca 41 (.ec (.v 0) (.ec (.i 3) .e0)))) (.ec (.ix (.v 7) (.ca 41 (.ec (.v 0) (.ec (.i 3) .e0)))) .e0))))))) .en)))⟩
noncomputable def qaL:FD:=⟨0,0,"is_whole_within",["thing","least","greatest"],["thing","least","greatest"],.se (.re (.an (.ca 0 (.ec (.v 0) .e0)) (.ch .LtE .LtE (.v 1) (.v 0) (.v 2)))) .en⟩
noncomputable def qbK:FD:=⟨0,0,"is_letter",["kind","word","text"],["kind","word","text"],.se (.re (.an (.ca 4 (.ec (.v 0) .e0)) (.an (.ca 22 (.ec (.v 0) (.ec (.v 1) .e0))) (.ca 6 (.ec (.v 2) .e0))))) .en⟩
noncomputable def qbl:FD:=⟨2,1,"__init__",["self","low","high"],["self","low","high"],.se (.sf 1 "low" (.v 0) (.v 1)) (.se (.sf 1 "high" (.v 0) (.v 2)) (.se (.sf 1 "mark" (.v 0) (.v 1)) (.se (.sf 1 "taken" (.v 0) .dk) (.se (.sf 1 "until" (.v 0) .dk) .en))))⟩
noncomputable def qaP:FD:=⟨1,1,"is_free",["self","number","moment"],["self","number","moment"],.se (.if_ (.or (.no (.me 27 (.v 0) (.ec (.v 1) .e0))) (.dn false (.v 1) (.fl 1 "taken" (.v 0)))) (.se (.re (.b false)) .en) .en) (.se (.re (.or (.dn true (.v 1) (.fl 1 "until" (.v 0))) (.cm .LtE (.dg (.fl 1 "until" (.v 0)) (.v 1)) (.v 2)))) .en)⟩
noncomputable def qa5:FD:=⟨1,3,"lend",["self","number","inner"],["self","number","inner","holder"],.se (.set 3 (.ca 24 (.ec (.fl 3 "form" (.v 0)) (.ec (.v 2) .e0)))) (.se (.ex (.me 28 (.fl 3 "pool" (.v 0)) (.ec (.v 1) .e0))) (.se (.dp (.fl 3 "holders" (.v 0)) (.v 1) (.v 3)) (.se (.dp (.fl 3 "numbers" (.v 0)) (.v 3) (.v 1)) .en)))⟩
noncomputable def qa6:FD:=⟨1,3,"lead",["self","talk","state"],["self","talk","state"],.se (.if_ (.cm .Eq (.v 2) (.s "shut")) .ra .en) (.se (.sf 2 "state" (.v 1) (.v 2)) (.se (.sf 2 "over" (.v 1) (.op .Add (.fl 3 "now" (.v 0)) (.ca 25 (.ec (.fl 3 "form" (.v 0)) (.ec (.v 2) .e0))))) .en))⟩
noncomputable def qaJ:FD:=⟨1,4,"answered",["self","name","parts"],["self","name","parts","kind","place","far","number","word","text"],.se (.if_ (.cm .Eq (.v 1) (.s "out")) (.se (.re (.me 37 (.v 0) (.ec (.v 2) .e0))) .en) .en) .ra⟩
noncomputable def qaw:FD:=⟨1,4,"lead_out",["self","inner","word"],["self","inner","word","talk","state"],.se (.set 3 (.me 32 (.fl 4 "table" (.v 0)) (.ec (.v 1) .e0))) (.se (.set 4 (.ca 55 (.ec (.ix (.v 1) (.i 0)) (.ec (.ie (.cm .Is (.v 3) .n) .n (.fl 2 "state" (.v 3))) (.ec (.s "house") (.ec (.v 2) .e0)))))) (.se (.if_ (.cm .Is (.v 4) .n) (.se (.re (.tu (.ec (.s "kept") (.ec (.s "astray") .e0)))) .en) .en) (.se (.if_ (.cm .Is (.v 3) .n) (.se (.re (.me 53 (.v 0) (.ec (.v 1) (.ec (.v 4) .e0)))) .en) .en) (.se (.ex (.me 50 (.fl 4 "table" (.v 0)) (.ec (.v 3) (.ec (.v 4) .e0)))) (.se (.re (.tu (.ec (.s "led") (.ec (.fl 2 "number" (.v 3)) .e0)))) .en)))))⟩
noncomputable def qaq:FD:=⟨1,4,"begin_out",["self","inner","state"],["self","inner","state","number"],.se (.set 3 (.me 33 (.fl 4 "table" (.v 0)) (.ec (.v 1) .e0))) (.se (.if_ (.cm .Is (.v 3) .n) (.se (.if_ (.cm .GtE (.bf "len" (.ec (.me 34 (.fl 4 "table" (.v 0)) (.ec (.ix (.v 1) (.i 1)) .e0)) .e0)) (.ix (.fl 4 "form" (.v 0)) (.i 5))) (.se (.re (.tu (.ec (.s "kept") (.ec (.s "most") .e0)))) .en) .en) (.se (.set 3 (.me 38 (.v 0) (.ec (.ix (.v 1) (.i 2)) .e0))) (.se (.if_ (.cm .Is (.v 3) .n) (.se (.re (.tu (.ec (.s "kept") (.ec (.s "full") .e0)))) .en) .en) (.se (.ex (.me 49 (.fl 4 "table" (.v 0)) (.ec (.v 3) (.ec (.v 1) .e0)))) .en)))) .en) (.se (.ex (.me 57 (.fl 4 "table" (.v 0)) (.ec (.v 1) (.ec (.v 3) (.ec (.v 2) .e0))))) (.se (.re (.tu (.ec (.s "led") (.ec (.v 3) .e0)))) .en)))⟩
noncomputable def qbM:FD:=⟨0,0,"_law_wide",["bag","lending","sieve"],["bag","lending","sieve","low","times","pick"],.se (.set 3 (.op .Add (.i 1) (.ca 41 (.ec (.v 0) (.ec (.i 9800) .e0))))) (.se (.set 4 (.tu (.ec (.op .Add (.i 1) (.ca 41 (.ec (.v 0) (.ec (.i 30) .e0)))) (.ec (.op .Add (.i 1) (.ca 41 (.ec (.v 0) (.ec (.i 30) .e0)))) (.ec (.op .Add (.i 1) (.ca 41 (.ec (.v 0) (.ec (.i 30) .e0)))) (.ec (.ca 41 (.ec (.v 0) (.ec (.i 30) .e0))) .e0)))))) (.se (.set 5 (.ix (.ll (.ec (.s "next") (.ec (.s "keep") .e0))) (.ca 41 (.ec (.v 0) (.ec (.i 2) .e0))))) (.se (.re (.tu (.ec (.v 3) (.ec (.op .Add (.v 3) (.i 199)) (.ec (.v 1) (.ec (.v 2) (.ec (.v 5) (.ec (.i 200) (.ec (.cm .Eq (.ca 41 (.ec (.v 0) (.ec (.i 2) .e0))) (.i 1)) (.ec (.v 4) .e0)))))))))) .en)))⟩
noncomputable def qbt:FD:=⟨0,0,"next_state",["kind","state","side","word"],["kind","state","side","word"],.se (.if_ (.cm .Eq (.v 0) (.s "note")) (.se (.re (.ca 26 (.ec (.v 1) (.ec (.v 3) .e0)))) .en) .en) .ra⟩
noncomputable def qaZ:FD:=⟨1,1,"picked",["self","pick","door","moment"],["self","pick","door","moment","number"],.se (.if_ (.an (.cm .Eq (.v 1) (.s "keep")) (.me 48 (.v 0) (.ec (.v 2) (.ec (.v 3) .e0)))) (.se (.re (.v 2)) .en) .en) (.se (.fo false [4] (.is (.me 13 (.v 0) .e0)) (.se (.if_ (.me 48 (.v 0) (.ec (.v 4) (.ec (.v 3) .e0))) (.se (.re (.v 4)) .en) .en) .en)) (.se (.re .n) .en))⟩
noncomputable def qaC:FD:=⟨1,3,"begin",["self","inner","number","state"],["self","inner","number","state","talk","kind","house","door","place","far"],.se (.un [5,6,7,8,9] (.v 1)) (.se (.set 4 (.mk 59 (.ec (.v 1) (.ec (.v 2) (.ec (.v 3) (.ec (.op .Add (.fl 3 "now" (.v 0)) (.ca 25 (.ec (.fl 3 "form" (.v 0)) (.ec (.v 3) .e0)))) .e0)))))) (.se (.dp (.fl 3 "by_inner" (.v 0)) (.v 1) (.v 4)) (.se (.if_ (.dn true (.v 2) (.fl 3 "by_number" (.v 0))) (.se (.dp (.fl 3 "by_number" (.v 0)) (.v 2) .dt) .en) .en) (.se (.dp (.dg (.fl 3 "by_number" (.v 0)) (.v 2)) (.tu (.ec (.v 5) (.ec (.v 8) (.ec (.v 9) .e0)))) (.v 4)) .en))))⟩
noncomputable def qaM:FD:=⟨0,0,"_law_number_for",["form","numbers","mark","door"],["form","numbers","mark","door","taken","number"],.se (.sc 4 false false ["holder"] [(1,"numbers")] (.ik (.v 1)) (.b true) (.dg (.v 1) (.v 0))) (.se (.set 5 (.v 2)) (.se (.if_ (.an (.cm .Eq (.ix (.v 0) (.i 4)) (.s "keep")) (.an (.ch .LtE .LtE (.ix (.v 0) (.i 0)) (.v 3) (.ix (.v 0) (.i 1))) (.cm .NotIn (.v 3) (.v 4)))) (.se (.set 5 (.v 3)) .en) .en) (.se (.wh (.cm .In (.v 5) (.v 4)) (.se (.set 5 (.ie (.cm .Lt (.v 5) (.ix (.v 0) (.i 1))) (.op .Add (.v 5) (.i 1)) (.ix (.v 0) (.i 0)))) .en)) (.se (.re (.tu (.ec (.v 5) (.ec (.ie (.cm .Lt (.v 5) (.ix (.v 0) (.i 1))) (.op .Add (.v 5) (.i 1)) (.ix (.v 0) (.i 0))) .e0)))) .en))))⟩
noncomputable def qbj:FD:=⟨2,2,"__init__",["self","inner","number","state","over"],["self","inner","number","state","over"],.se (.sf 2 "inner" (.v 0) (.v 1)) (.se (.sf 2 "number" (.v 0) (.v 2)) (.se (.sf 2 "state" (.v 0) (.v 3)) (.se (.sf 2 "over" (.v 0) (.v 4)) .en)))⟩
noncomputable def qbC:FD:=⟨1,4,"out",["self","kind","house","door","place","far","word","text"],["self","kind","house","door","place","far","word","text"],.se (.re (.me 36 (.v 0) (.ec (.tu (.ec (.s "out") (.ec (.v 1) (.ec (.v 2) (.ec (.v 3) (.ec (.v 4) (.ec (.v 5) (.ec (.v 6) (.ec (.v 7) .e0))))))))) .e0))) .en⟩
noncomputable def S:SI where
 gi:=[("GREATEST_HOUSE",99),("GREATEST_DOOR",9999),("GREATEST_PLACE",1000000),("MOST_SIGNS",40),("FIRST_SIGN",32),("LAST_SIGN",126),("PERCENT_SIGN",37),("WIDEST_STEP",199),("GREATEST_MOST",200),("GREATEST_TIME",1000000)]
 gt:=[("KINDS",["note","line"]),("NOTE_WORDS",["say"]),("LENDINGS",["door","place","talk"]),("SIEVES",["all","place","talk"]),("PICKS",["next","keep"])]
 tb:=["DEEDS","TIME_AT"]
 tt:=[]
 cl:=["Rules","Pool","Talk","Talks","Gate"]
 fs:=[(0,"many_told"),(0,"standing"),(1,"low"),(1,"high"),(1,"mark"),(1,"taken"),(1,"until"),(2,"inner"),(2,"number"),(2,"state"),(2,"over"),(3,"form"),(3,"pool"),(3,"now"),(3,"by_inner"),(3,"by_number"),(3,"holders"),(3,"numbers"),(4,"form"),(4,"table"),(4,"strangers"),(4,"done"),(4,"wish")]
 bl:=["all","bool","int","isinstance","len","list","max","ord","range","sorted","str","tuple"]
 fd:=[qb4,qb7,qcN,qb6,qcL,qcI,qcH,qcK,qcF,qcO,qb5,qcM,qa9,qaH,qaN,qb3,qbo,qbc,qba,qbb,qbu,f_law,qcG,qcJ,qbL,qcE,qbs,qbB,qbk,qaO,qaG,qa7,qaF,qaz,qa8,qbn,qbp,qbm,qaA,qbO,qbN,qa1,qbg,qaQ,qaY,qaL,qbK,qbl,qaP,qa5,qa6,qaJ,qaw,qaq,qbM,qbt,qaZ,qaC,qaM,qbj,qbC]
abbrev qjQ:Stmt:=top 14
abbrev qjT:Stmt:=top 16
abbrev qk8:Stmt:=top 17
abbrev qjS:Stmt:=top 18
abbrev qk6:Stmt:=top 21
abbrev qk4:Stmt:=top 23
abbrev qk3:Stmt:=top 24
abbrev qnF:Stmt:=top 26
abbrev qk1:Stmt:=top 33
abbrev qk9:Stmt:=top 34
abbrev qjR:Stmt:=top 49
abbrev qk7:Stmt:=top 50
abbrev qgq:Stmt:=inClass (top 60) 0
abbrev qdw:Stmt:=inClass (top 62) 3
abbrev qeK:Stmt:=inClass (top 65) 4
abbrev qjP:Stmt:=top 67
abbrev qh4:Stmt:=inClass (top 68) 9
abbrev qgt:Stmt:=inClass (top 68) 10
abbrev qgr:Stmt:=inClass (top 68) 11
abbrev qgs:Stmt:=inClass (top 68) 12
abbrev qgl:Stmt:=top 73
abbrev qsN:Stmt:=top 79
abbrev qk2:Stmt:=top 22
abbrev qk5:Stmt:=top 48
abbrev qhU:Stmt:=top 51
abbrev qk0:Stmt:=top 52
abbrev qgj:Stmt:=top 56
abbrev qjU:Stmt:=inClass (top 62) 1
abbrev qh0:Stmt:=inClass (top 62) 5
abbrev qeL:Stmt:=inClass (top 62) 7
abbrev qdv:Stmt:=inClass (top 62) 8
abbrev qgo:Stmt:=inClass (top 65) 0
abbrev qdu:Stmt:=inClass (top 65) 1
abbrev qcW:Stmt:=inClass (top 65) 6
abbrev qgp:Stmt:=inClass (top 65) 8
abbrev qh3:Stmt:=inClass (top 68) 0
abbrev qh5:Stmt:=inClass (top 68) 1
abbrev qh2:Stmt:=inClass (top 68) 16
abbrev qcX:Stmt:=inClass (top 68) 19
abbrev qhY:Stmt:=top 70
abbrev qhW:Stmt:=top 71
abbrev qhX:Stmt:=top 72
abbrev qfr:Stmt:=top 75
abbrev qdt:Stmt:=top 76
abbrev qdZ:Stmt:=top 78
abbrev qcU:Stmt:=top 15
abbrev qhT:Stmt:=top 25
abbrev qh1:Stmt:=inClass (top 62) 0
abbrev qeM:Stmt:=inClass (top 62) 2
abbrev qgm:Stmt:=inClass (top 65) 10
abbrev qgn:Stmt:=inClass (top 65) 13
abbrev qd1:Stmt:=inClass (top 68) 15
abbrev qd0:Stmt:=inClass (top 68) 17
abbrev qdx:Stmt:=inClass (top 68) 18
abbrev qhV:Stmt:=top 74
abbrev qgk:Stmt:=top 58
abbrev qft:Stmt:=inClass (top 62) 4
abbrev qfs:Stmt:=inClass (top 65) 12
abbrev qcV:Stmt:=top 77
abbrev qhZ:Stmt:=inClass (top 64) 0
abbrev qjV:Stmt:=inClass (top 68) 2
structure Env where
 tb:Str->List (Key×RV)
 C:Nat->Addr
 cv:List (Addr×Nat)
def P(e:Env):Prg:=⟨S,e.tb,e.C,e.cv⟩
def rd(Q:RVK):RD:={ nx:=fun _ M'=>Q .non M',rt:=Q }
section
variable {e:Env}{n:Nat}{M:RM}{Q:RVK}{σ:RSt}{rs:List RV}
theorem qqh{y:Str}{N:List Str}{x:RV}:qbR (y::N) (x::rs)=some x::qbR N rs:=by unfold qbR;rw[waf,waf,Nat.add_sub_add_right];rfl
theorem qqf{y:Str}{N:List Str}:qbR (y::N) []=none::qbR N []:=rfl
theorem qqg:qbR [] []= []:=rfl
theorem qwi{A:Prop}{k l:Nat}(h:k=l):(k=l/\A)=A:=by rw[eq_true h,true_and]
theorem qao{A B C:Prop}(h:A)(k:B=C):(A/\B)=C:=by rw[eq_true h,true_and,k]
theorem qwM:(rd Q).nx σ M=Q .non M:=rfl
theorem qwL:(rd Q).rt=Q:=rfl
theorem qDC{i:Nat}:((P e).Gn n).fn i rs M Q=sem (P e) n i rs M Q:=rfl
theorem qDB{x:Str}:((P e).Gn n).tb x=e.tb x:=rfl
theorem qxM:((P e).Gn n).cvs=e.cv.map fun q=>(q.1,sem (P e) n q.2):=rfl
theorem g_C{i:Nat}:((P e).Gn n).C i=e.C i:=rfl
theorem us{i:Nat}{d:FD}{rs:List RV}(h:S.fd[i]? =some d):sem (P e) (n+1) i rs M Q=(rs.length=d.ps.length/\(tr ((P e).Gn n) d.body).S (rd Q) (qbR d.N rs) M):=by rw[qfq (p:=P e) h];rfl
theorem qvW{x0:RV}:sem (P e) (n+1) 21 [x0] M Q=(tr ((P e).Gn n) f_law.body).S (rd Q) [some x0,none,none,none,none,none,none,none,none,none,none,none,none,none,none,none,none,none,none] M:=by
 rw[qfq (d:=f_law) rfl];exact qwi rfl
end
def qio(e:Env)(v0 v1:RV):RO:=.ins (e.C 0) [("many_told",v0),("standing",v1)]
def qam(e:Env)(v0 v1 v2 v3 v4:RV):RO:=.ins (e.C 1) [("low",v0),("high",v1),("mark",v2),("taken",v3),("until",v4)]
def qan(e:Env)(v0 v1 v2 v3:RV):RO:=.ins (e.C 2) [("inner",v0),("number",v1),("state",v2),("over",v3)]
noncomputable def qaf (e:Env)(v0 v1 v2 v3 v4 v5 v6:RV):RO:=.ins (e.C 3) [("form",v0),("pool",v1),("now",v2),("by_inner",v3),("by_number",v4),("holders",v5),("numbers",v6)]
def qag(e:Env)(v0 v1 v2 v3 v4:RV):RO:=.ins (e.C 4) [("form",v0),("table",v1),("strangers",v2),("done",v3),("wish",v4)]
section
variable {e:Env}{n:Nat}{M:RM}{Q:RVK}{σ:RSt}{rs:List RV}{x:Addr}{y:RV}{N:RM->Prop}{t:RTA}{sp:RSp}{o a:T}
theorem qko:sO (e.C 0) "many_told" y N x M (some (.ins (e.C 0) []))=N (put M x (.ins (e.C 0) [("many_told",y)])):=by rw[qaB];exact qao (Nat.le_of_ble_eq_true rfl) rfl
theorem qkn{v0:RV}:sO (e.C 0) "standing" y N x M (some (.ins (e.C 0) [("many_told",v0)]))=N (put M x (qio e v0 y)):=by rw[qaB];exact qao (Nat.le_of_ble_eq_true rfl) rfl
theorem qq7:(tr ((P e).Gn (n+1)) (.mk 12 a)).E σ M Q=(tr ((P e).Gn (n+1)) a).A σ M fun rs M1=>∀ x,M1 x=none->sem (P e) n 12 (.ref x::rs) (put M1 x (.ins (e.C 0) [])) fun v M2=>v= .non/\Q (.ref x) M2:=qsA (d:=qa9) rfl
theorem qj9{v0 v1 v2 v3 v4:RV}:fO (e.C 1) "low" Q M (some (qam e v0 v1 v2 v3 v4))=Q v0 M:=by rw[qam,qaS];rfl
theorem qiv{v0 v1 v2 v3 v4:RV}:fO (e.C 1) "high" Q M (some (qam e v0 v1 v2 v3 v4))=Q v1 M:=by rw[qam,qaS];rfl
theorem qiu{v0 v1 v2 v3 v4:RV}:fO (e.C 1) "mark" Q M (some (qam e v0 v1 v2 v3 v4))=Q v2 M:=by rw[qam,qaS];rfl
theorem qhJ{v0 v1 v2 v3 v4:RV}:sO (e.C 1) "mark" y N x M (some (qam e v0 v1 v2 v3 v4))=N (put M x (qam e v0 v1 y v3 v4)):=by rw[qam,qaB];exact qao (Nat.le_of_ble_eq_true rfl) rfl
theorem qg1{v0 v1 v2 v3 v4:RV}:fO (e.C 1) "taken" Q M (some (qam e v0 v1 v2 v3 v4))=Q v3 M:=by rw[qam,qaS];rfl
theorem qg0{v0 v1 v2 v3 v4:RV}:fO (e.C 1) "until" Q M (some (qam e v0 v1 v2 v3 v4))=Q v4 M:=by rw[qam,qaS];rfl
theorem qmt:sO (e.C 1) "low" y N x M (some (.ins (e.C 1) []))=N (put M x (.ins (e.C 1) [("low",y)])):=by rw[qaB];exact qao (Nat.le_of_ble_eq_true rfl) rfl
theorem qms{v0:RV}:sO (e.C 1) "high" y N x M (some (.ins (e.C 1) [("low",v0)]))=N (put M x (.ins (e.C 1) [("low",v0),("high",y)])):=by rw[qaB];exact qao (Nat.le_of_ble_eq_true rfl) rfl
theorem qmr{v0 v1:RV}:sO (e.C 1) "mark" y N x M (some (.ins (e.C 1) [("low",v0),("high",v1)]))=N (put M x (.ins (e.C 1) [("low",v0),("high",v1),("mark",y)])):=by rw[qaB];exact qao (Nat.le_of_ble_eq_true rfl) rfl
theorem qmq{v0 v1 v2:RV}:sO (e.C 1) "taken" y N x M (some (.ins (e.C 1) [("low",v0),("high",v1),("mark",v2)]))=N (put M x (.ins (e.C 1) [("low",v0),("high",v1),("mark",v2),("taken",y)])):=by rw[qaB];exact qao (Nat.le_of_ble_eq_true rfl) rfl
theorem qmp{v0 v1 v2 v3:RV}:sO (e.C 1) "until" y N x M (some (.ins (e.C 1) [("low",v0),("high",v1),("mark",v2),("taken",v3)]))=N (put M x (qam e v0 v1 v2 v3 y)):=by rw[qaB];exact qao (Nat.le_of_ble_eq_true rfl) rfl
theorem qbr{v0 v1 v2 v3 v4:RV}:mO (e.C 1) "from_mark" sp t σ Q x M (some (qam e v0 v1 v2 v3 v4))=t σ M fun rs M2=>sp (.ref x::rs) M2 Q:=by rw[qam,qaE];exact qao rfl rfl
theorem qdr:(tr ((P e).Gn n) (.me 13 o a)).E σ M Q=(tr ((P e).Gn n) o).E σ M (kMe (e.C 1) "from_mark" (sem (P e) n 13) (tr ((P e).Gn n) a).A σ Q):=qdo (d:=qaH) rfl
theorem qgT{v0 v1 v2 v3 v4:RV}:mO (e.C 1) "has" sp t σ Q x M (some (qam e v0 v1 v2 v3 v4))=t σ M fun rs M2=>sp (.ref x::rs) M2 Q:=by rw[qam,qaE];exact qao rfl rfl
theorem qjK:(tr ((P e).Gn n) (.me 27 o a)).E σ M Q=(tr ((P e).Gn n) o).E σ M (kMe (e.C 1) "has" (sem (P e) n 27) (tr ((P e).Gn n) a).A σ Q):=qdo (d:=qbB) rfl
theorem qcz{v0 v1 v2 v3 v4:RV}:mO (e.C 1) "take" sp t σ Q x M (some (qam e v0 v1 v2 v3 v4))=t σ M fun rs M2=>sp (.ref x::rs) M2 Q:=by rw[qam,qaE];exact qao rfl rfl
theorem qhM:(tr ((P e).Gn n) (.me 28 o a)).E σ M Q=(tr ((P e).Gn n) o).E σ M (kMe (e.C 1) "take" (sem (P e) n 28) (tr ((P e).Gn n) a).A σ Q):=qdo (d:=qbk) rfl
theorem qdC{v0 v1 v2 v3 v4:RV}:mO (e.C 1) "resting" sp t σ Q x M (some (qam e v0 v1 v2 v3 v4))=t σ M fun rs M2=>sp (.ref x::rs) M2 Q:=by rw[qam,qaE];exact qao rfl rfl
theorem qeH:(tr ((P e).Gn n) (.me 29 o a)).E σ M Q=(tr ((P e).Gn n) o).E σ M (kMe (e.C 1) "resting" (sem (P e) n 29) (tr ((P e).Gn n) a).A σ Q):=qdo (d:=qaO) rfl
theorem qcA{v0 v1 v2 v3 v4:RV}:mO (e.C 1) "many_free" sp t σ Q x M (some (qam e v0 v1 v2 v3 v4))=t σ M fun rs M2=>sp (.ref x::rs) M2 Q:=by rw[qam,qaE];exact qao rfl rfl
theorem qdq:(tr ((P e).Gn n) (.me 30 o a)).E σ M Q=(tr ((P e).Gn n) o).E σ M (kMe (e.C 1) "many_free" (sem (P e) n 30) (tr ((P e).Gn n) a).A σ Q):=qdo (d:=qaG) rfl
theorem quo:(tr ((P e).Gn (n+1)) (.mk 47 a)).E σ M Q=(tr ((P e).Gn (n+1)) a).A σ M fun rs M1=>∀ x,M1 x=none->sem (P e) n 47 (.ref x::rs) (put M1 x (.ins (e.C 1) [])) fun v M2=>v= .non/\Q (.ref x) M2:=qsA (d:=qbl) rfl
theorem qdD{v0 v1 v2 v3 v4:RV}:mO (e.C 1) "is_free" sp t σ Q x M (some (qam e v0 v1 v2 v3 v4))=t σ M fun rs M2=>sp (.ref x::rs) M2 Q:=by rw[qam,qaE];exact qao rfl rfl
theorem qeI:(tr ((P e).Gn n) (.me 48 o a)).E σ M Q=(tr ((P e).Gn n) o).E σ M (kMe (e.C 1) "is_free" (sem (P e) n 48) (tr ((P e).Gn n) a).A σ Q):=qdo (d:=qaP) rfl
theorem qed{v0 v1 v2 v3 v4:RV}:mO (e.C 1) "picked" sp t σ Q x M (some (qam e v0 v1 v2 v3 v4))=t σ M fun rs M2=>sp (.ref x::rs) M2 Q:=by rw[qam,qaE];exact qao rfl rfl
theorem qfo:(tr ((P e).Gn n) (.me 56 o a)).E σ M Q=(tr ((P e).Gn n) o).E σ M (kMe (e.C 1) "picked" (sem (P e) n 56) (tr ((P e).Gn n) a).A σ Q):=qdo (d:=qaZ) rfl
theorem qgZ{v0 v1 v2 v3:RV}:fO (e.C 2) "inner" Q M (some (qan e v0 v1 v2 v3))=Q v0 M:=by rw[qan,qaS];rfl
theorem qfN{v0 v1 v2 v3:RV}:fO (e.C 2) "number" Q M (some (qan e v0 v1 v2 v3))=Q v1 M:=by rw[qan,qaS];rfl
theorem qgY{v0 v1 v2 v3:RV}:fO (e.C 2) "state" Q M (some (qan e v0 v1 v2 v3))=Q v2 M:=by rw[qan,qaS];rfl
theorem qf5{v0 v1 v2 v3:RV}:sO (e.C 2) "state" y N x M (some (qan e v0 v1 v2 v3))=N (put M x (qan e v0 v1 y v3)):=by rw[qan,qaB];exact qao (Nat.le_of_ble_eq_true rfl) rfl
theorem qit{v0 v1 v2 v3:RV}:fO (e.C 2) "over" Q M (some (qan e v0 v1 v2 v3))=Q v3 M:=by rw[qan,qaS];rfl
theorem qhI{v0 v1 v2 v3:RV}:sO (e.C 2) "over" y N x M (some (qan e v0 v1 v2 v3))=N (put M x (qan e v0 v1 v2 y)):=by rw[qan,qaB];exact qao (Nat.le_of_ble_eq_true rfl) rfl
theorem qmo:sO (e.C 2) "inner" y N x M (some (.ins (e.C 2) []))=N (put M x (.ins (e.C 2) [("inner",y)])):=by rw[qaB];exact qao (Nat.le_of_ble_eq_true rfl) rfl
theorem qmn{v0:RV}:sO (e.C 2) "number" y N x M (some (.ins (e.C 2) [("inner",v0)]))=N (put M x (.ins (e.C 2) [("inner",v0),("number",y)])):=by rw[qaB];exact qao (Nat.le_of_ble_eq_true rfl) rfl
theorem qmm{v0 v1:RV}:sO (e.C 2) "state" y N x M (some (.ins (e.C 2) [("inner",v0),("number",v1)]))=N (put M x (.ins (e.C 2) [("inner",v0),("number",v1),("state",y)])):=by rw[qaB];exact qao (Nat.le_of_ble_eq_true rfl) rfl
theorem qml{v0 v1 v2:RV}:sO (e.C 2) "over" y N x M (some (.ins (e.C 2) [("inner",v0),("number",v1),("state",v2)]))=N (put M x (qan e v0 v1 v2 y)):=by rw[qaB];exact qao (Nat.le_of_ble_eq_true rfl) rfl
theorem qun:(tr ((P e).Gn (n+1)) (.mk 59 a)).E σ M Q=(tr ((P e).Gn (n+1)) a).A σ M fun rs M1=>∀ x,M1 x=none->sem (P e) n 59 (.ref x::rs) (put M1 x (.ins (e.C 2) [])) fun v M2=>v= .non/\Q (.ref x) M2:=qsA (d:=qbj) rfl
theorem qgX{v0 v1 v2 v3 v4 v5 v6:RV}:fO (e.C 3) "form" Q M (some (qaf e v0 v1 v2 v3 v4 v5 v6))=Q v0 M:=by rw[qaf,qaS];rfl
theorem qgW{v0 v1 v2 v3 v4 v5 v6:RV}:fO (e.C 3) "pool" Q M (some (qaf e v0 v1 v2 v3 v4 v5 v6))=Q v1 M:=by rw[qaf,qaS];rfl
theorem qis{v0 v1 v2 v3 v4 v5 v6:RV}:fO (e.C 3) "now" Q M (some (qaf e v0 v1 v2 v3 v4 v5 v6))=Q v2 M:=by rw[qaf,qaS];rfl
theorem qdG{v0 v1 v2 v3 v4 v5 v6:RV}:fO (e.C 3) "by_inner" Q M (some (qaf e v0 v1 v2 v3 v4 v5 v6))=Q v3 M:=by rw[qaf,qaS];rfl
theorem qc4{v0 v1 v2 v3 v4 v5 v6:RV}:fO (e.C 3) "by_number" Q M (some (qaf e v0 v1 v2 v3 v4 v5 v6))=Q v4 M:=by rw[qaf,qaS];rfl
theorem qei{v0 v1 v2 v3 v4 v5 v6:RV}:fO (e.C 3) "holders" Q M (some (qaf e v0 v1 v2 v3 v4 v5 v6))=Q v5 M:=by rw[qaf,qaS];rfl
theorem qeh{v0 v1 v2 v3 v4 v5 v6:RV}:fO (e.C 3) "numbers" Q M (some (qaf e v0 v1 v2 v3 v4 v5 v6))=Q v6 M:=by rw[qaf,qaS];rfl
theorem qkm:sO (e.C 3) "form" y N x M (some (.ins (e.C 3) []))=N (put M x (.ins (e.C 3) [("form",y)])):=by rw[qaB];exact qao (Nat.le_of_ble_eq_true rfl) rfl
theorem qkl{v0:RV}:sO (e.C 3) "pool" y N x M (some (.ins (e.C 3) [("form",v0)]))=N (put M x (.ins (e.C 3) [("form",v0),("pool",y)])):=by rw[qaB];exact qao (Nat.le_of_ble_eq_true rfl) rfl
theorem qkk{v0 v1:RV}:sO (e.C 3) "now" y N x M (some (.ins (e.C 3) [("form",v0),("pool",v1)]))=N (put M x (.ins (e.C 3) [("form",v0),("pool",v1),("now",y)])):=by rw[qaB];exact qao (Nat.le_of_ble_eq_true rfl) rfl
theorem qkj{v0 v1 v2:RV}:sO (e.C 3) "by_inner" y N x M (some (.ins (e.C 3) [("form",v0),("pool",v1),("now",v2)]))=N (put M x (.ins (e.C 3) [("form",v0),("pool",v1),("now",v2),("by_inner",y)])):=by rw[qaB];exact qao (Nat.le_of_ble_eq_true rfl) rfl
theorem qki{v0 v1 v2 v3:RV}:sO (e.C 3) "by_number" y N x M (some (.ins (e.C 3) [("form",v0),("pool",v1),("now",v2),("by_inner",v3)]))=N (put M x (.ins (e.C 3) [("form",v0),("pool",v1),("now",v2),("by_inner",v3),("by_number",y)])):=by rw[qaB];exact qao (Nat.le_of_ble_eq_true rfl) rfl
theorem qkh{v0 v1 v2 v3 v4:RV}:sO (e.C 3) "holders" y N x M (some (.ins (e.C 3) [("form",v0),("pool",v1),("now",v2),("by_inner",v3),("by_number",v4)]))=N (put M x (.ins (e.C 3) [("form",v0),("pool",v1),("now",v2),("by_inner",v3),("by_number",v4),("holders",y)])):=by rw[qaB];exact qao (Nat.le_of_ble_eq_true rfl) rfl
theorem qkg{v0 v1 v2 v3 v4 v5:RV}:sO (e.C 3) "numbers" y N x M (some (.ins (e.C 3) [("form",v0),("pool",v1),("now",v2),("by_inner",v3),("by_number",v4),("holders",v5)]))=N (put M x (qaf e v0 v1 v2 v3 v4 v5 y)):=by rw[qaB];exact qao (Nat.le_of_ble_eq_true rfl) rfl
theorem qdB{v0 v1 v2 v3 v4 v5 v6:RV}:mO (e.C 3) "living" sp t σ Q x M (some (qaf e v0 v1 v2 v3 v4 v5 v6))=t σ M fun rs M2=>sp (.ref x::rs) M2 Q:=by rw[qaf,qaE];exact qao rfl rfl
theorem qeG:(tr ((P e).Gn n) (.me 14 o a)).E σ M Q=(tr ((P e).Gn n) o).E σ M (kMe (e.C 3) "living" (sem (P e) n 14) (tr ((P e).Gn n) a).A σ Q):=qdo (d:=qaN) rfl
theorem qq6:(tr ((P e).Gn (n+1)) (.mk 31 a)).E σ M Q=(tr ((P e).Gn (n+1)) a).A σ M fun rs M1=>∀ x,M1 x=none->sem (P e) n 31 (.ref x::rs) (put M1 x (.ins (e.C 3) [])) fun v M2=>v= .non/\Q (.ref x) M2:=qsA (d:=qa7) rfl
theorem qcy{v0 v1 v2 v3 v4 v5 v6:RV}:mO (e.C 3) "of_inner" sp t σ Q x M (some (qaf e v0 v1 v2 v3 v4 v5 v6))=t σ M fun rs M2=>sp (.ref x::rs) M2 Q:=by rw[qaf,qaE];exact qao rfl rfl
theorem qdp:(tr ((P e).Gn n) (.me 32 o a)).E σ M Q=(tr ((P e).Gn n) o).E σ M (kMe (e.C 3) "of_inner" (sem (P e) n 32) (tr ((P e).Gn n) a).A σ Q):=qdo (d:=qaF) rfl
theorem qcf{v0 v1 v2 v3 v4 v5 v6:RV}:mO (e.C 3) "number_of" sp t σ Q x M (some (qaf e v0 v1 v2 v3 v4 v5 v6))=t σ M fun rs M2=>sp (.ref x::rs) M2 Q:=by rw[qaf,qaE];exact qao rfl rfl
theorem qcR:(tr ((P e).Gn n) (.me 33 o a)).E σ M Q=(tr ((P e).Gn n) o).E σ M (kMe (e.C 3) "number_of" (sem (P e) n 33) (tr ((P e).Gn n) a).A σ Q):=qdo (d:=qaz) rfl
theorem qeT{v0 v1 v2 v3 v4 v5 v6:RV}:mO (e.C 3) "held" sp t σ Q x M (some (qaf e v0 v1 v2 v3 v4 v5 v6))=t σ M fun rs M2=>sp (.ref x::rs) M2 Q:=by rw[qaf,qaE];exact qao rfl rfl
theorem qgd:(tr ((P e).Gn n) (.me 34 o a)).E σ M Q=(tr ((P e).Gn n) o).E σ M (kMe (e.C 3) "held" (sem (P e) n 34) (tr ((P e).Gn n) a).A σ Q):=qdo (d:=qa8) rfl
theorem qeR{v0 v1 v2 v3 v4 v5 v6:RV}:mO (e.C 3) "lend" sp t σ Q x M (some (qaf e v0 v1 v2 v3 v4 v5 v6))=t σ M fun rs M2=>sp (.ref x::rs) M2 Q:=by rw[qaf,qaE];exact qao rfl rfl
theorem qgb:(tr ((P e).Gn n) (.me 49 o a)).E σ M Q=(tr ((P e).Gn n) o).E σ M (kMe (e.C 3) "lend" (sem (P e) n 49) (tr ((P e).Gn n) a).A σ Q):=qdo (d:=qa5) rfl
theorem qeS{v0 v1 v2 v3 v4 v5 v6:RV}:mO (e.C 3) "lead" sp t σ Q x M (some (qaf e v0 v1 v2 v3 v4 v5 v6))=t σ M fun rs M2=>sp (.ref x::rs) M2 Q:=by rw[qaf,qaE];exact qao rfl rfl
theorem qgc:(tr ((P e).Gn n) (.me 50 o a)).E σ M Q=(tr ((P e).Gn n) o).E σ M (kMe (e.C 3) "lead" (sem (P e) n 50) (tr ((P e).Gn n) a).A σ Q):=qdo (d:=qa6) rfl
theorem qec{v0 v1 v2 v3 v4 v5 v6:RV}:mO (e.C 3) "begin" sp t σ Q x M (some (qaf e v0 v1 v2 v3 v4 v5 v6))=t σ M fun rs M2=>sp (.ref x::rs) M2 Q:=by rw[qaf,qaE];exact qao rfl rfl
theorem qfn:(tr ((P e).Gn n) (.me 57 o a)).E σ M Q=(tr ((P e).Gn n) o).E σ M (kMe (e.C 3) "begin" (sem (P e) n 57) (tr ((P e).Gn n) a).A σ Q):=qdo (d:=qaC) rfl
theorem qix{v0 v1 v2 v3 v4:RV}:fO (e.C 4) "form" Q M (some (qag e v0 v1 v2 v3 v4))=Q v0 M:=by rw[qag,qaS];rfl
theorem qg2{v0 v1 v2 v3 v4:RV}:fO (e.C 4) "table" Q M (some (qag e v0 v1 v2 v3 v4))=Q v1 M:=by rw[qag,qaS];rfl
theorem qiy{v0 v1 v2 v3 v4:RV}:fO (e.C 4) "done" Q M (some (qag e v0 v1 v2 v3 v4))=Q v3 M:=by rw[qag,qaS];rfl
theorem qiw{v0 v1 v2 v3 v4:RV}:fO (e.C 4) "wish" Q M (some (qag e v0 v1 v2 v3 v4))=Q v4 M:=by rw[qag,qaS];rfl
theorem qmy:sO (e.C 4) "form" y N x M (some (.ins (e.C 4) []))=N (put M x (.ins (e.C 4) [("form",y)])):=by rw[qaB];exact qao (Nat.le_of_ble_eq_true rfl) rfl
theorem qmx{v0:RV}:sO (e.C 4) "table" y N x M (some (.ins (e.C 4) [("form",v0)]))=N (put M x (.ins (e.C 4) [("form",v0),("table",y)])):=by rw[qaB];exact qao (Nat.le_of_ble_eq_true rfl) rfl
theorem qmw{v0 v1:RV}:sO (e.C 4) "strangers" y N x M (some (.ins (e.C 4) [("form",v0),("table",v1)]))=N (put M x (.ins (e.C 4) [("form",v0),("table",v1),("strangers",y)])):=by rw[qaB];exact qao (Nat.le_of_ble_eq_true rfl) rfl
theorem qmv{v0 v1 v2:RV}:sO (e.C 4) "done" y N x M (some (.ins (e.C 4) [("form",v0),("table",v1),("strangers",v2)]))=N (put M x (.ins (e.C 4) [("form",v0),("table",v1),("strangers",v2),("done",y)])):=by rw[qaB];exact qao (Nat.le_of_ble_eq_true rfl) rfl
theorem qmu{v0 v1 v2 v3:RV}:sO (e.C 4) "wish" y N x M (some (.ins (e.C 4) [("form",v0),("table",v1),("strangers",v2),("done",v3)]))=N (put M x (qag e v0 v1 v2 v3 y)):=by rw[qaB];exact qao (Nat.le_of_ble_eq_true rfl) rfl
theorem qfK{v0 v1 v2 v3 v4:RV}:mO (e.C 4) "free" sp t σ Q x M (some (qag e v0 v1 v2 v3 v4))=t σ M fun rs M2=>sp (.ref x::rs) M2 Q:=by rw[qag,qaE];exact qao rfl rfl
theorem qhO:(tr ((P e).Gn n) (.me 16 o a)).E σ M Q=(tr ((P e).Gn n) o).E σ M (kMe (e.C 4) "free" (sem (P e) n 16) (tr ((P e).Gn n) a).A σ Q):=qdo (d:=qbo) rfl
theorem qeW{v0 v1 v2 v3 v4:RV}:mO (e.C 4) "lends" sp t σ Q x M (some (qag e v0 v1 v2 v3 v4))=t σ M fun rs M2=>sp (.ref x::rs) M2 Q:=by rw[qag,qaE];exact qao rfl rfl
theorem qgg:(tr ((P e).Gn n) (.me 17 o a)).E σ M Q=(tr ((P e).Gn n) o).E σ M (kMe (e.C 4) "lends" (sem (P e) n 17) (tr ((P e).Gn n) a).A σ Q):=qdo (d:=qbc) rfl
theorem qeU{v0 v1 v2 v3 v4:RV}:mO (e.C 4) "talks" sp t σ Q x M (some (qag e v0 v1 v2 v3 v4))=t σ M fun rs M2=>sp (.ref x::rs) M2 Q:=by rw[qag,qaE];exact qao rfl rfl
theorem qge:(tr ((P e).Gn n) (.me 18 o a)).E σ M Q=(tr ((P e).Gn n) o).E σ M (kMe (e.C 4) "talks" (sem (P e) n 18) (tr ((P e).Gn n) a).A σ Q):=qdo (d:=qba) rfl
theorem qeV{v0 v1 v2 v3 v4:RV}:mO (e.C 4) "rests" sp t σ Q x M (some (qag e v0 v1 v2 v3 v4))=t σ M fun rs M2=>sp (.ref x::rs) M2 Q:=by rw[qag,qaE];exact qao rfl rfl
theorem qgf:(tr ((P e).Gn n) (.me 19 o a)).E σ M Q=(tr ((P e).Gn n) o).E σ M (kMe (e.C 4) "rests" (sem (P e) n 19) (tr ((P e).Gn n) a).A σ Q):=qdo (d:=qbb) rfl
theorem qup:(tr ((P e).Gn (n+1)) (.mk 35 a)).E σ M Q=(tr ((P e).Gn (n+1)) a).A σ M fun rs M1=>∀ x,M1 x=none->sem (P e) n 35 (.ref x::rs) (put M1 x (.ins (e.C 4) [])) fun v M2=>v= .non/\Q (.ref x) M2:=qsA (d:=qbn) rfl
theorem qfL{v0 v1 v2 v3 v4:RV}:mO (e.C 4) "deed" sp t σ Q x M (some (qag e v0 v1 v2 v3 v4))=t σ M fun rs M2=>sp (.ref x::rs) M2 Q:=by rw[qag,qaE];exact qao rfl rfl
theorem qhP:(tr ((P e).Gn n) (.me 36 o a)).E σ M Q=(tr ((P e).Gn n) o).E σ M (kMe (e.C 4) "deed" (sem (P e) n 36) (tr ((P e).Gn n) a).A σ Q):=qdo (d:=qbp) rfl
theorem qfJ{v0 v1 v2 v3 v4:RV}:mO (e.C 4) "sent" sp t σ Q x M (some (qag e v0 v1 v2 v3 v4))=t σ M fun rs M2=>sp (.ref x::rs) M2 Q:=by rw[qag,qaE];exact qao rfl rfl
theorem qhN:(tr ((P e).Gn n) (.me 37 o a)).E σ M Q=(tr ((P e).Gn n) o).E σ M (kMe (e.C 4) "sent" (sem (P e) n 37) (tr ((P e).Gn n) a).A σ Q):=qdo (d:=qbm) rfl
theorem qcg{v0 v1 v2 v3 v4:RV}:mO (e.C 4) "picked_for" sp t σ Q x M (some (qag e v0 v1 v2 v3 v4))=t σ M fun rs M2=>sp (.ref x::rs) M2 Q:=by rw[qag,qaE];exact qao rfl rfl
theorem qcS:(tr ((P e).Gn n) (.me 38 o a)).E σ M Q=(tr ((P e).Gn n) o).E σ M (kMe (e.C 4) "picked_for" (sem (P e) n 38) (tr ((P e).Gn n) a).A σ Q):=qdo (d:=qaA) rfl
theorem qc3{v0 v1 v2 v3 v4:RV}:mO (e.C 4) "answered" sp t σ Q x M (some (qag e v0 v1 v2 v3 v4))=t σ M fun rs M2=>sp (.ref x::rs) M2 Q:=by rw[qag,qaE];exact qao rfl rfl
theorem qdW:(tr ((P e).Gn n) (.me 51 o a)).E σ M Q=(tr ((P e).Gn n) o).E σ M (kMe (e.C 4) "answered" (sem (P e) n 51) (tr ((P e).Gn n) a).A σ Q):=qdo (d:=qaJ) rfl
theorem qc2{v0 v1 v2 v3 v4:RV}:mO (e.C 4) "lead_out" sp t σ Q x M (some (qag e v0 v1 v2 v3 v4))=t σ M fun rs M2=>sp (.ref x::rs) M2 Q:=by rw[qag,qaE];exact qao rfl rfl
theorem qdV:(tr ((P e).Gn n) (.me 52 o a)).E σ M Q=(tr ((P e).Gn n) o).E σ M (kMe (e.C 4) "lead_out" (sem (P e) n 52) (tr ((P e).Gn n) a).A σ Q):=qdo (d:=qaw) rfl
theorem qcB{v0 v1 v2 v3 v4:RV}:mO (e.C 4) "begin_out" sp t σ Q x M (some (qag e v0 v1 v2 v3 v4))=t σ M fun rs M2=>sp (.ref x::rs) M2 Q:=by rw[qag,qaE];exact qao rfl rfl
theorem qds:(tr ((P e).Gn n) (.me 53 o a)).E σ M Q=(tr ((P e).Gn n) o).E σ M (kMe (e.C 4) "begin_out" (sem (P e) n 53) (tr ((P e).Gn n) a).A σ Q):=qdo (d:=qaq) rfl
theorem qgU{v0 v1 v2 v3 v4:RV}:mO (e.C 4) "out" sp t σ Q x M (some (qag e v0 v1 v2 v3 v4))=t σ M fun rs M2=>sp (.ref x::rs) M2 Q:=by rw[qag,qaE];exact qao rfl rfl
theorem qjL:(tr ((P e).Gn n) (.me 60 o a)).E σ M Q=(tr ((P e).Gn n) o).E σ M (kMe (e.C 4) "out" (sem (P e) n 60) (tr ((P e).Gn n) a).A σ Q):=qdo (d:=qbC) rfl
theorem qdJ:(tr ((P e).Gn n) (.g "GREATEST_HOUSE")).E σ M Q=Q (.int 99) M:=t_g rfl
theorem qet:(tr ((P e).Gn n) (.g "GREATEST_DOOR")).E σ M Q=Q (.int 9999) M:=t_g rfl
theorem qdI:(tr ((P e).Gn n) (.g "GREATEST_PLACE")).E σ M Q=Q (.int 1000000) M:=t_g rfl
theorem qhj:(tr ((P e).Gn n) (.g "MOST_SIGNS")).E σ M Q=Q (.int 40) M:=t_g rfl
theorem qhk:(tr ((P e).Gn n) (.g "FIRST_SIGN")).E σ M Q=Q (.int 32) M:=t_g rfl
theorem qiL:(tr ((P e).Gn n) (.g "LAST_SIGN")).E σ M Q=Q (.int 126) M:=t_g rfl
theorem qeZ:(tr ((P e).Gn n) (.g "PERCENT_SIGN")).E σ M Q=Q (.int 37) M:=t_g rfl
theorem qfT:(tr ((P e).Gn n) (.g "WIDEST_STEP")).E σ M Q=Q (.int 199) M:=t_g rfl
theorem qes:(tr ((P e).Gn n) (.g "GREATEST_MOST")).E σ M Q=Q (.int 200) M:=t_g rfl
theorem qer:(tr ((P e).Gn n) (.g "GREATEST_TIME")).E σ M Q=Q (.int 1000000) M:=t_g rfl
theorem qrU{neg:Bool}:(tr ((P e).Gn n) (.ic neg a "KINDS")).E σ M Q=(tr ((P e).Gn n) a).E σ M fun x M1=>okR 15 x=true/\Q (.bl (if neg then !inR x ((["note","line"]:List Str).map RV.str)else inR x ((["note","line"]:List Str).map RV.str))) M1:=qsB rfl
theorem qhA{neg:Bool}:(tr ((P e).Gn n) (.ic neg a "NOTE_WORDS")).E σ M Q=(tr ((P e).Gn n) a).E σ M fun x M1=>okR 15 x=true/\Q (.bl (if neg then !inR x ((["say"]:List Str).map RV.str)else inR x ((["say"]:List Str).map RV.str))) M1:=qsB rfl
theorem qkC{neg:Bool}:(tr ((P e).Gn n) (.ic neg a "LENDINGS")).E σ M Q=(tr ((P e).Gn n) a).E σ M fun x M1=>okR 15 x=true/\Q (.bl (if neg then !inR x ((["door","place","talk"]:List Str).map RV.str)else inR x ((["door","place","talk"]:List Str).map RV.str))) M1:=qsB rfl
theorem qoQ{neg:Bool}:(tr ((P e).Gn n) (.ic neg a "SIEVES")).E σ M Q=(tr ((P e).Gn n) a).E σ M fun x M1=>okR 15 x=true/\Q (.bl (if neg then !inR x ((["all","place","talk"]:List Str).map RV.str)else inR x ((["all","place","talk"]:List Str).map RV.str))) M1:=qsB rfl
theorem qrT{neg:Bool}:(tr ((P e).Gn n) (.ic neg a "PICKS")).E σ M Q=(tr ((P e).Gn n) a).E σ M fun x M1=>okR 15 x=true/\Q (.bl (if neg then !inR x ((["next","keep"]:List Str).map RV.str)else inR x ((["next","keep"]:List Str).map RV.str))) M1:=qsB rfl
end
set_option hygiene false in
local macro_rules | `(tactic| walk_at "ev") => `(tactic| simp -implicitDefEqProofs only [↓qdR, ↓t_v, ↓t_i, ↓t_s, ↓t_b, ↓t_n, ↓qBR, ↓qBZ, ↓qCg, ↓qhf, ↓qCh, ↓qpw, ↓qD2, ↓qD3, ↓qD4, ↓qDZ, ↓qD5, ↓qD1, ↓qD0, ↓qDW, ↓qD6, ↓qDX, ↓qDY, ↓qdi, ↓qpt, ↓qCm, ↓qBY, ↓qus, ↓qB0, ↓qB5, ↓qBT, ↓qB4, ↓qB3, ↓qB8, ↓qB7, ↓qvx, ↓qBV, ↓qBX, ↓qur, ↓qBW, ↓qB6, ↓qCi, ↓qCk, ↓qCj, ↓qCd, ↓qCa, ↓qCe, ↓qCb, ↓qB9, ↓qcn, ↓qwo, ↓qqa, ↓qCJ, ↓qCM, ↓qCO, ↓qCI, ↓qCP, ↓ql9, ↓qAj, ↓qin, ↓qxh, ↓qx5, ↓qAU, ↓qDM, ↓qDN, ↓qDL, ↓qrS, ↓qya, ↓qx9, ↓qx3, List.getElem?_cons_zero, List.getElem?_cons_succ, ↓qqh, ↓qqf, ↓qqg, ↓qwM, ↓qwL, ↓qDC, ↓g_C, ↓qDB, ↓qxM, ↓qhK, ↓qrg, ↓qra, ↓qrc, ↓qnv, ↓qpY, ↓qf9, ↓qrx, ↓qwZ, ↓quI, ↓qxH, ↓qiT, ↓qtO, ↓qCl, ↓qri, ↓qvl, ↓xi_tup, ↓qsm, ↓qsl, ↓qso, ↓qpP, ↓qx0, ↓qB1, ↓qrd, ↓qvT, ↓qju, ↓qCL, ↓qrb, ↓qCH, ↓qCN, ↓qDx, ↓qxx, ↓quq, ↓qDw, ↓qwT, ↓qDv, ↓qxD, ↓qDy, ↓qsc, ↓qse, ↓qvi, ↓qvj, ↓qr2, ↓qvh, ↓qvg, ↓qrZ, ↓qr0, ↓qr1, ↓qvf, ↓qve, ↓qCK, ↓qDu, ↓qrt, ↓qrr, ↓qru, ↓qrs, ↓qu4, ↓qvL, ↓qyf, ↓qye, ↓qAX, ↓qyd, ↓qAW, ↓qAV, ↓qBS, ↓qsE, ↓qBU, ↓qq8, ↓qCf, ↓qmc, ↓qB2, ↓qre, ↓qCQ, ↓qt2, ↓qgR, ↓qxk, ↓qxl, ↓qxi, ↓qxj, ↓qp6, ↓qug, ↓qxA, ↓qxz, ↓qxy, ↓reduceIte, true_and, and_true, Bool.not_true, Bool.not_false, wav, Bool.true_and, Bool.false_and, Bool.and_true, Bool.true_or, Bool.false_or, List.set_cons_zero, List.set_cons_succ, qdY, waf, List.length_nil, wad, wa6, List.cons_append, waD, Option.join_some, Option.isSome_some, Option.isSome_none, qad, qav, Nat.reduceAdd, Nat.zero_add, Int.reduceBEq, beq_self_eq_true, Int.reduceLE, Int.reduceLT, decide_true, decide_false, z_0, z_1, qBt, qDK, z_2, z_3, z_4, qDJ, z_5, qDI, z_8, qDH, ↓qko, ↓qkn, ↓qq7, ↓qj9, ↓qiv, ↓qiu, ↓qhJ, ↓qg1, ↓qg0, ↓qmt, ↓qms, ↓qmr, ↓qmq, ↓qmp, ↓qbr, ↓qdr, ↓qgT, ↓qjK, ↓qcz, ↓qhM, ↓qdC, ↓qeH, ↓qcA, ↓qdq, ↓quo, ↓qdD, ↓qeI, ↓qed, ↓qfo, ↓qgZ, ↓qfN, ↓qgY, ↓qf5, ↓qit, ↓qhI, ↓qmo, ↓qmn, ↓qmm, ↓qml, ↓qun, ↓qgX, ↓qgW, ↓qis, ↓qdG, ↓qc4, ↓qei, ↓qeh, ↓qkm, ↓qkl, ↓qkk, ↓qkj, ↓qki, ↓qkh, ↓qkg, ↓qdB, ↓qeG, ↓qq6, ↓qcy, ↓qdp, ↓qcf, ↓qcR, ↓qeT, ↓qgd, ↓qeR, ↓qgb, ↓qeS, ↓qgc, ↓qec, ↓qfn, ↓qix, ↓qg2, ↓qiy, ↓qiw, ↓qmy, ↓qmx, ↓qmw, ↓qmv, ↓qmu, ↓qfK, ↓qhO, ↓qeW, ↓qgg, ↓qeU, ↓qge, ↓qeV, ↓qgf, ↓qup, ↓qfL, ↓qhP, ↓qfJ, ↓qhN, ↓qcg, ↓qcS, ↓qc3, ↓qdW, ↓qc2, ↓qdV, ↓qcB, ↓qds, ↓qgU, ↓qjL, ↓qdJ, ↓qet, ↓qdI, ↓qhj, ↓qhk, ↓qiL, ↓qeZ, ↓qfT, ↓qes, ↓qer, ↓qrU, ↓qhA, ↓qkC, ↓qoQ, ↓qrT])
local macro_rules | `(tactic| walk_at "evs") => do
 let some s<-Lean.Macro.expandMacro? (<-`(tactic|walk_at "ev"))|Lean.Macro.throwUnsupported
 match s with
 | `(tactic|simp -implicitDefEqProofs only[$ls,*])=>`(tactic|simp -implicitDefEqProofs only[*,qaa,ne_eq,not_false_eq_true,$ls,*])
 |_=>Lean.Macro.throwUnsupported
section
variable {e:Env}{n:Nat}{M:RM}{Q:RVK}
theorem qkw{i:Int}:sem (P e) (n+1) 0 [.int i] M Q=Q (.bl true) M:=by
 rw[us (i:=0) (d:=qb4) rfl];simp only[qb4];walk_at "ev"
theorem qau{i j k:Int}:sem (P e) (n+2) 45 [.int i,.int j,.int k] M Q=Q (.bl (decide (j<=i)&&decide (i<=k))) M:=by
 rw[us (i:=45) (d:=qaL) rfl];simp only[qaL];walk_at "ev";simp only[↓qkw];walk_at "ev";simp only[qvk]
theorem qky{i:Int}:sem (P e) (n+3) 1 [.int i] M Q=Q (.bl (decide (0<=i)&&decide (i<=99))) M:=by
 rw[us (i:=1) (d:=qb7) rfl];simp only[qb7];walk_at "ev";rw[qau]
theorem qez{i:Int}:sem (P e) (n+3) 2 [.int i] M Q=Q (.bl (decide (1<=i)&&decide (i<=9999))) M:=by
 rw[us (i:=2) (d:=qcN) rfl];simp only[qcN];walk_at "ev";rw[qau]
theorem qkx{i:Int}:sem (P e) (n+3) 3 [.int i] M Q=Q (.bl (decide (0<=i)&&decide (i<=1000000))) M:=by
 rw[us (i:=3) (d:=qb6) rfl];simp only[qb6];walk_at "ev";rw[qau]
theorem qkf:inR (.str "note") [.str "note",.str "line"]=true:=by decide+kernel
theorem qkF:inR (.str "say") [.str "say"]=true:=by decide+kernel
theorem qlN{k:Nat}{x:Str}:(okR k (.str x)=true)=True:=by cases k<;>exact eq_true rfl
theorem qe0:sem (P e) (n+1) 4 [.str "note"] M Q=Q (.bl true) M:=by
 rw[us (i:=4) (d:=qcL) rfl];simp only[qcL];walk_at "ev";rw[qkf,qlN,true_and]
theorem qfY:sem (P e) (n+1) 22 [.str "note",.str "say"] M Q=Q (.bl true) M:=by
 rw[us (i:=22) (d:=qcG) rfl];simp only[qcG];walk_at "ev";rw[qkF,qlN,true_and]
theorem qsn:Str.length "x" =1:=by decide+kernel
theorem qBu:(Str.cps "x").getD 0 0=120:=by decide+kernel
theorem qvR:(Str.cps "x").toList= [120]:=by decide+kernel
theorem qvQ:(⟨#[120]⟩:Str)= "x":=by decide+kernel
theorem qpT:qb9 "x" = [.str "x"]:=by unfold qb9;rw[qvR];exact congrArg (fun z=>[RV.str z]) qvQ
theorem qiN:sem (P e) (n+1) 5 [.str "x"] M Q=Q (.bl true) M:=by
 rw[us (i:=5) (d:=qcI) rfl];simp only[qcI];walk_at "ev";rw[qsn,qBu];walk_at "ev";rw[if_pos (by decide),if_pos (by decide)];rfl
theorem qa3{M:RM}:okT M:=trivial
theorem qh9(h:Q (.bl true) M):sem (P e) (n+2) 6 [.str "x"] M Q:=by
 rw[us (i:=6) (d:=qcH) rfl];simp only[qcH];walk_at "ev";rw[qsn,qpT];walk_at "ev";refine(qbq (bd:=qhF false 1) (fun _=>true) (fun _=>.bl true) qa3 _ _ (fun x hx=>⟨[x],rfl,fun K h=>?_,fun _ K h=>?_⟩) ?_)
 · exact h
 · cases waz.mp hx
   walk_at "ev";rw[qiN];exact h
 · exact(qpQ (bs:=[true])).mpr h
theorem qia(h:Q (.bl true) M):sem (P e) (n+3) 46 [.str "note",.str "say",.str "x"] M Q:=by
 rw[us (i:=46) (d:=qbK) rfl];simp only[qbK];walk_at "ev";rw[qe0,qdi,if_pos rfl,qfY,qdi,if_pos rfl];exact qh9 h
theorem qcQ{a b c d:Int}(h1:a<=b)(h2:c<=d):(decide (a<=b)&&decide (c<=d))=true:=by simp[h1,h2]
theorem qnO{a b c d:Int}(ha:0<=a/\a<=99)(hb:1<=b/\b<=9999)(hc:0<=c/\c<=1000000)(hd:1<=d/\d<=9999)(h:Q (.bl true) M):sem (P e) (n+4) 7 [.tup [.str "note",.int a,.int b,.int c,.int d,.str "say",.str "x"]] M Q:=by
 rw[us (i:=7) (d:=qcK) rfl];simp only[qcK];walk_at "ev";simp only[↓qky,↓qez,↓qkx,↓qdi,qcQ ha.1 ha.2,qcQ hb.1 hb.2,qcQ hc.1 hc.2,qcQ hd.1 hd.2,↓reduceIte];exact qia h
theorem qmJ{x:Str}{r:List RV}:sem (P e) (n+1) 8 [.tup (.str x::r)] M Q=Q (.str x) M:=by
 rw[us (i:=8) (d:=qcF) rfl];simp only[qcF];walk_at "ev";simp only[qua,wav,↓reduceIte]
structure Tb(e:Env):Prop where
 out:∃ a,qa0 (e.tb "DEEDS") (.inr "out")=some (.ref a)/\(a,7)∈e.cv
 time:qa0 (e.tb "TIME_AT") (.inr "note")=some (.int 0)
theorem qlo(tb:Tb e){a b c d:Int}(ha:0<=a/\a<=99)(hb:1<=b/\b<=9999)(hc:0<=c/\c<=1000000)(hd:1<=d/\d<=9999)(h:Q (.bl true) M):sem (P e) (n+5) 9 [.tup [.str "out",.str "note",.int a,.int b,.int c,.int d,.str "say",.str "x"]] M Q:=by
 rw[us (i:=9) (d:=qcO) rfl];simp only[qcO];walk_at "ev";rw[qmJ];walk_at "ev";obtain⟨f,h1,h2⟩:=tb.out;rw[h1,qhK,qmc,if_neg (by simp)]
 refine⟨_,wai.mpr ⟨_,h2,rfl⟩,?_⟩;walk_at "ev";rw[qxZ];exact qnO ha hb hc hd h
theorem qcm(tb:Tb e){l h le si pi mo re t0 t1 t2 t3:RV}:sem (P e) (n+1) 25 [.tup [l,h,le,si,pi,mo,re,.tup [t0,t1,t2,t3]],.str "note"] M Q=Q t0 M:=by
 rw[us (i:=25) (d:=qcE) rfl];simp only[qcE];walk_at "ev";rw[tb.time];walk_at "ev"
theorem qho{s:RV}(h:s= .non∨s= .str "note"):sem (P e) (n+1) 26 [s,.str "say"] M Q=Q (.str "note") M:=by
 rcases h with rfl|rfl<;>(rw[us (i:=26) (d:=qbs) rfl];simp only[qbs];walk_at "ev")
theorem qdl{s:RV}(h:s= .non∨s= .str "note"):sem (P e) (n+2) 55 [.str "note",s,.str "house",.str "say"] M Q=Q (.str "note") M:=by
 rw[us (i:=55) (d:=qbt) rfl];simp only[qbt];walk_at "ev";rw[qho h]
theorem qoy{lend:Str}{l h si pi mo re ti ki ho do_ pl fa:RV}:sem (P e) (n+1) 24 [.tup [l,h,.str lend,si,pi,mo,re,ti],.tup [ki,ho,do_,pl,fa]] M Q=
 Q (if lend= "door" then .tup [ki,ho,do_,.non,.non]else if lend= "place" then .tup [ki,ho,do_,pl,.non]else .tup [ki,ho,do_,pl,fa]) M:=by
 rw[us (i:=24) (d:=qbL) rfl];simp only[qbL];walk_at "ev";simp only[beq_iff_eq]
 by_cases h1:lend= "door"
 · rw[if_pos h1,if_pos h1]
 · rw[if_neg h1,if_neg h1]
   by_cases h2:lend= "place"
   · rw[if_pos h2,if_pos h2]
   · rw[if_neg h2,if_neg h2]
theorem qmK{l h:Int}(h1:1<=l)(h2:l<=h)(h3:h<=9999)(h4:h<=l+199):sem (P e) (n+4) 23 [.int l,.int h] M Q=Q (.bl true) M:=by
 rw[us (i:=23) (d:=qcJ) rfl];simp only[qcJ];walk_at "ev";rw[qez,qcQ h1 (by omega),qdi,if_pos rfl,qez,qcQ (by omega) h3,qdi,if_pos rfl]
 rw[decide_eq_true h2,decide_eq_true h4];rfl
theorem qjY{a b c d:Int}(ha:1<=a/\a<=1000000)(hb:1<=b/\b<=1000000)(hc:1<=c/\c<=1000000)(hd:0<=d/\d<=1000000)(h:Q (.bl true) M):sem (P e) (n+3) 10 [.tup [.int a,.int b,.int c,.int d]] M Q:=by
 rw[us (i:=10) (d:=qb5) rfl];simp only[qb5];walk_at "ev";rw[show qhv [RV.int a,RV.int b,RV.int c,RV.int d] none (some 3)= [RV.int a,RV.int b,RV.int c]from rfl]
 refine⟨(by decide:3<sizeLine),qbq (bd:=qhF false 1) (fun _=>true) (fun _=>.bl true) qa3 _ _ (fun x hx=>⟨[x],rfl,fun K h=>h,fun _ K h=>?_⟩) ?_⟩
 · have:∃ i:Int,x= .int i/\1<=i/\i<=1000000:=by
    simp only[was,wa0,or_false]at hx;rcases hx with rfl|rfl|rfl
    · exact⟨a,rfl,ha⟩
    · exact⟨b,rfl,hb⟩
    · exact⟨c,rfl,hc⟩
   obtain⟨i,rfl,h1,h2⟩:=this;walk_at "ev";rw[qau,qcQ h1 h2];exact h
 · refine(qpQ (bs:=[true,true,true])).mpr ?_
   show kAn _ Q (.bl true) M;rw[qdi,if_pos rfl,qau,qcQ hd.1 hd.2];exact h
theorem qq5{x:Str}(h:x= "door"∨x= "place"∨x= "talk"):inR (.str x) [.str "door",.str "place",.str "talk"]=true:=by rcases h with rfl|rfl|rfl<;>decide+kernel
theorem qnC{x:Str}(h:x= "all"∨x= "place"∨x= "talk"):inR (.str x) [.str "all",.str "place",.str "talk"]=true:=by rcases h with rfl|rfl|rfl<;>decide+kernel
theorem qqH{x:Str}(h:x= "next"∨x= "keep"):inR (.str x) [.str "next",.str "keep"]=true:=by rcases h with rfl|rfl<;>decide+kernel
structure Fm where
 low:Int
 high:Int
 lend:Str
 sieve:Str
 pick:Str
 most:Int
 renew:Bool
 t0:Int
 t1:Int
 t2:Int
 t3:Int
def Fm.times(f:Fm):RV:=.tup [.int f.t0,.int f.t1,.int f.t2,.int f.t3]
def Fm.r(f:Fm):RV:=.tup [.int f.low,.int f.high,.str f.lend,.str f.sieve,.str f.pick,.int f.most,.bl f.renew,f.times]
structure Fm.Ok(f:Fm):Prop where
 lo:1<=f.low
 le:f.low<=f.high
 hi:f.high<=9999
 wide:f.high<=f.low+199
 lend:f.lend= "door"∨f.lend= "place"∨f.lend= "talk"
 sieve:f.sieve= "all"∨f.sieve= "place"∨f.sieve= "talk"
 pick:f.pick= "next"∨f.pick= "keep"
 most:1<=f.most/\f.most<=200
 t0:1<=f.t0/\f.t0<=1000000
 t1:1<=f.t1/\f.t1<=1000000
 t2:1<=f.t2/\f.t2<=1000000
 t3:0<=f.t3/\f.t3<=1000000
theorem qln{f:Fm}(ok:f.Ok)(h:Q (.bl true) M):sem (P e) (n+5) 11 [f.r] M Q:=by
 unfold Fm.r;rw[us (i:=11) (d:=qcM) rfl];simp only[qcM];walk_at "ev";simp only[qq5 ok.lend,qnC ok.sieve,qqH ok.pick,qlN,↓reduceIte,Bool.not_true,wav,true_and];rw[qau,qcQ ok.most.1 ok.most.2];walk_at "ev";rw[qmK ok.lo ok.le ok.hi ok.wide,qdi,if_pos rfl];exact qjY ok.t0 ok.t1 ok.t2 ok.t3 h
end
section
variable {κ κ' β:Type}[DecidableEq κ][DecidableEq κ']{g:κ->κ'}{v:β->RV}
def enc(g:κ->κ')(v:β->RV)(l:List (κ×β)):List (κ'×RV):=l.map fun x=>(g x.1,v x.2)
theorem qef(hg:∀ a b,g a=g b->a=b){k:κ}:∀ {l:List (κ×β)},lk (enc g v l) (g k)=(lk l k).map v
 | []=>rfl
 |(j,x)::r=>by
  show lk ((g j,v x)::enc g v r) (g k)=_;rw[qaX,qaX]
  by_cases h:j=k
  · rw[if_pos h,if_pos (by rw[h])];rfl
  · rw[if_neg h,if_neg (fun z=>h (hg _ _ z))];exact qef hg
theorem qcu(hg:∀ a b,g a=g b->a=b){k:κ}{y:β}{l:List (κ×β)}:pt (enc g v l) (g k) (v y)=enc g v (pt l k y):=by
 have e1:((enc g v l).any fun kv=>decide (kv.1=g k))=(l.any fun kv=>decide (kv.1=k)):=by
  unfold enc;rw[List.any_map];congr 1;funext x;exact decide_eq_decide.mpr ⟨fun z=>hg _ _ z,fun z=>by show g x.1=g k;rw[z]⟩
 unfold pt;rw[e1];split
 · unfold enc
   rw[wah,wah];refine waE fun x _=>?_
   show(if g x.1=g k then(g x.1,v y)else(g x.1,v x.2))=(g (if x.1=k then(x.1,y)else x).1,v (if x.1=k then(x.1,y)else x).2)
   by_cases h:x.1=k
   · rw[if_pos h,if_pos (by rw[h])]
   · rw[if_neg h,if_neg (fun z=>h (hg _ _ z))]
 · unfold enc;rw[wau];rfl
theorem qa2{l:List (κ×β)}:(enc g v l).length=l.length:=by simp[enc]
theorem qtv{l:List (κ×β)}{k:κ}{y:β}:(pt l k y).length<=l.length+1:=by
 unfold pt;split<;>simp
theorem qbS{l:List (κ×β)}{k:κ}{y:β}(h:lk l k=none):pt l k y=l++ [(k,y)]:=by
 unfold pt;rw[if_neg];intro z;obtain⟨x,hx,e⟩:=List.any_eq_true.mp z;unfold lk at h;rw[Option.map_eq_none_iff,List.find?_eq_none]at h;exact h x hx e
theorem qbX(a b:Int)(h:(Sum.inl a:Key)= .inl b):a=b:=Sum.inl.inj h
theorem qep(a b:TK)(h:id a=id b):a=b:=h
end
section
variable {e:Env}{n:Nat}{M:RM}{Q:RVK}
structure PoolS where
 low:Int
 high:Int
 mark:Int
 taken:List (Int×Unit)
 untl:List (Int×Int)
def eT(l:List (Int×Unit)):List (Key×RV):=enc Sum.inl (fun _=>.bl true) l
def eU(l:List (Int×Int)):List (Key×RV):=enc Sum.inl RV.int l
structure qbE(e:Env)(M:RM)(a ta un:Addr)(p:PoolS):Prop where
 o:M a=some (qam e (.int p.low) (.int p.high) (.int p.mark) (.ref ta) (.ref un))
 t:M ta=some (.dk (eT p.taken))
 u:M un=some (.dk (eU p.untl))
def PoolS.has(p:PoolS)(i:Int):Bool:=decide (p.low<=i)&&decide (i<=p.high)
def PoolS.free(p:PoolS)(i m:Int):Bool:=p.has i&& !(lk p.taken i).isSome&&(match lk p.untl i with|none=>true|some u=>decide (u<=m))
theorem qxu{l:List (Int×Unit)}{i:Int}:(lk (eT l) (.inl i)).isSome=(lk l i).isSome:=by
 unfold eT;rw[qef qbX];simp
theorem qt8{l:List (Int×Int)}{i:Int}:lk (eU l) (.inl i)=(lk l i).map RV.int:=qef qbX
theorem qxR{a:Addr}{l h i:Int}{mk ta un:RV}(o:M a=some (qam e (.int l) (.int h) mk ta un)):sem (P e) (n+1) 27 [.ref a,.int i] M Q=Q (.bl (decide (l<=i)&&decide (i<=h))) M:=by
 rw[us (i:=27) (d:=qbB) rfl];simp only[qbB];walk_at "ev";rw[o];walk_at "ev";rw[o];walk_at "ev";exact qvk
theorem qey{a ta un:Addr}{p:PoolS}{i m:Int}(h:qbE e M a ta un p):sem (P e) (n+2) 48 [.ref a,.int i,.int m] M Q=Q (.bl (p.free i m)) M:=by
 obtain⟨ho,ht,hu⟩:=h;rw[us (i:=48) (d:=qaP) rfl];simp only[qaP];walk_at "evs";rw[qxR ho];walk_at "evs";rw[qxu,qt8];unfold PoolS.free PoolS.has;cases(decide (p.low<=i)&&decide (i<=p.high))<;>cases(lk p.taken i).isSome<;>cases lk p.untl i<;>simp[wO,qpt,cmR]<;>rfl
noncomputable def PoolS.line (p:PoolS):List Int:=(List.range (p.high+1-p.mark).toNat).map (fun(i:Nat)=>p.mark+(i:Int))++(List.range (p.mark-p.low).toNat).map fun(i:Nat)=>p.low+(i:Int)
structure PoolS.Ok(p:PoolS):Prop where
 lo:1<=p.low
 mlo:p.low<=p.mark
 mhi:p.mark<=p.high
 hi:p.high<=9999
 wide:p.high<=p.low+199
theorem qdQ{a:Int}{k:Nat}:qa4 a k=((List.range k).map fun(i:Nat)=>a+(i:Int)).map RV.int:=by unfold qa4;rw[wah];rfl
theorem qoh(p:PoolS)(ok:p.Ok):p.line.length<=200:=by
 obtain⟨o1,o2,o3,o4,o5⟩:=ok;unfold PoolS.line;simp;omega
theorem qiO{a ta un:Addr}{p:PoolS}(ok:p.Ok)(h:qbE e M a ta un p)(hq:Q (.ls (p.line.map RV.int)) M):sem (P e) (n+1) 13 [.ref a] M Q:=by
 have hl:=qoh p ok;obtain⟨ho,ht,hu⟩:=h;obtain⟨o1,o2,o3,o4,o5⟩:=ok;rw[us (i:=13) (d:=qaH) rfl];simp only[qaH];walk_at "evs";rw[qdQ,qdQ,<-wau];refine⟨by omega,by omega,by omega,by omega,?_,hq⟩
 unfold PoolS.line at hl;simp only[wab,wao]at hl ⊢;exact wal hl (by decide)
def PoolS.pick(p:PoolS)(keep:Bool)(door m:Int):Option Int:=if(keep&&p.free door m)=true then some door else p.line.find? fun i=>p.free i m
def qqP:Option Int->RV
 |some i=>.int i
 |none=>.non
theorem qnN{a ta un:Addr}{p:PoolS}{pick:Str}{d m:Int}(ok:p.Ok)(h:qbE e M a ta un p)(hq:Q (qqP (p.pick (pick== "keep") d m)) M):sem (P e) (n+3) 56 [.ref a,.str pick,.int d,.int m] M Q:=by
 obtain⟨ho,ht,hu⟩:=id h;have rest:∀ (xs:List Int) (z:Option RV),Q (qqP (xs.find? fun i=>p.free i m)) M->qdA (rgN 4) (tr ((P e).Gn (n+2)) (.se (.if_ (.me 48 (.v 0) (.ec (.v 4) (.ec (.v 3) .e0))) (.se (.re (.v 4)) .en) .en) .en)).S
  { nx:=(tr ((P e).Gn (n+2)) (.se (.re .n) .en)).S (rd Q),rt:=Q,bk:=(rd Q).bk,ct:=(rd Q).ct } okT id (xs.map RV.int) [some (.ref a),some (.str pick),some (.int d),some (.int m),z] M:=by
  intro xs
  induction xs with
  |nil=>intro z hq;refine⟨qa3,?_⟩;show Q .non M;exact hq
  |cons x xs ih=>
   intro z hq;refine⟨qa3,?_⟩;unfold rgN;walk_at "evs";rw[qey h,qhf];rw[List.find?_cons]at hq;cases e1:p.free x m with
   |true=>rw[e1]at hq;rw[if_pos rfl];first|exact hq|exact And.intro qa3 hq
   |false=>rw[e1]at hq;rw[if_neg (by simp)];exact ih _ hq
 have tail:Q (qqP (p.line.find? fun i=>p.free i m)) M->sem (P e) (n+2) 13 [.ref a] M (kS fun xs ok un M1=>qdA (rgN 4) (tr ((P e).Gn (n+2)) (.se (.if_ (.me 48 (.v 0) (.ec (.v 4) (.ec (.v 3) .e0))) (.se (.re (.v 4)) .en) .en) .en)).S
  { nx:=(tr ((P e).Gn (n+2)) (.se (.re .n) .en)).S (rd Q),rt:=Q,bk:=(rd Q).bk,ct:=(rd Q).ct } ok un xs [some (.ref a),some (.str pick),some (.int d),some (.int m),none] M1):=fun hq=>qiO ok h (rest _ _ hq)
 rw[us (i:=56) (d:=qaZ) rfl];simp only[qaZ];walk_at "evs";unfold PoolS.pick at hq;cases e1:(pick== "keep")with
 |false=>
  rw[e1]at hq;simp only[Bool.false_and,wav,↓reduceIte]at hq ⊢;exact tail hq
 |true=>
  rw[e1]at hq;simp only[Bool.true_and,↓reduceIte]at hq ⊢;rw[qey h,qhf];cases e2:p.free d m with
  |true=>rw[e2]at hq;rw[if_pos rfl];exact hq
  |false=>
   rw[e2]at hq;simp only[wav,↓reduceIte]at hq ⊢;rw[ho,qbr];exact tail hq
def PoolS.take(p:PoolS)(i:Int):PoolS:={ p with taken:=pt p.taken i (),mark:=if i=p.high then p.low else i+1 }
theorem qhh{a b:Addr}{o:RO}{C:Addr}{fs:List (Str×RV)}{kvs:List (Key×RV)}(h1:M a=some (.ins C fs))(h2:M b=some (.dk kvs)):a≠b:=fun z=>by rw[z,h2]at h1;cases h1
theorem qs7{a ta un:Addr}{p:PoolS}{i:Int}(h:qbE e M a ta un p)(hn:lk p.untl i=none)(hl:p.taken.length<1000)(n3:un≠ta)
 (hq:Q .non (put (put M ta (.dk (eT (p.take i).taken))) a (qam e (.int p.low) (.int p.high) (.int (p.take i).mark) (.ref ta) (.ref un)))):sem (P e) (n+1) 28 [.ref a,.int i] M Q:=by
 obtain⟨ho,ht,hun⟩:=h;have n1:a≠ta:=qhh (o:=.dk []) ho ht;have n2:a≠un:=qhh (o:=.dk []) ho hun;rw[us (i:=28) (d:=qbk) rfl];simp only[qbk];walk_at "evs";rw[qt8,hn];have e1:pt (eT p.taken) (Sum.inl i) (RV.bl true)=eT (p.take i).taken:=qcu (v:=fun _:Unit=>RV.bl true) qbX (y:=())
 rw[e1];refine⟨by unfold eT;rw[qa2];exact waA hl (by decide),?_⟩
 rw[if_neg (by simp)]
 unfold PoolS.take at hq ⊢
 by_cases z:i=p.high
 · rw[if_pos (by simpa using z)];simp only[if_pos z]at hq;exact hq
 · rw[if_neg (by simpa using z)];simp only[if_neg z]at hq;exact hq
end
section
variable {e:Env}{n:Nat}{M:RM}{Q:RVK}
structure Inn where
 kind:Str
 house:Int
 door:Int
 place:Int
 far:Int
def Inn.k(i:Inn):TK:=[some (.inr i.kind),some (.inl i.house),some (.inl i.door),some (.inl i.place),some (.inl i.far)]
def Inn.r(i:Inn):RV:=.tup [.str i.kind,.int i.house,.int i.door,.int i.place,.int i.far]
theorem qlO:∀ (k:TK),qj4 (k.map oR)=some k
 | []=>rfl
 |x::r=>by
  have e1:qpo (oR x)=some x:=by cases x with|none=>rfl|some k=>cases k<;>rfl
  show(match qpo (oR x),qj4 (r.map oR)with|some k,some ks=>some (k::ks)|_,_=>none)=_
  rw[e1,qlO r]
theorem qar(k:TK):qco (qaD k)=some k:=qlO k
noncomputable def qax (f:Fm)(i:Inn):TK:=if f.lend= "door" then [some (.inr i.kind),some (.inl i.house),some (.inl i.door),none,none]else if f.lend= "place" then [some (.inr i.kind),some (.inl i.house),some (.inl i.door),some (.inl i.place),none]else i.k
theorem qeA{f:Fm}{i:Inn}:sem (P e) (n+1) 24 [f.r,i.r] M Q=Q (qaD (qax f i)) M:=by
 unfold Fm.r Inn.r qax;rw[qoy]
 by_cases h1:f.lend= "door"
 · rw[if_pos h1,if_pos h1];rfl
 · rw[if_neg h1,if_neg h1]
   by_cases h2:f.lend= "place"
   · rw[if_pos h2,if_pos h2];rfl
   · rw[if_neg h2,if_neg h2];rfl
def eA(l:List (TK×Addr)):List (TK×RV):=enc id RV.ref l
def eB(l:List (Int×Addr)):List (Key×RV):=enc Sum.inl RV.ref l
def eH(l:List (Int×TK)):List (Key×RV):=enc Sum.inl qaD l
def eN(l:List (TK×Int)):List (TK×RV):=enc id RV.int l
theorem qxw{l:List (TK×Addr)}{k:TK}:lk (eA l) k=(lk l k).map RV.ref:=qef (g:=id) qep
theorem qq3{l:List (Int×Addr)}{i:Int}:lk (eB l) (.inl i)=(lk l i).map RV.ref:=qef qbX
theorem qfM{l:List (TK×Int)}{k:TK}:lk (eN l) k=(lk l k).map RV.int:=qef (g:=id) qep
theorem qxv{l:List (Int×TK)}{i:Int}:lk (eH l) (.inl i)=(lk l i).map qaD:=qef qbX
def qvI:Option Addr->RV
 |some a=>.ref a
 |none=>.non
variable {t pl bi bn ho nu:Addr}{fr now:RV}
theorem qku{rp rbn rho rnu:RV}{l:List (TK×Addr)}{k:TK}(ht:M t=some (qaf e fr rp now (.ref bi) rbn rho rnu))(hb:M bi=some (.dt (eA l))):sem (P e) (n+1) 32 [.ref t,qaD k] M Q=Q (qvI (lk l k)) M:=by
 rw[us (i:=32) (d:=qaF) rfl];simp only[qaF];walk_at "evs";rw[quU (qar k),qxw];cases lk l k<;>rfl
theorem qex{rp rbn rho:RV}{rbi:RV}{f:Fm}{i:Inn}{l:List (TK×Int)}(ht:M t=some (qaf e f.r rp now rbi rbn rho (.ref nu)))(hb:M nu=some (.dt (eN l))):sem (P e) (n+2) 33 [.ref t,i.r] M Q=Q (qqP (lk l (qax f i))) M:=by
 rw[us (i:=33) (d:=qaz) rfl];simp only[qaz];walk_at "evs";rw[qeA];first|rw[qf9]|skip
 rw[hb,quU (qar _),qfM];cases lk l (qax f i)<;>rfl
theorem qbe{a:Addr}{o:RO}(h:M a=some o):put M a o=M:=by
 funext b;unfold put;by_cases z:b=a
 · rw[if_pos z,z,h]
 · rw[if_neg z]
def qkq(l:List (Int×TK))(h:Int):List Int:=(l.filter fun x=>decide (x.2[1]? =some (some (.inl h)))).map (·.1)
def tag:RO->Nat
 | .dk _=>0
 | .dt _=>1
 | .lst _=>2
 | .fk _=>3
 | .ft _=>4
 | .ins _ fs=>10+fs.length
theorem qab{a b:Addr}{o o':RO}(h1:M a=some o)(h2:M b=some o')(h:(tag o==tag o')=false:=by rfl):a≠b:=fun z=>by
 rw[z,h2]at h1;cases h1;simp at h
theorem qq2{κ β:Type}[DecidableEq κ]{l:List (κ×β)}{k:κ}{y:β}:lk (pt l k y) k=some y:=by
 induction l with
 |nil=>show lk [(k,y)] k=_;rw[qaX,if_pos rfl]
 |cons x r ih=>
  obtain⟨j,z⟩:=x;unfold pt at ih ⊢;rw[waN]
  by_cases h:j=k
  · rw[if_pos (by simp[h])]
    show lk ((if(j,z).1=k then((j,z).1,y)else(j,z))::_) k=_
    rw[if_pos h,qaX,if_pos h]
  · rw[show(decide ((j,z).1=k)||r.any fun kv=>decide (kv.1=k))=r.any fun kv=>decide (kv.1=k) by simp[h]]
    split
    · rename_i h2
      rw[if_pos h2]at ih;show lk ((if(j,z).1=k then((j,z).1,y)else(j,z))::_) k=_
      rw[if_neg h,qaX,if_neg h];exact ih
    · rename_i h2
      rw[if_neg h2]at ih;show lk ((j,z)::(r++ [(k,y)])) k=_;rw[qaX,if_neg h];exact ih
theorem qas{x a:Addr}{o:RO}(hx:M x=none)(h:M a=some o):a≠x:=fun z=>by
 rw[z,hx]at h;cases h
theorem qac{x a:Addr}{o:RO}(h:put M a o x=none):M x=none/\x≠a:=by
 unfold put at h
 by_cases z:x=a
 · rw[if_pos z]at h;cases h
 · rw[if_neg z]at h;exact⟨h,z⟩
theorem qb2{a b:Addr}{o o':RO}(h:a≠b):put (put M a o) b o'=put (put M b o') a o:=by
 funext c;unfold put
 by_cases z1:c=b
 · rw[if_pos z1,if_neg (by rw[z1];exact fun z=>h z.symm),if_pos z1]
 · rw[if_neg z1,if_neg z1]
def itP(h:Int):RV->Bool
 | .tup [_,.tup (_::.int j::_)]=>j==h
 |_=>false
def itG:RV->RV
 | .tup [k,_]=>k
 |_=>.non
theorem held_eq{h:Int}:∀ {l:List (Int×TK)},(∀ x∈l,∃ k j r,x.2=k::some (.inl j)::r)->((qbd (eH l)).filter (itP h)).map itG=(qkq l h).map RV.int
 | [],_=>rfl
 |(m,y)::l,hh=>by
  obtain⟨k,j,r,e1⟩:=hh (m,y) (.head _);have e1:y=k::some (.inl j)::r:=e1;subst e1;have ih:=held_eq (h:=h) (l:=l) fun x hx=>hh x (.tail _ hx)
  show List.map itG (List.filter (itP h) (.tup [.int m,qaD (k::some (.inl j)::r)]::qbd (eH l)))=_;have p1:itP h (.tup [.int m,qaD (k::some (.inl j)::r)])=(j==h):=rfl;unfold qkq at ih ⊢
  by_cases z:j=h
  · rw[List.filter_cons_of_pos (by rw[p1];simpa using z),List.filter_cons_of_pos (by simpa using z),wad,wad,wad,ih];rfl
  · rw[List.filter_cons_of_neg (by rw[p1];simpa using z),List.filter_cons_of_neg (by simpa using z),ih]
theorem qtd{rp rbn rbi rnu:RV}{l:List (Int×TK)}{h:Int}(ht:M t=some (qaf e fr rp now rbi rbn (.ref ho) rnu))(hb:M ho=some (.dk (eH l)))(hh:∀ x∈l,∃ k j r,x.2=k::some (.inl j)::r)(hl:l.length<1000)(hq:Q (.ls ((qkq l h).map RV.int)) M):
 sem (P e) (n+1) 34 [.ref t,.int h] M Q:=by
 rw[us (i:=34) (d:=qa8) rfl];simp only[qa8];walk_at "evs";unfold qrf;simp only[hb];refine⟨by unfold qbd eH;rw[wab,qa2];exact waA hl (by decide),qbq (itP h) itG qad _ _ (fun x hx=>?_) ?_⟩
 · obtain⟨y0,hy0,rfl⟩:=wai.mp hx
   obtain⟨y,hy,rfl⟩:=wai.mp hy0;obtain⟨k,j,r,e1⟩:=hh y hy;have e2:qaD y.2= .tup (oR k::.int j::r.map oR):=by rw[e1];rfl
   show ∃ bs,qhF true 2 (.tup [.int y.1,qaD y.2])=some bs/\_;rw[e2];refine⟨_,rfl,fun K hK=>?_,fun _ K hK=>?_⟩
   · walk_at "ev";exact hK
   · walk_at "ev";exact hK
 · show Q (.ls (([]++((qbd (eH l)).filter (itP h)).map itG))) (put (put M ho (.fk (eH l))) ho (.dk (eH l)))
   rw[qav,qbe hb,waD,held_eq hh];exact hq
theorem qtb{pl ta un:Addr}{rbn rbi:RV}{f:Fm}{i:Inn}{p:PoolS}{m:Int}{hs:List (Int×TK)}{ns:List (TK×Int)}(ht:M t=some (qaf e f.r (.ref pl) now rbi rbn (.ref ho) (.ref nu)))(hp:qbE e M pl ta un p)(h1:M ho=some (.dk (eH hs)))(h2:M nu=some (.dt (eN ns)))
 (hn:lk p.untl m=none) (hl:p.taken.length<1000) (l1:hs.length<1000) (l2:ns.length<1000) (n3:un≠ta) (n4:ho≠ta) (n5:ho≠un)
 (hq:Q .non (put (put (put (put M ta (.dk (eT (p.take m).taken))) pl (qam e (.int p.low) (.int p.high) (.int (p.take m).mark) (.ref ta) (.ref un))) ho (.dk (eH (pt hs m (qax f i))))) nu (.dt (eN (pt ns (qax f i) m))))):
 sem (P e) (n+2) 49 [.ref t,.int m,i.r] M Q:=by
 have a1:t≠ta:=qab ht hp.t;have a2:t≠pl:=qab ht hp.o;have a3:ho≠pl:=qab h1 hp.o;have a4:nu≠pl:=qab h2 hp.o;have a5:nu≠ta:=qab h2 hp.t;have a6:nu≠ho:=qab h2 h1;have a7:t≠ho:=qab ht h1;have e1:pt (eH hs) (Sum.inl m) (qaD (qax f i))=eH (pt hs m (qax f i)):=qcu qbX;have e2:pt (eN ns) (qax f i) (RV.int m)=eN (pt ns (qax f i) m):=qcu (g:=id) qep;rw[us (i:=49) (d:=qa5) rfl];simp only[qa5];walk_at "evs";rw[qeA];walk_at "evs";rw[hp.o,qcz];walk_at "ev";refine qs7 hp hn hl n3 ?_;walk_at "evs";rw[qik (qar _)];walk_at "evs";unfold eH eN;rw[qa2,qa2];exact⟨waA l1 (by decide),waA l2 (by decide)⟩
theorem qd9{x:Addr}{a b c d:RV}(hq:Q .non (put M x (qan e a b c d))):sem (P e) (n+1) 59 [.ref x,a,b,c,d] (put M x (.ins (e.C 2) [])) Q:=by
 rw[us (i:=59) (d:=qbj) rfl];simp only[qbj];walk_at "evs"
theorem qgJ{x:Addr}(hx:M x=none)(hq:∀ s,M s=none->s≠x->Q .non (put (put M s (.dk [])) x (qio e (.int 0) (.ref s)))):sem (P e) (n+1) 12 [.ref x] (put M x (.ins (e.C 0) [])) Q:=by
 rw[us (i:=12) (d:=qa9) rfl];simp only[qa9];walk_at "ev";intro s hs;obtain⟨h1,h2⟩:=qac hs;have h3:x≠s:=Ne.symm h2;have q:=hq s h1 h2;rw[qaa h3];walk_at "ev";rw[qb2 h3,qav];exact q
theorem qid{x:Addr}{l h:Int}(hx:M x=none)(hq:∀ ta un,M ta=none->M un=none->ta≠x->un≠x->un≠ta->Q .non (put (put (put M ta (.dk [])) un (.dk [])) x (qam e (.int l) (.int h) (.int l) (.ref ta) (.ref un)))):sem (P e) (n+1) 47 [.ref x,.int l,.int h] (put M x (.ins (e.C 1) [])) Q:=by
 rw[us (i:=47) (d:=qbl) rfl];simp only[qbl];walk_at "ev";intro ta hta;obtain⟨h1,h2⟩:=qac hta;have h3:x≠ta:=Ne.symm h2;rw[qaa h3];walk_at "ev";intro un hun;obtain⟨g1,g2⟩:=qac hun;obtain⟨g3,g4⟩:=qac g1;obtain⟨g5,_⟩:=qac g3;have g6:x≠un:=Ne.symm g2;have q:=hq ta un h1 g5 h2 g2 g4;rw[qaa g6];walk_at "ev";rw[qb2 (a:=x) (b:=ta) h3,qav,qb2 (a:=x) (b:=un) g6,qav];exact q
theorem qib{rp rho rnu:RV}{f:Fm}{i:Inn}{m:Int}{li lb':List (TK×Addr)}{lb:List (Int×Addr)}{b:Addr}{nw:Int}(tb:Tb e)(ht:M t=some (qaf e f.r rp (.int nw) (.ref bi) (.ref bn) rho rnu))(h1:M bi=some (.dt (eA li)))(h2:M bn=some (.dk (eB lb)))(hb:lk lb m=some b)(h3:M b=some (.dt (eA lb')))
 (l1:li.length<1000) (l2:lb'.length<1000) (n1:b≠bi)
 (hq:∀ x,M x=none->Q .non (put (put (put M x (qan e i.r (.int m) (.str "note") (.int (nw+f.t0)))) bi (.dt (eA (pt li i.k x)))) b (.dt (eA (pt lb' [some (.inr i.kind),some (.inl i.place),some (.inl i.far)] x))))):
 sem (P e) (n+3) 57 [.ref t,i.r,.int m,.str "note"] M Q:=by
 have e0:i.r= .tup [.str i.kind,.int i.house,.int i.door,.int i.place,.int i.far]:=rfl;have k0:qco (.tup [.str i.kind,.int i.house,.int i.door,.int i.place,.int i.far])=some i.k:=qar i.k;have k1:qco (.tup [.str i.kind,.int i.place,.int i.far])=some [some (.inr i.kind),some (.inl i.place),some (.inl i.far)]:=rfl;have a1:t≠bi:=qab ht h1;have a2:bn≠bi:=qab h2 h1;have e1:∀ x,pt (eA li) i.k (RV.ref x)=eA (pt li i.k x):=fun x=>qcu (g:=id) qep
 have e2:∀ k x,pt (eA lb') k (RV.ref x)=eA (pt lb' k x):=fun k x=>qcu (g:=id) qep
 have e3:lk (eB lb) (.inl m)=some (.ref b):=by rw[qq3,hb];rfl
 have z1:(eA li).length<sizeLine:=by unfold eA;rw[qa2];exact waA l1 (by decide)
 have z2:(eA lb').length<sizeLine:=by unfold eA;rw[qa2];exact waA l2 (by decide)
 rw[us (i:=57) (d:=qaC) rfl];simp only[qaC];rw[e0];walk_at "evs";unfold Fm.r Fm.times;rw[qcm tb,qin];intro x hx;have b1:=qas hx ht;have b2:=qas hx h1;have b3:=qas hx h2;have b4:=qas hx h3;have q:=hq x hx;refine qd9 ⟨rfl,?_⟩;rw[qaa b1,ht];walk_at "ev";rw[qaa b2,h1,qik k0,e1];refine⟨z1,?_⟩;walk_at "evs";rw[qik k1,e2];refine⟨z2,?_⟩;walk_at "ev";exact q
theorem qic{rp rho rnu:RV}{f:Fm}{i:Inn}{m:Int}{li:List (TK×Addr)}{lb:List (Int×Addr)}{nw:Int}(tb:Tb e)(ht:M t=some (qaf e f.r rp (.int nw) (.ref bi) (.ref bn) rho rnu))(h1:M bi=some (.dt (eA li)))(h2:M bn=some (.dk (eB lb)))(hb:lk lb m=none)
 (l1:li.length<1000) (l2:lb.length<1000)
 (hq:∀ x y,M x=none->M y=none->y≠x->Q .non (put (put (put (put M x (qan e i.r (.int m) (.str "note") (.int (nw+f.t0)))) bi (.dt (eA (pt li i.k x)))) y (.dt (eA [([some (.inr i.kind),some (.inl i.place),some (.inl i.far)],x)]))) bn (.dk (eB (lb++ [(m,y)]))))):
 sem (P e) (n+3) 57 [.ref t,i.r,.int m,.str "note"] M Q:=by
 have e0:i.r= .tup [.str i.kind,.int i.house,.int i.door,.int i.place,.int i.far]:=rfl;have k0:qco (.tup [.str i.kind,.int i.house,.int i.door,.int i.place,.int i.far])=some i.k:=qar i.k;have k1:qco (.tup [.str i.kind,.int i.place,.int i.far])=some [some (.inr i.kind),some (.inl i.place),some (.inl i.far)]:=rfl;have a1:t≠bi:=qab ht h1;have a2:bn≠bi:=qab h2 h1;have a3:t≠bn:=qab ht h2;have e1:∀ x,pt (eA li) i.k (RV.ref x)=eA (pt li i.k x):=fun x=>qcu (g:=id) qep
 have e2:∀ x,pt (eB lb) (.inl m) (RV.ref x)=eB (lb++ [(m,x)]):=fun x=>by rw[<-qbS hb];exact qcu qbX
 have e3:lk (eB lb) (.inl m)=none:=by rw[qq3,hb];rfl
 have e4:∀ y,lk (eB (lb++ [(m,y)])) (.inl m)=some (.ref y):=fun y=>by
  rw[qq3,<-qbS hb,qq2];rfl
 have z1:(eA li).length<sizeLine:=by unfold eA;rw[qa2];exact waA l1 (by decide)
 have z2:(eB lb).length<sizeLine:=by unfold eB;rw[qa2];exact waA l2 (by decide)
 rw[us (i:=57) (d:=qaC) rfl];simp only[qaC];rw[e0];walk_at "evs";unfold Fm.r Fm.times;rw[qcm tb,qin];intro x hx;have b1:=qas hx ht;have b2:=qas hx h1;have b3:=qas hx h2;refine qd9 ⟨rfl,?_⟩;rw[qaa b1,ht];walk_at "ev";rw[qaa b2,h1,qik k0,e1];refine⟨z1,?_⟩;walk_at "evs";intro y hy;obtain⟨y1,y2⟩:=qac hy;obtain⟨y3,y4⟩:=qac y1;have c1:=qas y3 ht;have c2:=qas y3 h2;have q:=hq x y hx y3 y4;have c3:y≠bn:=Ne.symm c2;walk_at "evs";rw[qik k1];refine⟨(by decide:0<sizeLine),?_⟩
 walk_at "ev";rw[qb2 c2,qav];exact q
theorem qtc{rp rbi rbn rho rnu:RV}{f:Fm}{nw:Int}{x:Addr}{ri rn rs ro:RV}(tb:Tb e)(ht:M t=some (qaf e f.r rp (.int nw) rbi rbn rho rnu))(hx:M x=some (qan e ri rn rs ro))(hq:Q .non (put M x (qan e ri rn (.str "note") (.int (nw+f.t0))))):sem (P e) (n+2) 50 [.ref t,.ref x,.str "note"] M Q:=by
 have a1:t≠x:=qab ht hx;rw[us (i:=50) (d:=qa6) rfl];simp only[qa6];walk_at "evs";rw[if_neg (by decide)]
 unfold Fm.r Fm.times;rw[qcm tb,qin];walk_at "evs"
end
section
variable {e:Env}{n:Nat}{M:RM}{Q:RVK}{g t pl ta un bi bn ho nu:Addr}
theorem qgG{rs rd rbi rbn rho rnu:RV}{f:Fm}{p:PoolS}{nw d:Int}(ok:p.Ok)(hg:M g=some (qag e f.r (.ref t) rs rd .non))(ht:M t=some (qaf e f.r (.ref pl) (.int nw) rbi rbn rho rnu))(hp:qbE e M pl ta un p)
 (hq:Q (qqP (p.pick (f.pick== "keep") d nw)) M):sem (P e) (n+4) 38 [.ref g,.int d] M Q:=by
 have hpo:=hp.o;rw[us (i:=38) (d:=qaA) rfl];simp only[qaA];walk_at "evs";unfold Fm.r;walk_at "ev";exact qnN ok hp hq
theorem qdk{a b:Addr}{v1 v2 v3 v4 v5 w1 w2 w3 w4 w5:RV}(h1:M a=some (qag e v1 v2 v3 v4 v5))(h2:M b=some (qam e w1 w2 w3 w4 w5)):a≠b:=fun z=>by
 rw[z,h2]at h1;unfold qag qam at h1;injection h1 with h1
 injection h1 with _ h1
 injection h1 with h1 _
 injection h1 with h1 _
 exact absurd h1 (by decide)
theorem qgP{m:Int}:qqP (some m)= .int m:=rfl
theorem qlK:qqP none= .non:=rfl
theorem i_0{i:Inn}:rIx i.r (.int 0) M Q=Q (.str i.kind) M:=xi_tup.trans (by rw[qvL];rfl)
theorem i_1{i:Inn}:rIx i.r (.int 1) M Q=Q (.int i.house) M:=xi_tup.trans (by rw[qyf];rfl)
theorem i_2{i:Inn}:rIx i.r (.int 2) M Q=Q (.int i.door) M:=xi_tup.trans (by rw[qye];rfl)
theorem f_5{f:Fm}:rIx f.r (.int 5) M Q=Q (.int f.most) M:=xi_tup.trans (by rw[qAW];rfl)
theorem qfz{rs rd rp rho:RV}{f:Fm}{i:Inn}{nw m:Int}{li lb':List (TK×Addr)}{lb:List (Int×Addr)}{ns:List (TK×Int)}{b:Addr}(tb:Tb e)(hg:M g=some (qag e f.r (.ref t) rs rd .non))(ht:M t=some (qaf e f.r rp (.int nw) (.ref bi) (.ref bn) rho (.ref nu)))
 (h1:M bi=some (.dt (eA li))) (h2:M bn=some (.dk (eB lb))) (h4:M nu=some (.dt (eN ns))) (hm:lk ns (qax f i)=some m) (hb:lk lb m=some b) (h3:M b=some (.dt (eA lb'))) (l1:li.length<1000) (l2:lb'.length<1000) (n1:b≠bi)
 (hq:∀ x,M x=none->Q (.tup [.str "led",.int m]) (put (put (put M x (qan e i.r (.int m) (.str "note") (.int (nw+f.t0)))) bi (.dt (eA (pt li i.k x)))) b (.dt (eA (pt lb' [some (.inr i.kind),some (.inl i.place),some (.inl i.far)] x))))):
 sem (P e) (n+4) 53 [.ref g,i.r,.str "note"] M Q:=by
 rw[us (i:=53) (d:=qaq) rfl];simp only[qaq];walk_at "evs";rw[qex ht h4,hm,qgP];walk_at "evs";exact qib tb ht h1 h2 hb h3 l1 l2 n1 hq
theorem qfy{rs rd:RV}{f:Fm}{i:Inn}{p:PoolS}{nw m:Int}{li:List (TK×Addr)}{lb:List (Int×Addr)}{hs:List (Int×TK)}{ns:List (TK×Int)}(tb:Tb e)(ok:p.Ok)(hg:M g=some (qag e f.r (.ref t) rs rd .non))(ht:M t=some (qaf e f.r (.ref pl) (.int nw) (.ref bi) (.ref bn) (.ref ho) (.ref nu)))(hp:qbE e M pl ta un p)
 (h1:M bi=some (.dt (eA li))) (h2:M bn=some (.dk (eB lb))) (h3:M ho=some (.dk (eH hs))) (h4:M nu=some (.dt (eN ns))) (hm:lk ns (qax f i)=none) (hb:lk lb m=none) (hh:∀ x∈hs,∃ k j r,x.2=k::some (.inl j)::r) (hmost:((qkq hs i.house).length:Int)<f.most)
 (hpick:p.pick (f.pick== "keep") i.door nw=some m) (hun:lk p.untl m=none) (l0:p.taken.length<1000) (l1:li.length<1000) (l2:lb.length<1000) (l3:hs.length<1000) (l4:ns.length<1000)
 (n1:un≠ta) (n2:ho≠ta) (n3:ho≠un) (n4:bn≠ta) (n5:bn≠un) (n6:bn≠ho) (n7:bi≠nu)
 (hq:∀ x y,M x=none->M y=none->y≠x->Q (.tup [.str "led",.int m]) (put (put (put (put (put (put (put (put M ta (.dk (eT (p.take m).taken))) pl (qam e (.int p.low) (.int p.high) (.int (p.take m).mark) (.ref ta) (.ref un))) ho (.dk (eH (pt hs m (qax f i))))) nu (.dt (eN (pt ns (qax f i) m))))
  x (qan e i.r (.int m) (.str "note") (.int (nw+f.t0)))) bi (.dt (eA (pt li i.k x)))) y (.dt (eA [([some (.inr i.kind),some (.inl i.place),some (.inl i.far)],x)]))) bn (.dk (eB (lb++ [(m,y)]))))):
 sem (P e) (n+5) 53 [.ref g,i.r,.str "note"] M Q:=by
 have a1:t≠ta:=qab ht hp.t;have a2:t≠pl:=qab ht hp.o;have a3:t≠ho:=qab ht h3;have a4:t≠nu:=qab ht h4;have a5:g≠ta:=qab hg hp.t;have a7:g≠ho:=qab hg h3;have a8:g≠nu:=qab hg h4;have a9:bi≠ta:=qab h1 hp.t;have a10:bi≠pl:=qab h1 hp.o;have a11:bi≠ho:=qab h1 h3;have a12:bn≠pl:=qab h2 hp.o;have a13:bn≠nu:=qab h2 h4;have k1:∀ {M:RM} {Q:RVK},rIx i.r (.int 1) M Q=Q (.int i.house) M:=i_1;have k2:∀ {M:RM} {Q:RVK},rIx i.r (.int 2) M Q=Q (.int i.door) M:=i_2;have k5:∀ {M:RM} {Q:RVK},rIx f.r (.int 5) M Q=Q (.int f.most) M:=f_5;rw[us (i:=53) (d:=qaq) rfl];simp only[qaq];walk_at "evs";rw[qex ht h4,hm,qlK];walk_at "evs";refine qtd ht h3 hh l3 ?_;walk_at "evs";rw[if_neg (by rw[wab];simp;omega)]
 refine qgG ok hg ht hp ?_;rw[hpick,qgP];walk_at "evs";refine qtb ht hp h3 h4 hun l0 l3 l4 n1 n2 n3 ?_;have a6:g≠pl:=qdk hg hp.o;walk_at "evs";refine qic (bi:=bi) (bn:=bn) tb (by rw[qaa a4,qaa a3,qaa a2,qaa a1];exact ht) (by rw[qaa n7,qaa a11,qaa a10,qaa a9];exact h1) (by rw[qaa a13,qaa n6,qaa a12,qaa n4];exact h2) hb l1 l2 fun x y hx hy hxy=>?_
 exact hq x y (qac (qac (qac (qac hx).1).1).1).1 (qac (qac (qac (qac hy).1).1).1).1 hxy
theorem qjv{rp rbn rho rnu fr now:RV}{l:List (TK×Addr)}{i:Inn}(ht:M t=some (qaf e fr rp now (.ref bi) rbn rho rnu))(hb:M bi=some (.dt (eA l))):sem (P e) (n+1) 32 [.ref t,i.r] M Q=Q (qvI (lk l i.k)) M:=qku (k:=i.k) ht hb
theorem qlL{x:Addr}:qvI (some x)= .ref x:=rfl
theorem qlM:qvI none= .non:=rfl
theorem qeO{rs rd rp rbn rho rnu now:RV}{f:Fm}{i:Inn}{li:List (TK×Addr)}(hk:i.kind= "note")(hg:M g=some (qag e f.r (.ref t) rs rd .non))(ht:M t=some (qaf e f.r rp now (.ref bi) rbn rho rnu))(h1:M bi=some (.dt (eA li)))(hn:lk li i.k=none)
 (hq:sem (P e) (n+5) 53 [.ref g,i.r,.str "note"] M Q):sem (P e) (n+6) 52 [.ref g,i.r,.str "say"] M Q:=by
 have k0:∀ {M:RM} {Q:RVK},rIx i.r (.int 0) M Q=Q (.str "note") M:=fun {M Q}=>by rw[i_0,hk]
 rw[us (i:=52) (d:=qaw) rfl];simp only[qaw];walk_at "evs";rw[qjv ht h1,hn,qlM];walk_at "ev";rw[qdl (.inl rfl)];walk_at "ev";rw[hg];walk_at "ev";exact hq
theorem qeN{rs rd rp rbn rho rnu ri ro:RV}{f:Fm}{i:Inn}{li:List (TK×Addr)}{x:Addr}{m nw:Int}(tb:Tb e)(hk:i.kind= "note")(hg:M g=some (qag e f.r (.ref t) rs rd .non))(ht:M t=some (qaf e f.r rp (.int nw) (.ref bi) rbn rho rnu))(h1:M bi=some (.dt (eA li)))(hn:lk li i.k=some x)(hx:M x=some (qan e ri (.int m) (.str "note") ro))
 (hq:Q (.tup [.str "led",.int m]) (put M x (qan e ri (.int m) (.str "note") (.int (nw+f.t0))))):sem (P e) (n+6) 52 [.ref g,i.r,.str "say"] M Q:=by
 have k0:∀ {M:RM} {Q:RVK},rIx i.r (.int 0) M Q=Q (.str "note") M:=fun {M Q}=>by rw[i_0,hk]
 rw[us (i:=52) (d:=qaw) rfl];simp only[qaw];walk_at "evs";rw[qjv ht h1,hn,qlL];walk_at "ev";rw[hx];walk_at "ev";rw[qdl (.inr rfl)];walk_at "ev";rw[hg];walk_at "ev";rw[ht];walk_at "ev";refine qtc tb ht hx ?_;walk_at "ev";exact hq
theorem qs9{i:Inn}{rt rs rd wi fr:RV}(hp:i.place≠0)(hk:i.kind= "note")(hg:M g=some (qag e fr rt rs rd wi))(hq:sem (P e) (n+6) 52 [.ref g,i.r,.str "say"] M Q):sem (P e) (n+7) 37 [.ref g,.tup [.str "note",.int i.house,.int i.door,.int i.place,.int i.far,.str "say",.str "x"]] M Q:=by
 have e0:i.r= .tup [.str "note",.int i.house,.int i.door,.int i.place,.int i.far]:=by unfold Inn.r;rw[hk]
 have e1:(!i.place==0)=true:=by simpa using hp
 rw[us (i:=37) (d:=qbm) rfl];simp only[qbm];walk_at "ev";rw[hg];walk_at "ev";simp only[e1,↓reduceIte];rw[<-e0];exact hq
theorem qjZ{i:Inn}{rt rs rd wi fr:RV}(hp:i.place≠0)(hk:i.kind= "note")(hg:M g=some (qag e fr rt rs rd wi))(hq:sem (P e) (n+6) 52 [.ref g,i.r,.str "say"] M Q):sem (P e) (n+8) 51 [.ref g,.str "out",.tup [.str "note",.int i.house,.int i.door,.int i.place,.int i.far,.str "say",.str "x"]] M Q:=by
 rw[us (i:=51) (d:=qaJ) rfl];simp only[qaJ];walk_at "evs";exact qs9 hp hk hg hq
structure Inn.Ok(i:Inn):Prop where
 kind:i.kind= "note"
 house:0<=i.house/\i.house<=99
 door:1<=i.door/\i.door<=9999
 place:1<=i.place/\i.place<=1000000
 far:1<=i.far/\i.far<=9999
def Inn.deed(i:Inn):RV:=.tup [.str "out",.str "note",.int i.house,.int i.door,.int i.place,.int i.far,.str "say",.str "x"]
theorem qwR{i:Inn}{rt rs wi fr:RV}{dn:Addr}{post:RV->RM->Prop}(tb:Tb e)(ok:i.Ok)(hg:M g=some (qag e fr rt rs (.ref dn) wi))(hl:∀ K:RVK,(∀ v M2,post v M2->K v M2)->sem (P e) (n+6) 52 [.ref g,i.r,.str "say"] M K)
 (hq:∀ v M2,post v M2->∃ rt2 rs2 wi2 fr2 ds,M2 g=some (qag e fr2 rt2 rs2 (.ref dn) wi2)/\M2 dn=some (.lst ds)/\ds.length<1000/\Q v (put M2 dn (.lst (ds++ [.tup [i.deed,v]])))):
 sem (P e) (n+10) 60 [.ref g,.str "note",.int i.house,.int i.door,.int i.place,.int i.far,.str "say",.str "x"] M Q:=by
 rw[us (i:=60) (d:=qbC) rfl];simp only[qbC];walk_at "evs";rw[us (i:=36) (d:=qbp) rfl];simp only[qbp];walk_at "ev";refine qlo (n:=n+3) tb ok.house ok.door ⟨by have:=ok.place.1;omega,ok.place.2⟩ ok.far ?_
 walk_at "evs";rw[qxZ];refine qjZ (by have:=ok.place.1;omega) ok.kind hg (hl _ fun v M2 hp=>?_)
 obtain⟨rt2,rs2,wi2,fr2,ds,g1,g2,g3,g4⟩:=hq v M2 hp;rw[g1];walk_at "ev";rw[g2];walk_at "ev";exact⟨ds,_,rfl,g2,waA g3 (by decide),g4⟩
def PoolS.many(p:PoolS)(m:Int):Nat:=(((List.range (p.high+1-p.low).toNat).map fun(i:Nat)=>p.low+(i:Int)).filter fun i=>p.free i m).length
theorem qhl{p:Int->Bool}{q:RV->Bool}(h:∀ i,q (.int i)=p i):∀ (l:List Int),((l.map RV.int).filter q)=(l.filter p).map RV.int
 | []=>rfl
 |i::l=>by
  rw[wad,waZ,waZ,h i,qhl h l];split<;>rfl
def qAO(p:PoolS)(m:Int):RV->Bool
 | .int i=>p.free i m
 |_=>false
theorem qh8{p:PoolS}{m:Int}(ok:p.Ok)(h:qbE e M pl ta un p)(hq:Q (.int (p.many m)) M):sem (P e) (n+3) 30 [.ref pl,.int m] M Q:=by
 obtain⟨ho,ht,hu⟩:=id h;obtain⟨o1,o2,o3,o4,o5⟩:=ok;rw[us (i:=30) (d:=qaG) rfl];simp only[qaG];walk_at "evs";refine⟨⟨by omega,by omega,by omega,by omega⟩,by rw[qbW];exact waJ (show _<=200 by omega) (by decide),qbq (bd:=qhF false 1) (qAO p m) id qa3 _ _ (fun x hx=>?_) ?_⟩
 · rw[qdQ]at hx
   obtain⟨i,_,rfl⟩:=wai.mp hx;refine⟨[.int i],rfl,fun K hK=>?_,fun _ K hK=>?_⟩
   · walk_at "ev"
     rw[ho];walk_at "ev";rw[qey h];exact hK
   · walk_at "ev";exact hK
 · show Q (.int (([]++((qa4 p.low (p.high+1-p.low).toNat).filter (qAO p m)).map id).length:Nat)) M
   rw[waD,List.map_id,qdQ,qhl (p:=fun i=>p.free i m) (fun _=>rfl),wab]
   exact hq
theorem qtf{rs rd wi rbi rbn rho rnu:RV}{f fr:RV}{p:PoolS}{nw:Int}(ok:p.Ok)(hg:M g=some (qag e f (.ref t) rs rd wi))(ht:M t=some (qaf e fr (.ref pl) (.int nw) rbi rbn rho rnu))(hp:qbE e M pl ta un p)(hq:Q (.int (p.many nw)) M):sem (P e) (n+4) 16 [.ref g] M Q:=by
 have hpo:=hp.o;rw[us (i:=16) (d:=qbo) rfl];simp only[qbo];walk_at "evs";exact qh8 ok hp hq
theorem qqr{rs rd wi rbi rbn rho rnu:RV}{f fr:RV}{p:PoolS}{nw:Int}(hg:M g=some (qag e f (.ref t) rs rd wi))(ht:M t=some (qaf e fr (.ref pl) (.int nw) rbi rbn rho rnu))(hp:qbE e M pl ta un p)(h0:p.untl= [])(hq:Q (.ls []) M):sem (P e) (n+4) 19 [.ref g] M Q:=by
 have hpo:=hp.o;have hu:=hp.u;rw[us (i:=19) (d:=qbb) rfl];simp only[qbb];walk_at "evs";rw[us (i:=29) (d:=qaO) rfl];simp only[qaO];walk_at "evs";refine qo5 (ns:=[]) hu (by rw[h0];rfl) (by decide) fun ns' h1 _=>?_
 rw[List.perm_nil.mp h1];exact⟨(by decide:0<sizeLine),qa3,hq⟩
def qwE:RV->RV
 | .tup [k,.tup r]=>.tup (k::r)
 |x=>x
theorem qqs{rs rd wi rbi rbn rnu rp now:RV}{f fr:RV}{hs:List (Int×TK)}(hg:M g=some (qag e f (.ref t) rs rd wi))(ht:M t=some (qaf e fr rp now rbi rbn (.ref ho) rnu))(h3:M ho=some (.dk (eH hs)))(hl:hs.length<64)(hlen:∀ x∈hs,x.2.length<100)(hk:qca (hs.map fun x=>some (.inl x.1)::x.2)=true)
 (hq:Q (.ls ((qeJ (hs.map fun x=>some (.inl x.1)::x.2)).map qaD)) M):sem (P e) (n+1) 17 [.ref g] M Q:=by
 rw[us (i:=17) (d:=qbc) rfl];simp only[qbc];walk_at "evs";unfold qrf;simp only[h3];refine⟨by unfold qbd eH;rw[wab,qa2];exact waA hl (by decide),qbq (fun _=>true) qwE qad _ _ (fun x hx=>?_) ?_⟩
 · obtain⟨y0,hy0,rfl⟩:=wai.mp hx
   obtain⟨y,hy,rfl⟩:=wai.mp hy0;have hy2:=hlen y hy;show ∃ bs,qhF true 2 (.tup [.int y.1,qaD y.2])=some bs/\_;refine⟨_,rfl,fun K hK=>?_,fun _ K hK=>?_⟩
   · exact hK
   · unfold qaD
     walk_at "ev";refine⟨?_,hK⟩;rw[wab];exact wal (show 1+y.2.length<=200 by omega) (by decide)
 · show bfR "sorted" [.ls ([]++((qbd (eH hs)).filter fun _=>true).map qwE)] (put (put M ho (.fk (eH hs))) ho (.dk (eH hs))) Q
   rw[qav,qbe h3,waD,waY.mpr (fun _ _=>rfl),qkU]
   have e1:(qbd (eH hs)).map qwE=(hs.map fun x=>some (.inl x.1)::x.2).map qaD:=by
    unfold qbd eH enc;rw[wah,wah,wah];rfl
   rw[e1];exact qem (by rw[wab];exact hl) hk hq
theorem qkt{x:Addr}{i:Inn}{m ov:Int}{s:Str}(h:M x=some (qan e i.r (.int m) (.str s) (.int ov))):sem (P e) (n+1) 15 [.ref x] M Q=Q (.tup [.str i.kind,.int m,.int i.house,.int i.door,.int i.place,.int i.far,.str s,.int ov]) M:=by
 have e0:i.r= .tup [.str i.kind,.int i.house,.int i.door,.int i.place,.int i.far]:=rfl;rw[e0]at h;rw[us (i:=15) (d:=qb3) rfl];simp only[qb3];walk_at "evs"
def tkG(row:Addr->TK):RV->RV
 | .ref a=>qaD (row a)
 |x=>x
theorem qqq{rs rd wi rp rbn rho rnu now:RV}{f fr:RV}{li:List (TK×Addr)}{row:Addr->TK}(hg:M g=some (qag e f (.ref t) rs rd wi))(ht:M t=some (qaf e fr rp now (.ref bi) rbn rho rnu))(h1:M bi=some (.dt (eA li)))(hl:li.length<64)
 (hx:∀ x∈li,∃ (i:Inn) (m ov:Int) (s:Str),M x.2=some (qan e i.r (.int m) (.str s) (.int ov))/\row x.2= [some (.inr i.kind),some (.inl m),some (.inl i.house),some (.inl i.door),some (.inl i.place),some (.inl i.far),some (.inr s),some (.inl ov)])
 (hk:qca (li.map fun x=>row x.2)=true) (hq:Q (.ls ((qeJ (li.map fun x=>row x.2)).map qaD)) M):sem (P e) (n+2) 18 [.ref g] M Q:=by
 rw[us (i:=18) (d:=qba) rfl];simp only[qba];walk_at "evs";rw[us (i:=14) (d:=qaN) rfl];simp only[qaN];walk_at "evs";have e0:List.map (fun x=>x.snd) (eA li)=li.map fun x=>RV.ref x.2:=by unfold eA enc;rw[wah];rfl
 rw[e0];refine⟨by rw[wab];exact waA hl (by decide),qbq (bd:=qhF false 1) (fun _=>true) (tkG row) qa3 _ _ (fun x hx'=>?_) ?_⟩
 · obtain⟨y,hy,rfl⟩:=wai.mp hx'
   obtain⟨i,m,ov,s,h2,h3⟩:=hx y hy;refine⟨[.ref y.2],rfl,fun K hK=>hK,fun _ K hK=>?_⟩
   walk_at "ev";rw[qkt h2];have hK:K (qaD (row y.2)) M:=hK;rw[h3]at hK;exact hK
 · show bfR "sorted" [.ls ([]++((li.map fun x=>RV.ref x.2).filter fun _=>true).map (tkG row))] M Q
   rw[waD,waY.mpr (fun _ _=>rfl),qkU]
   have e1:(li.map fun x=>RV.ref x.2).map (tkG row)=(li.map fun x=>row x.2).map qaD:=by rw[wah,wah];rfl
   rw[e1];exact qem (by rw[wab];exact hl) hk hq
theorem f_0{f:Fm}:rIx f.r (.int 0) M Q=Q (.int f.low) M:=xi_tup.trans (by rw[qvL];rfl)
theorem f_1{f:Fm}:rIx f.r (.int 1) M Q=Q (.int f.high) M:=xi_tup.trans (by rw[qyf];rfl)
def p0(f:Fm):PoolS:=⟨f.low,f.high,f.low,[],[]⟩
theorem qgI{f:Fm}{x:Addr}(hx:M x=none)(hq:∀ pl ta un bi bn ho nu M',M' x=some (qaf e f.r (.ref pl) (.int 0) (.ref bi) (.ref bn) (.ref ho) (.ref nu))->qbE e M' pl ta un (p0 f)->M' bi=some (.dt [])->M' bn=some (.dk [])->M' ho=some (.dk [])->M' nu=some (.dt [])->
 un≠ta->ho≠ta->ho≠un->bn≠ta->bn≠un->ho≠bn->nu≠bi->(∀ b o,M b=some o->b≠x->M' b=some o)->(∀ b∈[pl,ta,un,bi,bn,ho,nu],M b=none)->(∀ b,M' b=none->M b=none/\b≠x)->Q .non M'):sem (P e) (n+3) 31 [.ref x,f.r] (put M x (.ins (e.C 3) [])) Q:=by
 have k0:∀ {M:RM} {Q:RVK},rIx f.r (.int 0) M Q=Q (.int f.low) M:=f_0;have k1:∀ {M:RM} {Q:RVK},rIx f.r (.int 1) M Q=Q (.int f.high) M:=f_1;rw[us (i:=31) (d:=qa7) rfl];simp only[qa7];walk_at "ev";rw[k0,k1];intro pl hpl;refine qid hpl fun ta un hta hun n1 n2 n3=>⟨rfl,?_⟩
 have c1:=qac hpl;have c2:=qac hta;have c3:=qac hun;have d1:x≠pl:=Ne.symm c1.2;have d2:x≠ta:=Ne.symm c2.2;have d3:x≠un:=Ne.symm c3.2;rw[qaa d1,qaa d3,qaa d2];walk_at "ev";intro bi hbi;have d4:x≠bi:=Ne.symm (qac hbi).2;rw[qaa d4];walk_at "ev";intro bn hbn;have d5:x≠bn:=Ne.symm (qac hbn).2;rw[qaa d5];walk_at "ev";intro ho hho;have d6:x≠ho:=Ne.symm (qac hho).2;rw[qaa d6];walk_at "ev";intro nu hnu;have d7:x≠nu:=Ne.symm (qac hnu).2;rw[qaa d7];walk_at "ev";obtain⟨b1,_⟩:=qac hbi;obtain⟨b1,b2⟩:=qac b1;obtain⟨b1,b3⟩:=qac b1;obtain⟨b1,b4⟩:=qac b1;obtain⟨b1,_⟩:=qac b1;obtain⟨e1,_⟩:=qac hbn;obtain⟨e1,e2⟩:=qac e1;obtain⟨e1,_⟩:=qac e1;obtain⟨e1,e3⟩:=qac e1;obtain⟨e1,e4⟩:=qac e1;obtain⟨e1,e5⟩:=qac e1;obtain⟨e1,_⟩:=qac e1;obtain⟨g1,_⟩:=qac hho;obtain⟨g1,g2⟩:=qac g1;obtain⟨g1,_⟩:=qac g1;obtain⟨g1,g3⟩:=qac g1;obtain⟨g1,_⟩:=qac g1;obtain⟨g1,g4⟩:=qac g1;obtain⟨g1,g5⟩:=qac g1;obtain⟨g1,g6⟩:=qac g1;obtain⟨g1,_⟩:=qac g1;obtain⟨h1,_⟩:=qac hnu;obtain⟨h1,h2⟩:=qac h1;obtain⟨h1,_⟩:=qac h1;obtain⟨h1,h3⟩:=qac h1;obtain⟨h1,_⟩:=qac h1;obtain⟨h1,h4⟩:=qac h1;obtain⟨h1,_⟩:=qac h1;obtain⟨h1,h5⟩:=qac h1;obtain⟨h1,h6⟩:=qac h1;obtain⟨h1,h7⟩:=qac h1;obtain⟨h1,_⟩:=qac h1;clear hpl hta hun hbi hbn hho hnu;refine hq pl ta un bi bn ho nu _ qad ⟨?_,?_,?_⟩ ?_ ?_ ?_ ?_ n3 g6 g5 e5 e4 g2 h4 (fun b o hb hbx=>?_) (fun b hb=>?_) (fun b hb=>?_)
 · simp only[qaa (Ne.symm d1),qaa (Ne.symm h5),qaa (Ne.symm g4),qaa (Ne.symm e3),qaa (Ne.symm b2),qad];rfl
 · simp only[qaa (Ne.symm d2),qaa (Ne.symm h7),qaa (Ne.symm g6),qaa (Ne.symm e5),qaa (Ne.symm b4),qaa n1,qaa (Ne.symm n3),qad];rfl
 · simp only[qaa (Ne.symm d3),qaa (Ne.symm h6),qaa (Ne.symm g5),qaa (Ne.symm e4),qaa (Ne.symm b3),qaa n2,qad];rfl
 · simp only[qaa (Ne.symm d4),qaa (Ne.symm h4),qaa (Ne.symm g3),qaa (Ne.symm e2),qad]
 · simp only[qaa (Ne.symm d5),qaa (Ne.symm h3),qaa (Ne.symm g2),qad]
 · simp only[qaa (Ne.symm d6),qaa (Ne.symm h2),qad]
 · simp only[qaa (Ne.symm d7),qad]
 · have q:∀ c,M c=none->b≠c:=fun c hc=>qas hc hb
   simp only[qaa hbx,qaa (q _ h1),qaa (q _ g1),qaa (q _ e1),qaa (q _ b1),qaa (q _ c1.1),qaa (q _ c2.1),qaa (q _ c3.1)];exact hb
 · simp only[was,wa0,or_false]at hb
   rcases hb with rfl|rfl|rfl|rfl|rfl|rfl|rfl
   · exact c1.1
   · exact c2.1
   · exact c3.1
   · exact b1
   · exact e1
   · exact g1
   · exact h1
 · obtain⟨z,z1⟩:=qac hb
   refine⟨?_,z1⟩
   iterate 12 (first|exact z|obtain⟨z,_⟩:=qac z)
   exact z
theorem qie{f:Fm}{x:Addr}(ok:f.Ok)(hx:M x=none)(hq:∀ t st dn pl ta un bi bn ho nu M',M' x=some (qag e f.r (.ref t) (.ref st) (.ref dn) .non)->M' t=some (qaf e f.r (.ref pl) (.int 0) (.ref bi) (.ref bn) (.ref ho) (.ref nu))->qbE e M' pl ta un (p0 f)->M' bi=some (.dt [])->M' bn=some (.dk [])->M' ho=some (.dk [])->M' nu=some (.dt [])->
 M' dn=some (.lst [])->un≠ta->ho≠ta->ho≠un->bn≠ta->bn≠un->ho≠bn->nu≠bi->(∀ b o,M b=some o->b≠x->M' b=some o)->(∀ b∈[t,dn,pl,ta,un,bi,bn,ho,nu],M b=none)->Q .non M'):sem (P e) (n+6) 35 [.ref x,f.r] (put M x (.ins (e.C 4) [])) Q:=by
 rw[us (i:=35) (d:=qbn) rfl];simp only[qbn];walk_at "ev";refine qln ok ?_;walk_at "ev";intro t ht;have t1:=qac ht;refine qgI (n:=n+1) ht fun pl ta un bi bn ho nu M1 m1 m2 m3 m4 m5 m6 n1 n2 n3 n4 n5 n6 n7 fr new old=>⟨rfl,?_⟩
 have mx:M1 x=some (.ins (e.C 4) [("form",f.r)]):=fr x _ qad (Ne.symm t1.2);rw[mx];walk_at "ev";intro st hst;refine qgJ hst fun sd hsd hss=>⟨rfl,?_⟩
 have s1:=qac hst;have s2:=qac hsd;rw[qaa (Ne.symm s1.2),qaa (Ne.symm s2.2)];walk_at "ev";intro dn hdn;rw[qaa (Ne.symm (qac hdn).2)];walk_at "ev";obtain⟨d1,d2⟩:=qac hdn;obtain⟨d1,d3⟩:=qac d1;obtain⟨d1,d4⟩:=qac d1;obtain⟨d1,_⟩:=qac d1;clear hdn;have nx:∀ b∈[pl,ta,un,bi,bn,ho,nu],M b=none/\b≠x:=fun b hb=>qac (new b hb)
 have kp:∀ a o,M1 a=some o->a≠x->put (put (put (put (put (put M1 x (.ins (e.C 4) [("form",f.r),("table",.ref t)])) sd (.dk [])) st (qio e (.int 0) (.ref sd))) x (.ins (e.C 4) [("form",f.r),("table",.ref t),("strangers",.ref st)])) dn (.lst [])) x (qag e f.r (.ref t) (.ref st) (.ref dn) .non) a=some o:=fun a o ha hax=>by
  rw[qaa hax,qaa (qas d1 ha),qaa hax,qaa (qas s1.1 ha),qaa (qas s2.1 ha),qaa hax];exact ha
 refine hq t st dn pl ta un bi bn ho nu _ qad (kp _ _ m1 t1.2) ⟨kp _ _ m2.o (nx pl (by simp)).2,kp _ _ m2.t (nx ta (by simp)).2,kp _ _ m2.u (nx un (by simp)).2⟩ (kp _ _ m3 (nx bi (by simp)).2) (kp _ _ m4 (nx bn (by simp)).2) (kp _ _ m5 (nx ho (by simp)).2) (kp _ _ m6 (nx nu (by simp)).2)
  (by rw[qaa d2,qad]) n1 n2 n3 n4 n5 n6 n7 (fun b o hb hbx=>kp b o (fr b o (by rw[qaa hbx];exact hb) (qas t1.1 hb)) hbx) (fun b hb=>?_)
 rcases was.mp hb with rfl|hb
 · exact t1.1
 rcases was.mp hb with rfl|hb
 · exact(qac (old _ d1).1).1
 exact(nx b hb).1
end
section
variable {e:Env}{n:Nat}{M:RM}{Q:RVK}
theorem qiM{i:Int}:sem (P e) (n+1) 20 [.int i] M Q=Q (.bl true) M:=by
 rw[us (i:=20) (d:=qbu) rfl];simp only[qbu];walk_at "ev"
theorem qkv{xs:List Int}{k:Nat}:sem (P e) (n+1) 39 [.ls (xs.map RV.int),.int k] M Q=Q (.int (xs.getD k 0)) M:=by
 rw[us (i:=39) (d:=qbO) rfl];simp only[qbO];walk_at "ev";rw[wab]
 by_cases h:k<xs.length
 · rw[if_pos (by simpa using h),qb1 (v:=RV.int (xs.getD k 0)) (by simp[h])]
   rfl
 · rw[if_neg (by simpa using h)]
   simp[Nat.le_of_not_lt h]
structure Bag where
 a:Int
 b:Int
 c:Int
def Bag.l(g:Bag):RO:=.lst [.int g.a,.int g.b,.int g.c]
structure Bag.Ok(g:Bag):Prop where
 a:0<=g.a
 b:0<=g.b/\g.b<2305843009213693951
 c:0<=g.c/\g.c<1000000
theorem qjX{x:Addr}{g:Bag}{m:Int}(hx:M x=some g.l)(ha:0<g.a)(hm:0<m)(hm2:m<1073741824)(hq:Q (.int (g.a % m)) (put M x (Bag.l ⟨g.a / m,g.b,g.c⟩))):sem (P e) (n+1) 41 [.ref x,.int m] M Q:=by
 unfold Bag.l at hx;rw[us (i:=41) (d:=qa1) rfl];simp only[qa1];walk_at "evs";exact hq
def que:Int:=2305843009213693951
def qxT(b c:Int):Int:=((((b+1000003*c) % que)*((b+1000003*c) % que)+7919*c ^ 2+5) % que) ^ 3 % que / 13
theorem qlR{i j:Int}(h1:-(2 ^ 64)<i)(h2:i<2 ^ 64):CMul i j:=.inl ⟨h1,h2⟩
theorem qgF{x:Addr}{g:Bag}{m:Int}(hx:M x=some g.l)(ok:g.Ok)(ha:¬0<g.a)(hm:0<m)(hq:Q (.int (qxT g.b (g.c+1) % m)) (put M x (Bag.l ⟨g.a,g.b,g.c+1⟩))):sem (P e) (n+1) 41 [.ref x,.int m] M Q:=by
 obtain⟨_,⟨b1,b2⟩,c1,c2⟩:=ok;unfold Bag.l at hx;rw[us (i:=41) (d:=qa1) rfl];simp only[qa1];walk_at "evs";have e1:=Int.emod_nonneg (g.b+1000003*(g.c+1)) (b:=2305843009213693951) (by decide)
 have e2:=Int.emod_lt_of_pos (g.b+1000003*(g.c+1)) (b:=2305843009213693951) (by decide)
 have e3:∀ z:Int,(z % 2305843009213693951).natAbs<2 ^ 64:=fun z=>by
  have h1:=Int.emod_nonneg z (b:=2305843009213693951) (by decide)
  have h2:=Int.emod_lt_of_pos z (b:=2305843009213693951) (by decide)
  omega
 exact⟨qlR (by decide) (by decide),qlR (by omega) (by omega),by omega,qlR (by decide) (by decide),e3 _,hq⟩
def qjE(cell turn:Int):Bag:=⟨if 10 ^ 18<=cell then cell-10 ^ 18 else 0,cell % que,turn⟩
theorem qw3:(10:Int) ^ Int.toNat 18=10 ^ 18:=rfl
theorem qlk{c t:Int}(hq:∀ p,M p=none->Q (.ref p) (put M p (qjE c t).l)):sem (P e) (n+1) 40 [.int c,.int t] M Q:=by
 rw[us (i:=40) (d:=qbN) rfl];simp only[qbN];walk_at "ev";refine⟨by decide,?_⟩
 rw[qw3];unfold qjE Bag.l at hq
 by_cases h:(10:Int) ^ 18<=c
 · rw[if_pos (by simpa using h)]
   simp only[if_pos h]at hq;exact⟨by decide,hq⟩
 · rw[if_neg (by simpa using h)]
   simp only[if_neg h]at hq;exact hq
end
section
variable {e:Env}{n:Nat}{M:RM}{Q:RVK}
structure Bag.In(g:Bag)(k:Int):Prop where
 a:0<=g.a
 b:0<=g.b/\g.b<2305843009213693951
 c:0<=g.c/\g.c<=k
theorem qeB{a m:Int}(hm:0<m):0<=a % m/\a % m<m:=⟨Int.emod_nonneg _ (by omega),Int.emod_lt_of_pos _ hm⟩
theorem qaV{x:Addr}{g:Bag}{m k:Int}(hx:M x=some g.l)(ok:g.In k)(hk:k<999999)(hm:0<m)(hm2:m<1073741824)(hq:∀ v g',0<=v->v<m->Bag.In g' (k+1)->Q (.int v) (put M x g'.l)):sem (P e) (n+1) 41 [.ref x,.int m] M Q:=by
 obtain⟨o1,o2,o3,o4⟩:=ok
 by_cases h:0<g.a
 · exact qjX hx h hm hm2 (hq _ _ (qeB hm).1 (qeB hm).2 ⟨Int.ediv_nonneg o1 (by omega),o2,o3,by show g.c<=k+1;omega⟩)
 · exact qgF hx ⟨o1,o2,o3,by omega⟩ h hm (hq _ _ (qeB hm).1 (qeB hm).2 ⟨o1,o2,by show 0<=g.c+1;omega,by show g.c+1<=k+1;omega⟩)
theorem qrj{xs:List RV}{v:Int}(h0:0<=v)(h1:v<xs.length):∃ y∈xs,∀ {M:RM} {Q:RVK},rIx (.ls xs) (.int v) M Q=Q y M:=by
 obtain⟨j,rfl⟩:∃ j:Nat,v=j:=⟨v.toNat,by omega⟩
 have hj:j<xs.length:=by omega
 refine⟨xs[j],List.getElem_mem _,fun {M Q}=>?_⟩
 rw[qsm,qb1 (v:=xs[j]) (by simp[hj])];rfl
theorem qs5{x:Addr}{g:Bag}{k:Int}{le si:Str}(hx:M x=some g.l)(ok:g.In k)(hk:k<900000)(hle:le= "door"∨le= "place"∨le= "talk")(hsi:si= "all"∨si= "place"∨si= "talk")
 (hq:∀ f g',Fm.Ok f->f.high=f.low+199->f.most=200->Bag.In g' (k+7)->Q f.r (put M x g'.l)):sem (P e) (n+2) 54 [.ref x,.str le,.str si] M Q:=by
 rw[us (i:=54) (d:=qbM) rfl];simp only[qbM];walk_at "ev";refine qaV hx ok (by omega) (by decide) (by decide) fun v1 g1 a1 b1 ok1=>?_
 walk_at "ev";refine qaV qad ok1 (by omega) (by decide) (by decide) fun v2 g2 a2 b2 ok2=>?_
 walk_at "ev";refine qaV qad ok2 (by omega) (by decide) (by decide) fun v3 g3 a3 b3 ok3=>?_
 walk_at "ev";refine qaV qad ok3 (by omega) (by decide) (by decide) fun v4 g4 a4 b4 ok4=>?_
 walk_at "ev";refine qaV qad ok4 (by omega) (by decide) (by decide) fun v5 g5 a5 b5 ok5=>?_
 walk_at "ev";refine qaV qad ok5 (by omega) (by decide) (by decide) fun v6 g6 a6 b6 ok6=>?_
 obtain⟨y,hy,ey⟩:=qrj (xs:=[.str "next",.str "keep"]) a6 b6;rw[ey];obtain⟨pk,rfl,hpk⟩:∃ pk:Str,y= .str pk/\(pk= "next"∨pk= "keep"):=by
  simp only[was,wa0,or_false]at hy;rcases hy with rfl|rfl
  · exact⟨_,rfl,.inl rfl⟩
  · exact⟨_,rfl,.inr rfl⟩
 walk_at "ev";refine qaV qad ok6 (by omega) (by decide) (by decide) fun v7 g7 a7 b7 ok7=>?_
 walk_at "ev";have:=hq ⟨1+v1,1+v1+199,le,si,pk,200,v7==1,1+v2,1+v3,1+v4,v5⟩ g7 ⟨by dsimp only;omega,by dsimp only;omega,by dsimp only;omega,by dsimp only;omega,hle,hsi,hpk,⟨by show(1:Int)<=200;decide,by show(200:Int)<=200;decide⟩,by dsimp only;omega,by dsimp only;omega,by dsimp only;omega,by dsimp only;omega⟩ rfl rfl (by have:=ok7;rw[show k+7=k+1+1+1+1+1+1+1 by omega];exact this)
 exact this
theorem qt5{a:Int}:0<=a % 2305843009213693951/\a % 2305843009213693951<2305843009213693951:=qeB (by decide)
theorem qhH{c:Int}:(qjE c 0).In 0:=⟨by unfold qjE;dsimp only;split<;>omega,qt5,⟨Int.le_refl _,Int.le_refl _⟩⟩
theorem qnP{xs:List Int}{k:Int}(h0:0<=k)(hk:k<1000)(hx:0<xs.length)(hl:xs.length<1000)(hq:∀ p g,M p=none->Bag.In g 0->Q (.ref p) (put M p g.l)):sem (P e) (n+2) 42 [.ls (xs.map RV.int),.int k] M Q:=by
 obtain⟨j,rfl⟩:∃ j:Nat,k=j:=⟨k.toNat,by omega⟩
 rw[us (i:=42) (d:=qbg) rfl];simp only[qbg];walk_at "ev";rw[wab]
 by_cases h:j<xs.length
 · rw[if_pos (by simpa using h),qb1 (v:=RV.int (xs.getD j 0)) (by simp[h])]
   walk_at "ev";exact qlk fun p hp=>hq p _ hp qhH
 · rw[if_neg (by simpa using h)]
   refine⟨by omega,?_⟩
   have h2:j % xs.length<xs.length:=Nat.mod_lt _ hx;rw[show((j:Int) % (xs.length:Int))=((j % xs.length:Nat):Int)from by simp,qb1 (v:=RV.int (xs.getD (j % xs.length) 0)) (by simp[h2])]
   walk_at "ev";refine⟨by decide,by decide,qlk fun p hp=>?_⟩
   unfold Bag.l;walk_at "ev";refine⟨qlR (by decide) (by decide),.inl ⟨by omega,by omega⟩,qlR (by decide) (by decide),?_⟩
   generalize hw:qjE _ 0=wb;have w:wb.In 0:=hw ▸ qhH;exact hq p ⟨wb.a,_ % _,wb.c⟩ hp ⟨w.a,qt5,w.c⟩
theorem f_2{f:Fm}:rIx f.r (.int 2) M Q=Q (.str f.lend) M:=xi_tup.trans (by rw[qye];rfl)
noncomputable def kDi (l:List (Str×Int))(p:Addr)(Q:RVK):RVK:=fun k M1=>M1 p=some (.dk (kvI l))/\(match qfc k with
 |some key=>(match qa0 (kvI l) key with|some v=>Q v (drop M1 p)|none=>False)
 |none=>False)
theorem qCc{Γ:G}{l:List (Str×Int)}{a:T}{σ:RSt}:(tr Γ (.di l a)).E σ M Q= ∀ p,M p=none->(tr Γ a).E σ (put M p (.dk (kvI l))) (kDi l p Q):=rfl
theorem qrh{l:List (Str×Int)}{p:Addr}{s:Str}:kDi l p Q (.str s) M=(M p=some (.dk (kvI l))/\wO (qa0 (kvI l) (.inr s)) fun v=>Q v (drop M p)):=by
 show(_/\(match qa0 (kvI l) (.inr s)with|some v=>Q v (drop M p)|none=>False))=_
 cases qa0 (kvI l) (.inr s)<;>rfl
theorem qrJ:qa0 (kvI [("door",3),("place",4),("talk",5)]) (.inr "door")=some (.int 3):=by rfl
theorem qoF:qa0 (kvI [("door",3),("place",4),("talk",5)]) (.inr "place")=some (.int 4):=by rfl
theorem qrI:qa0 (kvI [("door",3),("place",4),("talk",5)]) (.inr "talk")=some (.int 5):=by rfl
theorem qt1{x:Addr}{k:Int}{xs:List RV}(h:M x=some (.lst xs))(h1:-(2 ^ 63)<=k)(h2:k<2 ^ 63)(h3:xs.length*k.toNat<=sizeLine)(hq:Q (.ls (List.replicate k.toNat xs).flatten) M):opR .Mult (.ref x) (.int k) M Q:=⟨xs,h,h1,h2,h3,hq⟩
theorem qu6{xs:List RV}:btR "tuple" [.ls xs] M Q=Q (.tup xs) M:=rfl
theorem qlm{f:Fm}{i:Inn}(ok:f.Ok)(hq:∀ p,M p=none->Q (qaD (qax f i)) (put M p (.lst [.non]))):sem (P e) (n+1) 43 [f.r,i.r] M Q:=by
 have k2:∀ {M:RM} {Q:RVK},rIx f.r (.int 2) M Q=Q (.str f.lend) M:=f_2;have e0:i.r= .tup [.str i.kind,.int i.house,.int i.door,.int i.place,.int i.far]:=rfl;rw[us (i:=43) (d:=qaQ) rfl];simp only[qaQ];walk_at "ev";rw[qCc];intro p hp;walk_at "ev";rw[k2,qrh];refine⟨qad,?_⟩;rw[qoA hp,e0];have fin:∀ {j:Int},0<=j->j<=5->qhv [.str i.kind,.int i.house,.int i.door,.int i.place,.int i.far] none (some j)++(List.replicate (5-j).toNat [RV.non]).flatten=(qax f i).map oR->
  ∀ (p:Addr),M p=none->opR Operator.Mult (RV.ref p) (.int (5-j)) (put M p (RO.lst [RV.non])) fun x_1 M1=>btR "tuple" [x_1] M1 fun y M2=>opR Operator.Add (.tup (qhv [.str i.kind,.int i.house,.int i.door,.int i.place,.int i.far] none (some j))) y M2 Q:=fun {j} h3 h4 h5 p hp=>by
  refine qt1 qad (by omega) (by omega) (wal (show 1*(5-j).toNat<=5 by omega) (by decide)) ?_
  rw[qu6,qgR,h5];refine⟨?_,hq p hp⟩;rw[<-wao,h5];unfold qax;split
  · show 5<=sizeLine;decide
  · split
    · show 5<=sizeLine;decide
    · show 5<=sizeLine;decide
 rcases ok.lend with h|h|h
 · rw[h,qrJ];walk_at "ev"
   refine fin (by decide) (by decide) ?_
   unfold qax;rw[if_pos h];rfl
 · rw[h,qoF];walk_at "ev"
   refine fin (by decide) (by decide) ?_
   unfold qax;rw[h];rfl
 · rw[h,qrI];walk_at "ev"
   refine fin (by decide) (by decide) ?_
   unfold qax;rw[h];rfl
structure Lt(xs:List RV)(lo hi:Int):Prop where
 len:xs.length=3
 mem:∀ x∈xs,∃ i:Int,x= .int i/\lo<=i/\i<=hi
theorem Lt.at{xs:List RV}{lo hi v:Int}(h:Lt xs lo hi)(h0:0<=v)(h1:v<3):∃ i:Int,(lo<=i/\i<=hi)/\∀ {M:RM} {Q:RVK},rIx (.ls xs) (.int v) M Q=Q (.int i) M:=by
 obtain⟨y,hy,ey⟩:=qrj (xs:=xs) h0 (by rw[h.len];exact h1)
 obtain⟨i,rfl,hi⟩:=h.mem y hy;exact⟨i,hi,ey⟩
theorem qj0{x:Addr}{g:Bag}{k:Int}{hs ds ps fs:List RV}(hx:M x=some g.l)(ok:g.In k)(hk:k<900000)(o1:Lt hs 0 99)(o2:Lt ds 1 9999)(o3:Lt ps 1 1000000)(o4:Lt fs 1 9999)
 (hq:∀ (i:Inn) g',i.Ok->Q i.r (put M x (Bag.l g'))):sem (P e) (n+2) 44 [.ref x,.tup [.ls hs,.ls ds,.ls ps,.ls fs]] M Q:=by
 rw[us (i:=44) (d:=qaY) rfl];simp only[qaY];refine⟨rfl,?_⟩;simp only[qqh,qqf,qqg];rw[qcn,qAj,t_v,List.getElem?_cons_succ,List.getElem?_cons_zero,qdR,ql9];refine⟨rfl,?_⟩;simp only[qdY,List.set_cons_zero,List.set_cons_succ];rw[qcn,qqa,qvx];generalize hK:(tr ((P e).Gn (n+1)) (.se (.set 3 _) _)).S=K1;walk_at "ev";refine qaV hx ok (by omega) (by decide) (by decide) fun v1 g1 a1 b1 ok1=>?_
 obtain⟨i1,p1,e1⟩:=o1.at a1 b1;rw[e1,<-hK,qcn,qqa,qvx];generalize hK2:(tr ((P e).Gn (n+1)) (.se (.re _) _)).S=K2;dsimp only[List.set_cons_zero,List.set_cons_succ];walk_at "ev";refine qaV qad ok1 (by omega) (by decide) (by decide) fun v2 g2 a2 b2 ok2=>?_
 obtain⟨i2,p2,e2⟩:=o2.at a2 b2;rw[e2,<-hK2];walk_at "ev";refine qaV qad ok2 (by omega) (by decide) (by decide) fun v3 g3 a3 b3 ok3=>?_
 obtain⟨i3,p3,e3⟩:=o3.at a3 b3;rw[e3];refine qaV qad ok3 (by omega) (by decide) (by decide) fun v4 g4 a4 b4 ok4=>?_
 obtain⟨i4,p4,e4⟩:=o4.at a4 b4;rw[e4];simp only[qav];exact hq ⟨"note",i1,i2,i3,i4⟩ g4 ⟨rfl,p1,p2,p3,p4⟩
def qal(f:Fm)(mark:Int)(ns:List (TK×Int)):PoolS:=⟨f.low,f.high,mark,ns.map fun x=>(x.2,()),[]⟩
theorem qjp{κ β:Type}[DecidableEq κ]{k:κ}:∀ {l:List (κ×β)},(lk l k).isSome=decide (k∈l.map (·.1))
 | []=>by simp[lk]
 |(j,y)::l=>by
  rw[qaX]
  by_cases h:j=k
  · rw[if_pos h];simp[h]
  · rw[if_neg h,qjp (l:=l)]
    simp[Ne.symm h]
theorem qc7{f:Fm}{mark i m:Int}{ns:List (TK×Int)}:(qal f mark ns).free i m=(decide (f.low<=i)&&decide (i<=f.high)&& !decide (i∈ns.map (·.2))):=by
 unfold PoolS.free PoolS.has qal;dsimp only;rw[qjp,wah];simp[lk,Function.comp_def]
end
section
variable {e:Env}{n:Nat}{M:RM}{Q:RVK}
def qcs(f:Fm)(v:Int):Int:=if v<f.high then v+1 else f.low
theorem qiq{p:PoolS}{i:Nat}(h:i<p.line.length)(h1:p.low<=p.mark)(h2:p.mark<=p.high):p.line.getD i 0=if(i:Int)<p.high+1-p.mark then p.mark+i else p.low+(i-(p.high+1-p.mark)):=by
 unfold PoolS.line at h ⊢;rw[List.getD_eq_getElem?_getD];simp only[wao,wab,wba]at h
 by_cases z:i<(p.high+1-p.mark).toNat
 · rw[List.getElem?_append_left (by simpa using z),if_pos (by omega)]
   simp[z]
 · rw[List.getElem?_append_right (by simpa using z),if_neg (by omega)]
   simp only[wab,wba];rw[List.getElem?_map,List.getElem?_range (by omega)]
   simp;omega
theorem ql0{f:Fm}{mark:Int}{ns:List (TK×Int)}{i:Nat}(h1:f.low<=mark)(h2:mark<=f.high)(h:i+1<(qal f mark ns).line.length):(qal f mark ns).line.getD (i+1) 0=qcs f ((qal f mark ns).line.getD i 0):=by
 rw[qiq h h1 h2,qiq (by omega) h1 h2]
 have hl:(qal f mark ns).line.length=(f.high+1-mark).toNat+(mark-f.low).toNat:=by unfold PoolS.line qal;simp
 unfold qcs qal;dsimp only;split<;>split<;>split<;>omega
theorem qq4{f:Fm}{mark v:Int}{ns:List (TK×Int)}(h1:f.low<=mark)(h2:mark<=f.high)(h:v∈(qal f mark ns).line):f.low<=v/\v<=f.high:=by
 unfold PoolS.line qal at h;simp only[wax,wai,wa1]at h;rcases h with⟨i,hi,rfl⟩|⟨i,hi,rfl⟩<;>omega
structure Way(f:Fm)(ns:List (TK×Int))(v m:Int)(t:Nat):Prop where
 ex:∃ w:Nat->Int,w 0=v/\w t=m/\(∀ i<t,w (i+1)=qcs f (w i))/\(∀ i<t,w i∈ns.map (·.2))/\m∉ns.map (·.2)
theorem qsp{f:Fm}{mark d m:Int}{ns:List (TK×Int)}(h1:f.low<=mark)(h2:mark<=f.high)(hp:(qal f mark ns).pick (f.pick== "keep") d 0=some m):
 ∃ t,Way f ns (if(f.pick== "keep")=true/\f.low<=d/\d<=f.high/\d∉ns.map (·.2)then d else mark) m t:=by
 unfold PoolS.pick at hp
 by_cases z:((f.pick== "keep")&&(qal f mark ns).free d 0)=true
 · rw[if_pos z]at hp
   cases hp;rw[waa,qc7]at z;simp only[waa,decide_eq_true_eq,Bool.not_eq_true',decide_eq_false_iff_not]at z;rw[if_pos ⟨z.1,z.2.1.1,z.2.1.2,z.2.2⟩];exact⟨0,fun _=>d,rfl,rfl,fun i hi=>absurd hi (by omega),fun i hi=>absurd hi (by omega),z.2.2⟩
 · rw[if_neg z]at hp
   rw[if_neg (by
    intro y;apply z;rw[waa,qc7];simp only[waa,decide_eq_true_eq,Bool.not_eq_true',decide_eq_false_iff_not];exact⟨y.1,⟨y.2.1,y.2.2.1⟩,y.2.2.2⟩)]
   rw[List.find?_eq_some_iff_getElem]at hp;obtain⟨hf,j,hj,hm,hb⟩:=hp;have ne:∀ i,i<(qal f mark ns).line.length->(qal f mark ns).line.getD i 0∈(qal f mark ns).line:=fun i hi=>by
    rw[List.getD_eq_getElem?_getD,List.getElem?_eq_getElem hi];exact List.getElem_mem hi
   refine⟨j,fun i=>(qal f mark ns).line.getD i 0,?_,?_,fun i hi=>ql0 h1 h2 (by omega),fun i hi=>?_,?_⟩
   · show(qal f mark ns).line.getD 0 0=mark
     rw[qiq (by omega) h1 h2,if_pos (by unfold qal;dsimp only;omega)]
     unfold qal;simp
   · show(qal f mark ns).line.getD j 0=m
     rw[List.getD_eq_getElem?_getD,List.getElem?_eq_getElem hj];exact hm
   · have hi':=waA hi hj
     have h3:=hb i hi;have h4:=qq4 h1 h2 (ne i hi');show(qal f mark ns).line.getD i 0∈ns.map (·.2)
     rw[List.getD_eq_getElem?_getD,List.getElem?_eq_getElem hi']at h4 ⊢;rw[qc7]at h3;simp only[Option.getD_some]at h4 ⊢;simpa[h4.1,h4.2]using h3
   · rw[qc7]at hf
     simp only[waa,decide_eq_true_eq,Bool.not_eq_true',decide_eq_false_iff_not]at hf;exact hf.2
theorem qCG{Γ:G}{t b:T}{D:RD}{σ:RSt}:(tr Γ (.wh t b)).S D σ M=qlq (tr Γ t).T (tr Γ b).S D σ M:=rfl
theorem f_4{f:Fm}:rIx f.r (.int 4) M Q=Q (.str f.pick) M:=xi_tup.trans (by rw[qyd];rfl)
theorem in_nums{v:Int}{l:List Int}:R.inR (.int v) (l.map RV.int)=decide (v∈l):=by
 unfold R.inR;rw[List.any_map]
 induction l with
 |nil=>rfl
 |cons x l ih=>
  rw[waN,ih];show(x==v||decide (v∈l))=decide (v∈x::l)
  by_cases z:x=v
  · simp[z]
  · have z':¬v=x:=fun q=>z q.symm
    simp[z,z']
theorem qjC{l:List Int}:(l.map RV.int).all (okR 15)=true:=by simp[okR]
theorem qx8{v:Int}{l:List Int}:cmR .In (.int v) (.ls (l.map RV.int)) M Q=Q (.bl (decide (v∈l))) M:=by
 show(okR 15 (.int v)=true/\(l.map RV.int).all (okR 15)=true/\Q (.bl (if false=true then _ else R.inR _ _)) M)=_
 rw[qjC,in_nums];simp[okR]
theorem qu3{v:Int}{l:List Int}:cmR .NotIn (.int v) (.ls (l.map RV.int)) M Q=Q (.bl (!decide (v∈l))) M:=by
 show(okR 15 (.int v)=true/\(l.map RV.int).all (okR 15)=true/\Q (.bl (if true=true then !R.inR _ _ else _)) M)=_
 rw[qjC,in_nums];simp[okR]
theorem qrz{kvs:List (TK×RV)}{s:TK}{y:RV}(h:qco y=some s):gO Q y M (some (.ft kvs))=wO (lk kvs s) fun v=>Q v M:=by
 show(match(qco y).map (lk kvs)with|some (some v)=>Q v M|_=>False)=_
 rw[h];show(match some (lk kvs s)with|some (some v)=>Q v M|_=>False)=_
 cases lk kvs s<;>rfl
theorem qeX{κ β:Type}[DecidableEq κ]:∀ {l:List (κ×β)} {x:κ×β},(l.map (·.1)).Nodup->x∈l->lk l x.1=some x.2
 |(j,y)::l,x,nd,hx=>by
  rw[qaX];rw[wad,waC]at nd;rcases was.mp hx with rfl|hx
  · rw[if_pos rfl]
  · have nd1:j∉l.map (·.1):=nd.1
    rw[if_neg (fun(z:j=x.1)=>nd1 (by rw[z];exact List.mem_map_of_mem (f:=(·.1)) hx)),qeX nd.2 hx]
def qpV(ns:List (TK×Int)):RV->RV:=fun y=>match qco y with
 |some k=>(lk (eN ns) k).getD .non
 |none=>.non
theorem qns{ns:List (TK×Int)}(nd:(ns.map (·.1)).Nodup):(qjO true (eN ns)).map (qpV ns)=(ns.map (·.2)).map RV.int:=by
 show((eN ns).map fun kv=>RV.tup (kv.1.map oR)).map (qpV ns)=_
 unfold eN enc;rw[wah,wah,wah];refine waE fun x hx=>?_
 show qpV ns (qaD x.1)= .int x.2;unfold qpV;rw[qar];show(lk (eN ns) x.1).getD .non=_;rw[qfM,qeX nd hx];rfl
theorem qgH{nu:Addr}{f:Fm}{ns:List (TK×Int)}{mark d m:Int}(h1:f.low<=mark)(h2:mark<=f.high)(hM:M nu=some (.dt (eN ns)))(nd:(ns.map (·.1)).Nodup)(hl:ns.length<1000)(hp:(qal f mark ns).pick (f.pick== "keep") d 0=some m)
 (hq:Q (.tup [.int m,.int (qcs f m)]) M):sem (P e) (n+1) 58 [f.r,.ref nu,.int mark,.int d] M Q:=by
 have k0:∀ {M:RM} {Q:RVK},rIx f.r (.int 0) M Q=Q (.int f.low) M:=f_0;have k1:∀ {M:RM} {Q:RVK},rIx f.r (.int 1) M Q=Q (.int f.high) M:=f_1;have k4:∀ {M:RM} {Q:RVK},rIx f.r (.int 4) M Q=Q (.str f.pick) M:=f_4;obtain⟨t,w,w0,wt,ws,wi,wn⟩:=qsp h1 h2 hp;rw[us (i:=58) (d:=qaM) rfl];simp only[qaM];refine⟨rfl,?_⟩;simp only[qqh,qqf,qqg];rw[qcn,qse,qsc,qxD,t_v,List.getElem?_cons_succ,List.getElem?_cons_zero,qdR];unfold qpv;simp only[hM];refine⟨by unfold qjO eN;simp only[if_true,wab,qa2];exact waA hl (by decide),qbq (bd:=qhF false 1) (fun _=>true) (qpV ns) qad _ _ (fun x hx=>?_) ?_⟩
 · obtain⟨y0,hy0,rfl⟩:=wai.mp hx
   obtain⟨y,hy,rfl⟩:=wai.mp hy0;refine⟨_,rfl,fun K hK=>hK,fun _ K hK=>?_⟩
   walk_at "ev";rw[qrz (show qco (RV.tup (List.map oR (id y.1)))=some y.1 from qar y.1),qfM,qeX nd hy]
   have hK:K (qpV ns (qaD y.1)) _:=hK;unfold qpV at hK;rw[qar]at hK;have hK:K ((lk (eN ns) y.1).getD .non) _:=hK;rw[qfM,qeX nd hy]at hK;exact hK
 · rw[waD,waY.mpr (fun _ _=>rfl),qns nd,qav,qbe hM,qju]
   dsimp only[List.set_cons_zero,List.set_cons_succ];generalize hL:ns.map (·.2)=L at*
   generalize hT:T.se (.wh _ _) _=TL;have tail:(tr ((P e).Gn n) TL).S (rd Q) [some f.r,some (.ref nu),some (.int mark),some (.int d),some (.ls (L.map RV.int)),some (.int (w 0))] M:=by
    rw[<-hT,qcn,qCG];refine⟨fun j σ M'=>M'=M/\j<=t/\σ= [some f.r,some (.ref nu),some (.int mark),some (.int d),some (.ls (L.map RV.int)),some (.int (w (t-j)))],⟨t,rfl,wac _,by rw[Nat.sub_self]⟩,?_⟩
    intro j σ M' hj;obtain⟨hj1,hj2,hj3⟩:=hj;rw[hj1,hj3];walk_at "ev";rw[qx8,qhf];cases j with
    |zero=>
     rw[Nat.sub_zero,wt,if_neg (by simpa using wn)]
     simp only[↓k1,↓k0,↓qx5,↓qhf];unfold qcs at hq
     by_cases z:m<f.high
     · rw[if_pos (by simpa using z)];rw[if_pos z]at hq;exact hq
     · rw[if_neg (by simpa using z)];rw[if_neg z]at hq;exact hq
    |succ j=>
     have a1:=wi (t-(j+1)) (by omega)
     have a2:=ws (t-(j+1)) (by omega)
     rw[show t-(j+1)+1=t-j by omega]at a2
     rw[if_pos (by simpa using a1)]
     simp only[↓k1,↓k0,↓qx5,↓qhf];unfold qcs at a2
     by_cases z:w (t-(j+1))<f.high
     · rw[if_pos (by simpa using z)];rw[if_pos z]at a2;exact⟨j,by omega,trivial,by omega,by rw[a2]⟩
     · rw[if_neg (by simpa using z)];rw[if_neg z]at a2;exact⟨j,by omega,trivial,by omega,by rw[a2]⟩
   walk_at "ev";rw[k4];walk_at "ev";simp only[↓k0,↓k1,↓qAU,↓qhf,↓qpw,↓qvx,↓t_v,↓t_i,List.getElem?_cons_zero,↓qdR,↓qu3]
   by_cases z1:(f.pick== "keep")=true
   · by_cases z2:f.low<=d
     · by_cases z3:d<=f.high
       · by_cases z4:d∈L
         · rw[if_neg (fun z=>z.2.2.2 z4)]at w0
           rw[w0]at tail;simpa[z1,z2,z3,z4]using tail
         · rw[if_pos ⟨z1,z2,z3,z4⟩]at w0
           rw[w0]at tail;simpa[z1,z2,z3,z4]using tail
       · rw[if_neg (fun z=>z3 z.2.2.1)]at w0
         rw[w0]at tail;simpa[z1,z2,z3]using tail
     · rw[if_neg (fun z=>z2 z.2.1)]at w0
       rw[w0]at tail;simpa[z1,z2]using tail
   · rw[if_neg (fun z=>z1 z.1)]at w0
     rw[w0]at tail;simpa[z1]using tail
end
section
theorem qrC{S:List Int}{x:Int}(nd:S.Nodup)(hx:x∈S):(S.filter (fun y=>!decide (y=x))).length+1=S.length:=by
 have e1:S.filter (fun y=>!decide (y=x))=S.erase x:=by
  rw[nd.erase_eq_filter];congr 1
 rw[e1,List.length_erase_of_mem hx];have:=List.length_pos_of_mem hx;omega
theorem qhm{R:List Int}(nd:R.Nodup):∀ {l:List Int},l.Nodup->(∀ x∈l,x∈R)->(R.filter fun y=>!decide (y∈l)).length+l.length=R.length
 | [],_,_=>by simp
 |x::l,nl,hs=>by
  rw[waC]at nl;have ih:=qhm nd nl.2 fun y hy=>hs y (.tail _ hy)
  have e1:R.filter (fun y=>!decide (y∈x::l))=(R.filter fun y=>!decide (y∈l)).filter fun y=>!decide (y=x):=by
   rw[List.filter_filter];congr 1;funext y
   by_cases z:y=x<;>by_cases z2:y∈l<;>simp[z,z2]
  have e2:=qrC (nd.filter _:(R.filter fun y=>!decide (y∈l)).Nodup) (x:=x) (List.mem_filter.mpr ⟨hs x (.head _),by simpa using nl.1⟩)
  rw[e1,waf];omega
def qnI(lo hi:Int):List Int:=(List.range (hi+1-lo).toNat).map fun(i:Nat)=>lo+(i:Int)
theorem qld{lo hi:Int}:(qnI lo hi).Nodup:=by
 unfold qnI;refine List.Pairwise.map _ (fun a b h=>?_) List.nodup_range
 show lo+(a:Int)≠lo+(b:Int);omega
theorem rng_mem{lo hi x:Int}:x∈qnI lo hi↔lo<=x/\x<=hi:=by
 unfold qnI;simp only[wai,wa1]
 constructor
 · rintro ⟨i,hi,rfl⟩;omega
 · intro h;exact⟨(x-lo).toNat,by omega,by omega⟩
theorem qqi{lo hi:Int}:(qnI lo hi).length=(hi+1-lo).toNat:=by simp[qnI]
theorem qlX{f:Fm}{mark m:Int}{ns:List (TK×Int)}(nd:(ns.map (·.2)).Nodup)(hr:∀ x∈ns,f.low<=x.2/\x.2<=f.high):(qal f mark ns).many m+ns.length=(f.high+1-f.low).toNat:=by
 have:=qhm (R:=qnI f.low f.high) qld nd (fun x hx=>by
  obtain⟨y,hy,rfl⟩:=wai.mp hx;exact rng_mem.mpr (hr y hy))
 rw[qqi,wab]at this;rw[<-this];show(List.filter _ (qnI f.low f.high)).length+_=_;rw[List.filter_congr fun x hx=>?_]
 rw[qc7];have:=rng_mem.mp hx;simp[this.1,this.2]
theorem qgN{f:Fm}{mark d:Int}{k:Bool}{ns:List (TK×Int)}(h1:f.low<=mark)(h2:mark<=f.high)(nd:(ns.map (·.2)).Nodup)(hr:∀ x∈ns,f.low<=x.2/\x.2<=f.high)(hl:(ns.length:Int)<f.high+1-f.low):∃ m,(qal f mark ns).pick k d 0=some m/\f.low<=m/\m<=f.high/\m∉ns.map (·.2):=by
 have fr:∀ m,(qal f mark ns).free m 0=true->f.low<=m/\m<=f.high/\m∉ns.map (·.2):=fun m h=>by
  rw[qc7]at h;simp only[waa,decide_eq_true_eq,Bool.not_eq_true',decide_eq_false_iff_not]at h;exact⟨h.1.1,h.1.2,h.2⟩
 unfold PoolS.pick
 by_cases z:(k&&(qal f mark ns).free d 0)=true
 · rw[if_pos z]
   exact⟨d,rfl,fr d (waa _ _ ▸ z).2⟩
 · rw[if_neg z]
   cases e:(qal f mark ns).line.find? (fun i=>(qal f mark ns).free i 0)with
   |some m=>exact⟨m,rfl,fr m (List.find?_some (p:=fun i=>(qal f mark ns).free i 0) e)⟩
   |none=>
    exfalso
    have hm:=qlX (mark:=mark) (m:=0) nd hr;have:(qal f mark ns).many 0=0:=by
     unfold PoolS.many;rw[List.length_eq_zero_iff,List.filter_eq_nil_iff];intro x hx;have hx:x∈qnI f.low f.high:=hx;rw[rng_mem]at hx;rw[List.find?_eq_none]at e;refine e x ?_;unfold PoolS.line qal;simp only[wax,wai,wa1]
     by_cases z2:mark<=x
     · exact .inl ⟨(x-mark).toNat,by omega,by omega⟩
     · exact .inr ⟨(x-f.low).toNat,by omega,by omega⟩
    omega
end
section
variable {e:Env}{n:Nat}{M:RM}{Q:RVK}
structure GA where
 g:Addr
 t:Addr
 st:Addr
 dn:Addr
 pl:Addr
 ta:Addr
 un:Addr
 bi:Addr
 bn:Addr
 ho:Addr
 nu:Addr
 nL:Addr
 eL:Addr
structure Tk where
 i:Inn
 a:Addr
 m:Int
def swp(ns:List (TK×Int)):List (Int×TK):=ns.map fun x=>(x.2,x.1)
def tlA(tl:List Tk):List (TK×Addr):=tl.map fun x=>(x.i.k,x.a)
def tlN(tl:List Tk):List (TK×Int):=tl.map fun x=>(x.i.k,x.m)
structure GG(e:Env)(M:RM)(f:Fm)(A:GA)(ns:List (TK×Int))(mark:Int)(tl:List Tk)(lb:List (Int×Addr))(ds:List RV)(k:Nat):Prop where
 hg:M A.g=some (qag e f.r (.ref A.t) (.ref A.st) (.ref A.dn) .non)
 ht:M A.t=some (qaf e f.r (.ref A.pl) (.int 0) (.ref A.bi) (.ref A.bn) (.ref A.ho) (.ref A.nu))
 hp:qbE e M A.pl A.ta A.un (qal f mark ns)
 h1:M A.bi=some (.dt (eA (tlA tl)))
 h2:M A.bn=some (.dk (eB lb))
 h3:M A.ho=some (.dk (eH (swp ns)))
 h4:M A.nu=some (.dt (eN ns))
 hd:M A.dn=some (.lst ds)
 ts:∀ x∈tl,M x.a=some (qan e x.i.r (.int x.m) (.str "note") (.int (0+f.t0)))/\lk ns (qax f x.i)=some x.m/\x.i.kind= "note"
 bs:∀ x∈lb,∃ l,M x.2=some (.dt (eA l))/\l.length<=k/\x.2≠A.bi/\x.2≠A.nu/\x.2≠A.nL/\x.2≠A.eL
 nn:A.un≠A.ta/\A.ho≠A.ta/\A.ho≠A.un/\A.bn≠A.ta/\A.bn≠A.un/\A.bn≠A.ho/\A.bi≠A.nu
 na:A.bi≠A.nL/\A.bi≠A.eL/\A.nu≠A.nL/\A.nu≠A.eL
 kb:lb.map (·.1)=ns.map (·.2)
 nd1:(ns.map (·.1)).Nodup
 nd2:(ns.map (·.2)).Nodup
 nd3:(tl.map fun x=>x.i.k).Nodup
 rg:∀ x∈ns,f.low<=x.2/\x.2<=f.high
 hk:∀ x∈ns,∃ i:Inn,i.kind= "note"/\x.1=qax f i
 mr:f.low<=mark/\mark<=f.high
 l1:ns.length<=k
 l2:tl.length<=k
 l3:ds.length<=k
theorem GG.frame{M':RM}{f:Fm}{A:GA}{ns:List (TK×Int)}{mark:Int}{tl:List Tk}{lb:List (Int×Addr)}{ds:List RV}{k:Nat}{u v:List (TK×RV)}(h:GG e M f A ns mark tl lb ds k)(hn:M A.nL=some (.dt u))(he:M A.eL=some (.dt v))(hM:∀ a o,M a=some o->a≠A.nL->a≠A.eL->M' a=some o):GG e M' f A ns mark tl lb ds k:=
 { h with
  hg:=hM _ _ h.hg (qab h.hg hn) (qab h.hg he)
  ht:=hM _ _ h.ht (qab h.ht hn) (qab h.ht he)
  hp:=⟨hM _ _ h.hp.o (qab h.hp.o hn) (qab h.hp.o he),hM _ _ h.hp.t (qab h.hp.t hn) (qab h.hp.t he),hM _ _ h.hp.u (qab h.hp.u hn) (qab h.hp.u he)⟩
  h1:=hM _ _ h.h1 h.na.1 h.na.2.1
  h2:=hM _ _ h.h2 (qab h.h2 hn) (qab h.h2 he)
  h3:=hM _ _ h.h3 (qab h.h3 hn) (qab h.h3 he)
  h4:=hM _ _ h.h4 h.na.2.2.1 h.na.2.2.2
  hd:=hM _ _ h.hd (qab h.hd hn) (qab h.hd he)
  ts:=fun x hx=>⟨hM _ _ (h.ts x hx).1 (qab (h.ts x hx).1 hn) (qab (h.ts x hx).1 he),(h.ts x hx).2⟩
  bs:=fun x hx=>by
   obtain⟨l,a,b,c,d,e1,f1⟩:=h.bs x hx;exact⟨l,hM _ _ a e1 f1,b,c,d,e1,f1⟩ }
end
section
variable {e:Env}{n:Nat}{M:RM}{Q:RVK}{f:Fm}{A:GA}{ns ns':List (TK×Int)}{mark mark':Int}{tl:List Tk}{lb:List (Int×Addr)}{ds:List RV}{k:Nat}{u v:List (TK×RV)}{i:Inn}{m:Int}
theorem Inn.k_inj{i j:Inn}(h:i.k=j.k):i=j:=by
 cases i;cases j;unfold Inn.k at h;simp only[List.cons.injEq,Option.some.injEq,Sum.inr.injEq,Sum.inl.injEq,and_true]at h;obtain⟨rfl,rfl,rfl,rfl,rfl⟩:=h;rfl
theorem qqz{κ β:Type}[DecidableEq κ]{k:κ}{y:β}:∀ {l:List (κ×β)},(l.map (·.1)).Nodup->lk l k=some y->pt l k y=l:=fun {l} nd h=>by
 have hs:(l.any fun kv=>decide (kv.1=k))=true:=by
  have:=qjp (l:=l) (k:=k);rw[h]at this;have:k∈l.map (·.1):=by simpa using this.symm
  obtain⟨x,hx,rfl⟩:=wai.mp this;exact List.any_eq_true.mpr ⟨x,hx,by simp⟩
 unfold pt;rw[if_pos hs]
 conv=>rhs;rw[<-List.map_id l]
 refine waE fun x hx=>?_
 show(if x.1=k then(x.1,y)else x)=x
 split
 · rename_i z
   have:=qeX nd hx;rw[z,h]at this;cases this;rfl
 · rfl
theorem qxt{tl:List Tk}{κ:TK}{x:Addr}(h:lk (tlA tl) κ=some x):∃ T∈tl,T.i.k=κ/\T.a=x:=by
 induction tl with
 |nil=>cases h
 |cons T tl ih=>
  have h:lk ((T.i.k,T.a)::tlA tl) κ=some x:=h;rw[qaX]at h
  by_cases z:T.i.k=κ
  · rw[if_pos z]at h;cases h;exact⟨T,.head _,z,rfl⟩
  · rw[if_neg z]at h
    obtain⟨T',h1,h2⟩:=ih h;exact⟨T',.tail _ h1,h2⟩
theorem lk_none{κ β:Type}[DecidableEq κ]{l:List (κ×β)}{k:κ}:lk l k=none↔k∉l.map (·.1):=by
 have:=qjp (l:=l) (k:=k);cases e:lk l k with
 |none=>rw[e]at this;simpa using this.symm
 |some y=>rw[e]at this;simpa using this.symm
theorem qog{κ β:Type}[DecidableEq κ]{k:κ}{y:β}:∀ {l:List (κ×β)},lk l k=some y->(k,y)∈l
 |(j,z)::l,h=>by
  rw[qaX]at h
  by_cases q:j=k
  · rw[if_pos q]at h;cases h;rw[q];exact .head _
  · rw[if_neg q]at h;exact .tail _ (qog h)
theorem qof{κ β:Type}[DecidableEq κ]{l:List (κ×β)}{k j:κ}{y:β}(h:j≠k)(hn:lk l k=none):lk (pt l k y) j=lk l j:=by
 rw[qbS hn];clear hn
 induction l with
 |nil=>show lk [(k,y)] j=none;rw[qaX,if_neg (fun z=>h z.symm)];rfl
 |cons x r ih=>
  obtain⟨a,b⟩:=x;show lk ((a,b)::(r++ [(k,y)])) j=lk ((a,b)::r) j;rw[qaX,qaX,ih]
theorem qfm{tl:List Tk}:(tlA tl).map (·.1)=tl.map fun x=>x.i.k:=by unfold tlA;rw[wah];rfl
theorem qdN{tl:List Tk}:(tlN tl).map (·.1)=tl.map fun x=>x.i.k:=by unfold tlN;rw[wah];rfl
def qvn(f:Fm)(i:Inn)(ns:List (TK×Int))(mark m:Int)(ns':List (TK×Int))(mark':Int):Prop:=(lk ns (qax f i)=some m/\ns'=ns/\mark'=mark)∨(lk ns (qax f i)=none/\(qal f mark ns).pick (f.pick== "keep") i.door 0=some m/\ns'=ns++ [(qax f i,m)]/\mark'=qcs f m)
theorem GG.more(h:GG e M f A ns mark tl lb ds k):GG e M f A ns mark tl lb ds (k+1):=
 { h with
  bs:=fun x hx=>by obtain⟨l,a,b,c⟩:=h.bs x hx;exact⟨l,a,by omega,c⟩
  l1:=by have:=h.l1;omega
  l2:=by have:=h.l2;omega
  l3:=by have:=h.l3;omega }
theorem GG.book{ds':List RV}(h:GG e M f A ns mark tl lb ds k)(hl:ds'.length<=k):GG e (put M A.dn (.lst ds')) f A ns mark tl lb ds' k:=
 { h with
  hg:=by rw[qaa (qab h.hg h.hd)];exact h.hg
  ht:=by rw[qaa (qab h.ht h.hd)];exact h.ht
  hp:=⟨by rw[qaa (qab h.hp.o h.hd)];exact h.hp.o,by rw[qaa (qab h.hp.t h.hd)];exact h.hp.t,by rw[qaa (qab h.hp.u h.hd)];exact h.hp.u⟩
  h1:=by rw[qaa (qab h.h1 h.hd)];exact h.h1
  h2:=by rw[qaa (qab h.h2 h.hd)];exact h.h2
  h3:=by rw[qaa (qab h.h3 h.hd)];exact h.h3
  h4:=by rw[qaa (qab h.h4 h.hd)];exact h.h4
  hd:=qad
  ts:=fun x hx=>⟨by rw[qaa (qab (h.ts x hx).1 h.hd)];exact(h.ts x hx).1,(h.ts x hx).2⟩
  bs:=fun x hx=>by
   obtain⟨l,a,b,c⟩:=h.bs x hx;exact⟨l,by rw[qaa (qab a h.hd)];exact a,b,c⟩
  l3:=hl }
theorem qxL{x:Addr}(h:GG e M f A ns mark tl lb ds k)(hx:lk (tlA tl) i.k=some x)(hN:qvn f i ns mark m ns' mark'):M x=some (qan e i.r (.int m) (.str "note") (.int (0+f.t0)))/\ns'=ns/\mark'=mark/\pt (tlN tl) i.k m=tlN tl:=by
 obtain⟨T,hT,h1,rfl⟩:=qxt hx;cases Inn.k_inj h1;obtain⟨a,b,c⟩:=h.ts T hT;rcases hN with⟨n1,rfl,rfl⟩|⟨n1,_⟩
 · rw[n1]at b;cases b
   refine⟨a,rfl,rfl,qqz (by rw[qdN];exact h.nd3) ?_⟩
   have:=qeX (l:=tlN tl) (x:=(T.i.k,T.m)) (by rw[qdN];exact h.nd3) (wai.mpr ⟨T,hT,rfl⟩)
   exact this
 · rw[n1]at b;cases b
theorem g_b{x b:Addr}{l:List (TK×Addr)}(h:GG e M f A ns mark tl lb ds k)(hk:i.kind= "note")(hx:M x=none)(hn:lk (tlA tl) i.k=none)(hm:lk ns (qax f i)=some m)(hb:lk lb m=some b)(hl:M b=some (.dt (eA l)))(hll:l.length<=k){κ:TK}:
 GG e (put (put (put M x (qan e i.r (.int m) (.str "note") (.int (0+f.t0)))) A.bi (.dt (eA (pt (tlA tl) i.k x)))) b (.dt (eA (pt l κ x)))) f A ns mark (tl++ [⟨i,x,m⟩]) lb ds (k+1):=by
 have hb':=qog hb;obtain⟨_,_,_,b1,b2,b3,b4⟩:=h.bs _ hb';have q:∀ {a:Addr} {o:RO},M a=some o->a≠A.bi->a≠b->put (put (put M x (qan e i.r (.int m) (.str "note") (.int (0+f.t0)))) A.bi (.dt (eA (pt (tlA tl) i.k x)))) b (.dt (eA (pt l κ x))) a=some o:=fun {a o} ha z1 z2=>by
  rw[qaa z2,qaa z1,qaa (qas hx ha)];exact ha
 have ha:pt (tlA tl) i.k x=tlA (tl++ [⟨i,x,m⟩]):=by rw[qbS hn];unfold tlA;rw[wau];rfl
 have h':=h.more;exact { h' with
  hg:=q h.hg (qab h.hg h.h1) (qab h.hg hl)
  ht:=q h.ht (qab h.ht h.h1) (qab h.ht hl)
  hp:=⟨q h.hp.o (qab h.hp.o h.h1) (qab h.hp.o hl),q h.hp.t (qab h.hp.t h.h1) (qab h.hp.t hl),q h.hp.u (qab h.hp.u h.h1) (qab h.hp.u hl)⟩
  h1:=by rw[qaa b1.symm,qad,ha]
  h2:=q h.h2 (qab h.h2 h.h1) (qab h.h2 hl)
  h3:=q h.h3 (qab h.h3 h.h1) (qab h.h3 hl)
  h4:=q h.h4 h.nn.2.2.2.2.2.2.symm b2.symm
  hd:=q h.hd (qab h.hd h.h1) (qab h.hd hl)
  ts:=fun y hy=>by
   rcases wax.mp hy with hy|hy
   · exact⟨q (h.ts y hy).1 (qab (h.ts y hy).1 h.h1) (qab (h.ts y hy).1 hl),(h.ts y hy).2⟩
   · cases waz.mp hy
     have z1:x≠A.bi:=(qas hx h.h1).symm;have z2:x≠b:=(qas hx hl).symm;exact⟨by show put _ _ _ x=_;rw[qaa z2,qaa z1,qad],hm,hk⟩
  bs:=fun y hy=>by
   obtain⟨l',a1,a2,a3,a4,a5,a6⟩:=h.bs y hy
   by_cases z:y.2=b
   · exact⟨_,by rw[z,qad],wal qtv (by omega),a3,a4,a5,a6⟩
   · exact⟨l',q a1 a3 z,by omega,a3,a4,a5,a6⟩
  nd3:=by
   rw[wau,waT];refine⟨h.nd3,by simp,fun a ha b hb=>?_⟩
   cases waz.mp hb;rw[lk_none,qfm]at hn;exact fun(z:a=i.k)=>hn (by rw[<-z];exact ha)
  l2:=by rw[wao];have:=h.l2;exact waO this 1 }
theorem qkP(h2:m<=f.high):((qal f mark ns).take m).mark=qcs f m:=by
 show(if m=f.high then f.low else m+1)=if m<f.high then m+1 else f.low
 by_cases z:m=f.high
 · rw[if_pos z,if_neg (by omega)]
 · rw[if_neg z,if_pos (by omega)]
theorem qjI{h:TK}(hm:m∉ns.map (·.2)):((qal f mark ns).take m).taken=(qal f (qcs f m) (ns++ [(h,m)])).taken:=by
 show pt (ns.map fun x=>(x.2,())) m ()=(ns++ [(h,m)]).map fun x=>(x.2,())
 rw[qbS (lk_none.mpr (by rw[wah];exact hm)),wau]
 rfl
theorem qnz(okf:f.Ok)(h1:f.low<=m)(h2:m<=f.high):f.low<=qcs f m/\qcs f m<=f.high:=by
 unfold qcs;have:=okf.le;split<;>omega
theorem g_c{x y:Addr}(okf:f.Ok)(h:GG e M f A ns mark tl lb ds k)(hk:i.kind= "note")(hx:M x=none)(hy:M y=none)(hxy:y≠x)(hn:lk (tlA tl) i.k=none)(hm:lk ns (qax f i)=none)(m1:f.low<=m)(m2:m<=f.high)(m3:m∉ns.map (·.2))(hnL:M A.nL=some (.dt u))(heL:M A.eL=some (.dt v)){κ:TK}:
 GG e (put (put (put (put (put (put (put (put M A.ta (.dk (eT ((qal f mark ns).take m).taken))) A.pl (qam e (.int f.low) (.int f.high) (.int ((qal f mark ns).take m).mark) (.ref A.ta) (.ref A.un))) A.ho (.dk (eH (pt (swp ns) m (qax f i))))) A.nu (.dt (eN (pt ns (qax f i) m))))
  x (qan e i.r (.int m) (.str "note") (.int (0+f.t0)))) A.bi (.dt (eA (pt (tlA tl) i.k x)))) y (.dt (eA [(κ,x)]))) A.bn (.dk (eB (lb++ [(m,y)])))) f A (ns++ [(qax f i,m)]) (qcs f m) (tl++ [⟨i,x,m⟩]) (lb++ [(m,y)]) ds (k+1):=by
 obtain⟨n1,n2,n3,n4,n5,n6,n7⟩:=h.nn;have e1:pt (tlA tl) i.k x=tlA (tl++ [⟨i,x,m⟩]):=by rw[qbS hn];unfold tlA;rw[wau];rfl
 have e2:pt ns (qax f i) m=ns++ [(qax f i,m)]:=qbS hm;have e3:pt (swp ns) m (qax f i)=swp (ns++ [(qax f i,m)]):=by
  rw[qbS (lk_none.mpr (by unfold swp;rw[wah];exact m3))];unfold swp;rw[wau];rfl
 rw[e1,e2,e3,qjI (h:=qax f i) m3,qkP m2];generalize hM2:put (put (put (put (put (put (put (put M A.ta _) _ _) _ _) _ _) _ _) _ _) _ _) _ _=M2;have q:∀ {a:Addr} {o:RO},M a=some o->a≠A.ta->a≠A.pl->a≠A.ho->a≠A.nu->a≠A.bi->a≠A.bn->M2 a=some o:=fun {a o} ha z1 z2 z3 z4 z5 z6=>by
  rw[<-hM2,qaa z6,qaa (qas hy ha),qaa z5,qaa (qas hx ha),qaa z4,qaa z3,qaa z2,qaa z1];exact ha
 have y1:=qas hy h.h1;have y2:=qas hy h.h2;have y3:=qas hy h.h3;have y4:=qas hy h.h4;have y5:=qas hy h.hp.o;have y6:=qas hy h.hp.t;have x1:=qas hx h.h1;have x2:=qas hx h.h2;have x3:=qas hx h.h3;have x4:=qas hx h.h4;have x5:=qas hx h.hp.o;have x6:=qas hx h.hp.t;have a1:A.bi≠A.bn:=qab h.h1 h.h2;have a2:A.ho≠A.bi:=qab h.h3 h.h1;have a3:A.ho≠A.nu:=qab h.h3 h.h4;have a4:A.nu≠A.bn:=qab h.h4 h.h2;have a5:A.pl≠A.bn:=qab h.hp.o h.h2;have a6:A.pl≠A.bi:=qab h.hp.o h.h1;have a7:A.pl≠A.nu:=qab h.hp.o h.h4;have a8:A.pl≠A.ho:=qab h.hp.o h.h3;have a9:A.ta≠A.bi:=qab h.hp.t h.h1;have a10:A.ta≠A.nu:=qab h.hp.t h.h4;have a11:A.ta≠A.pl:=qab h.hp.t h.hp.o;have h':=h.more;exact { h' with
  hg:=q h.hg (qab h.hg h.hp.t) (qdk h.hg h.hp.o) (qab h.hg h.h3) (qab h.hg h.h4) (qab h.hg h.h1) (qab h.hg h.h2)
  ht:=q h.ht (qab h.ht h.hp.t) (qab h.ht h.hp.o) (qab h.ht h.h3) (qab h.ht h.h4) (qab h.ht h.h1) (qab h.ht h.h2)
  hp:=⟨by rw[<-hM2,qaa a5,qaa y5,qaa a6,qaa x5,qaa a7,qaa a8,qad];rfl,
   by rw[<-hM2,qaa n4.symm,qaa y6,qaa a9,qaa x6,qaa a10,qaa n2.symm,qaa a11,qad],
   q h.hp.u n1 (qab h.hp.u h.hp.o) n3.symm (qab h.hp.u h.h4) (qab h.hp.u h.h1) n5.symm⟩
  h1:=by rw[<-hM2,qaa a1,qaa y1,qad]
  h2:=by rw[<-hM2,qad]
  h3:=by rw[<-hM2,qaa n6.symm,qaa y3,qaa a2,qaa x3,qaa a3,qad]
  h4:=by rw[<-hM2,qaa a4,qaa y4,qaa n7.symm,qaa x4,qad]
  hd:=q h.hd (qab h.hd h.hp.t) (qab h.hd h.hp.o) (qab h.hd h.h3) (qab h.hd h.h4) (qab h.hd h.h1) (qab h.hd h.h2)
  ts:=fun z hz=>by
   rcases wax.mp hz with hz|hz
   · have t1:=(h.ts z hz).1
     refine⟨q t1 (qab t1 h.hp.t) (qab t1 h.hp.o) (qab t1 h.h3) (qab t1 h.h4) (qab t1 h.h1) (qab t1 h.h2),?_,(h.ts z hz).2.2⟩;rw[<-e2,qof (fun c=>by have:=(h.ts z hz).2.1;rw[c,hm]at this;cases this) hm]
     exact(h.ts z hz).2.1
   · cases waz.mp hz
     exact⟨by show M2 x=_;rw[<-hM2,qaa x2.symm,qaa hxy.symm,qaa x1.symm,qad],by rw[<-e2];exact qq2,hk⟩
  bs:=fun z hz=>by
   rcases wax.mp hz with hz|hz
   · obtain⟨l',b1,b2,b3,b4,b5,b6⟩:=h.bs z hz
     exact⟨l',q b1 (qab b1 h.hp.t) (qab b1 h.hp.o) (qab b1 h.h3) b4 b3 (qab b1 h.h2),by omega,b3,b4,b5,b6⟩
   · cases waz.mp hz
     refine⟨[(κ,x)],by show M2 y=_;rw[<-hM2,qaa y2.symm,qad],by show 1<=k+1;omega,y1.symm,y4.symm,(qas hy hnL).symm,(qas hy heL).symm⟩
  kb:=by rw[wau,wau,h.kb];rfl
  nd1:=by
   rw[wau,waT];refine⟨h.nd1,by simp,fun a ha b hb=>?_⟩
   cases waz.mp hb;exact fun(z:a=qax f i)=>lk_none.mp hm (by rw[<-z];exact ha)
  nd2:=by
   rw[wau,waT];refine⟨h.nd2,by simp,fun a ha b hb=>?_⟩
   cases waz.mp hb;exact fun(z:a=m)=>m3 (by rw[<-z];exact ha)
  nd3:=by
   rw[wau,waT];refine⟨h.nd3,by simp,fun a ha b hb=>?_⟩
   cases waz.mp hb;rw[lk_none,qfm]at hn;exact fun(z:a=i.k)=>hn (by rw[<-z];exact ha)
  rg:=fun z hz=>by
   rcases wax.mp hz with hz|hz
   · exact h.rg z hz
   · cases waz.mp hz;exact⟨m1,m2⟩
  hk:=fun z hz=>by
   rcases wax.mp hz with hz|hz
   · exact h.hk z hz
   · cases waz.mp hz;exact⟨i,hk,rfl⟩
  mr:=qnz okf m1 m2
  l1:=by rw[wao];have:=h.l1;exact waO this 1
  l2:=by rw[wao];have:=h.l2;exact waO this 1 }
end
section
variable {e:Env}{n:Nat}{M:RM}{Q:RVK}{f:Fm}{A:GA}{ns ns':List (TK×Int)}{mark mark':Int}{tl:List Tk}{lb:List (Int×Addr)}{ds:List RV}{k:Nat}{u v:List (TK×RV)}{i:Inn}{m:Int}
theorem qor{h:Int}{l:List (Int×TK)}:(qkq l h).length<=l.length:=by
 unfold qkq;rw[wab];exact List.length_filter_le _ _
theorem qkp(i:Inn):∃ k j r,qax f i=k::some (.inl j)::r:=by
 unfold qax;split
 · exact⟨_,_,_,rfl⟩
 · split
   · exact⟨_,_,_,rfl⟩
   · exact⟨_,_,_,rfl⟩
theorem qte(tb:Tb e)(okf:f.Ok)(hw:f.high=f.low+199)(hmost:f.most=200)(h:GG e M f A ns mark tl lb ds k)(hk:k<63)(hn:M A.nL=some (.dt u))(he:M A.eL=some (.dt v))(ok:i.Ok)(hN:qvn f i ns mark m ns' mark')
 (hq:∀ M' tl' lb' ds',GG e M' f A ns' mark' tl' lb' ds' (k+1)->tlN tl'=pt (tlN tl) i.k m->M' A.nL=some (.dt u)->M' A.eL=some (.dt v)->Q (.tup [.str "led",.int m]) M'):
 sem (P e) (n+10) 60 [.ref A.g,.str "note",.int i.house,.int i.door,.int i.place,.int i.far,.str "say",.str "x"] M Q:=by
 refine qwR tb ok h.hg (post:=fun r M2=>r= .tup [.str "led",.int m]/\∃ tl' lb',GG e M2 f A ns' mark' tl' lb' ds (k+1)/\tlN tl'=pt (tlN tl) i.k m/\M2 A.nL=some (.dt u)/\M2 A.eL=some (.dt v)) (fun K hK=>?_) (fun r M2 hp=>?_)
 · have h1l:(tlA tl).length<1000:=by unfold tlA;rw[wab];have:=h.l2;omega
   have hlb:lb.length<1000:=by
    have:=congrArg List.length h.kb;rw[wab,wab]at this;have:=h.l1;omega
   cases ex:lk (tlA tl) i.k with
   |some x=>
    obtain⟨a1,rfl,rfl,a4⟩:=qxL h ex hN;refine qeN tb ok.kind h.hg h.ht h.h1 ex a1 (hK _ _ ⟨rfl,tl,lb,?_,a4.symm,?_,?_⟩)
    · rw[qbe a1];exact h.more
    · rw[qbe a1];exact hn
    · rw[qbe a1];exact he
   |none=>
    refine qeO ok.kind h.hg h.ht h.h1 ex ?_;have pe:∀ {x:Addr},tlN (tl++ [⟨i,x,m⟩])=pt (tlN tl) i.k m:=fun {x}=>by
     rw[qbS (lk_none.mpr (by rw[qdN,<-qfm];exact lk_none.mp ex))];unfold tlN;rw[wau];rfl
    rcases hN with⟨n1,rfl,rfl⟩|⟨n1,n2,rfl,rfl⟩
    · have hm:m∈lb.map (·.1):=by rw[h.kb];exact wai.mpr ⟨_,qog n1,rfl⟩
      obtain⟨b,hb⟩:∃ b,lk lb m=some b:=by
       cases z:lk lb m with
       |some b=>exact⟨b,rfl⟩
       |none=>exact absurd hm (lk_none.mp z)
      obtain⟨l,b1,b2,b3,b4,b5,b6⟩:=h.bs _ (qog hb);refine qfz tb h.hg h.ht h.h1 h.h2 h.h4 n1 hb b1 h1l (by omega) b3 fun x hx=>hK _ _ ⟨rfl,_,_,g_b h ok.kind hx ex n1 hb b1 b2,pe,?_,?_⟩
      · rw[qaa b5.symm,qaa h.na.1.symm,qaa (qas hx hn)];exact hn
      · rw[qaa b6.symm,qaa h.na.2.1.symm,qaa (qas hx he)];exact he
    · obtain⟨m',p1,p2,p3,p4⟩:=qgN (d:=i.door) (k:=f.pick== "keep") h.mr.1 h.mr.2 h.nd2 h.rg (by have:=h.l1;omega)
      rw[n2]at p1;cases p1;have hsl:(swp ns).length<=k:=by unfold swp;rw[wab];exact h.l1
      have okp:(qal f mark ns).Ok:=⟨okf.lo,h.mr.1,h.mr.2,okf.hi,okf.wide⟩;refine qfy tb okp h.hg h.ht h.hp h.h1 h.h2 h.h3 h.h4 n1 (lk_none.mpr (by rw[h.kb];exact p4)) (fun x hx=>?_) ?_ n2 rfl (by show(ns.map _).length<1000;rw[wab];have:=h.l1;omega) h1l hlb (by omega) (by have:=h.l1;omega) h.nn.1 h.nn.2.1 h.nn.2.2.1 h.nn.2.2.2.1 h.nn.2.2.2.2.1 h.nn.2.2.2.2.2.1 h.nn.2.2.2.2.2.2 fun x y hx hy hxy=>hK _ _ ⟨rfl,_,_,g_c okf h ok.kind hx hy hxy ex n1 p2 p3 p4 hn he,pe,?_,?_⟩
      · obtain⟨z,hz,rfl⟩:=wai.mp hx
        obtain⟨j,_,hj⟩:=h.hk z hz;show ∃ k j r,z.1=_;rw[hj];exact qkp j
      · rw[hmost]
        have:=qor (h:=i.house) (l:=swp ns);omega
      · rw[qaa (qab hn h.h2),qaa (qas hy hn),qaa h.na.1.symm,qaa (qas hx hn),qaa h.na.2.2.1.symm,qaa (qab hn h.h3),qaa (qab hn h.hp.o),qaa (qab hn h.hp.t)];exact hn
      · rw[qaa (qab he h.h2),qaa (qas hy he),qaa h.na.2.1.symm,qaa (qas hx he),qaa h.na.2.2.2.symm,qaa (qab he h.h3),qaa (qab he h.hp.o),qaa (qab he h.hp.t)];exact he
 · obtain⟨rfl,tl',lb',g1,g2,g3,g4⟩:=hp
   refine⟨_,_,_,_,ds,g1.hg,g1.hd,by have:=h.l3;omega,hq _ tl' lb' _ (g1.book (by rw[wao];have:=h.l3;exact waO this 1)) g2 ?_ ?_⟩
   · rw[qaa (qab g3 g1.hd)];exact g3
   · rw[qaa (qab g4 g1.hd)];exact g4
end
noncomputable def qBh:T:=.set 1 (.ca 40 (.ec (.ca 39 (.ec (.v 0) (.ec (.i 0) .e0))) (.ec (.i 0) .e0)))
noncomputable def qBg:T:=.set 2 (.ca 54 (.ec (.v 1) (.ec (.ix (.ll (.ec (.s "door") (.ec (.s "place") (.ec (.s "talk") .e0)))) (.ca 41 (.ec (.v 1) (.ec (.i 3) .e0)))) (.ec (.ix (.ll (.ec (.s "all") (.ec (.s "place") (.ec (.s "talk") .e0)))) (.ca 41 (.ec (.v 1) (.ec (.i 3) .e0)))) .e0))))
noncomputable def qBf:T:=.sc 3 false false ["k"] [(1,"bag")] (.r1 (.i 3)) (.b true) (.ca 41 (.ec (.v 1) (.ec (.i 100) .e0)))
noncomputable def qBe:T:=.set 4 (.ll (.ec (.op .Add (.ix (.v 2) (.i 0)) (.ca 41 (.ec (.v 1) (.ec (.i 200) .e0)))) (.ec (.op .Add (.i 1) (.ca 41 (.ec (.v 1) (.ec (.i 9999) .e0)))) (.ec (.op .Add (.ix (.v 2) (.i 0)) (.ca 41 (.ec (.v 1) (.ec (.i 3) .e0)))) .e0))))
noncomputable def qBd:T:=.sc 5 false false ["k"] [(1,"bag")] (.r1 (.i 3)) (.b true) (.op .Add (.i 1) (.ca 41 (.ec (.v 1) (.ec (.i 1000000) .e0))))
noncomputable def qBc:T:=.sc 6 false false ["k"] [(1,"bag")] (.r1 (.i 3)) (.b true) (.op .Add (.i 1) (.ca 41 (.ec (.v 1) (.ec (.i 9999) .e0))))
noncomputable def qBb:T:=.set 7 (.mk 35 (.ec (.v 2) .e0))
noncomputable def qBa:T:=.set 8 .dt
noncomputable def qA9:T:=.set 9 .dt
noncomputable def qA8:T:=.set 10 (.ix (.v 2) (.i 0))
noncomputable def qvu:T:=.set 11 (.op .Add (.sl (.v 0) (.p1 (.i 1)) (.p1 (.i 63))) (.ll (.ec (.i 0) .e0)))
noncomputable def qnh:T:=.set 16 (.ca 44 (.ec (.ca 42 (.ec (.v 11) (.ec (.v 12) .e0))) (.ec (.tu (.ec (.v 3) (.ec (.v 4) (.ec (.v 5) (.ec (.v 6) .e0))))) .e0)))
noncomputable def qng:T:=.set 14 (.ca 43 (.ec (.v 2) (.ec (.v 16) .e0)))
noncomputable def qnf:T:=.if_ (.dn true (.v 14) (.v 8)) (.se (.un [18,10] (.ca 58 (.ec (.v 2) (.ec (.v 8) (.ec (.v 10) (.ec (.ix (.v 16) (.i 2)) .e0)))))) (.se (.dp (.v 8) (.v 14) (.v 18)) .en)) .en
noncomputable def qne:T:=.dp (.v 9) (.v 16) (.dg (.v 8) (.v 14))
noncomputable def qnd:T:=.set 17 (.me 60 (.v 7) (.ec (.ix (.v 16) (.i 0)) (.ec (.ix (.v 16) (.i 1)) (.ec (.ix (.v 16) (.i 2)) (.ec (.ix (.v 16) (.i 3)) (.ec (.ix (.v 16) (.i 4)) (.ec (.s "say") (.ec (.s "x") .e0))))))))
noncomputable def qnc:T:=.if_ (.or (.cm .NotEq (.v 17) (.tu (.ec (.s "led") (.ec (.dg (.v 8) (.v 14)) .e0)))) (.no (.ca 20 (.ec (.ix (.v 17) (.i 1)) .e0)))) (.se (.re (.b false)) .en) .en
noncomputable def qni:T:=.en
noncomputable def qnj:T:=.se qnc qni
noncomputable def qnk:T:=.se qnd qnj
noncomputable def qiY:T:=.se qne qnk
noncomputable def qnl:T:=.se qnf qiY
noncomputable def qnm:T:=.se qng qnl
noncomputable def qiZ:T:=.se qnh qnm
noncomputable def qvt:T:=.fo false [12] (.r1 (.bf "max" (.ec (.i 12) (.ec (.bf "len" (.ec (.v 11) .e0)) .e0)))) qiZ
noncomputable def qvs:T:=.set 13 .dk
noncomputable def qna:T:=.dp (.v 13) (.dg (.v 8) (.v 14)) (.v 14)
noncomputable def qnb:T:=.en
noncomputable def qiX:T:=.se qna qnb
noncomputable def qvr:T:=.fo false [14] (.ik (.v 8)) qiX
noncomputable def qvq:T:=.if_ (.cm .NotEq (.me 17 (.v 7) .e0) (.cp false false ["number"] [(13,"holders")] (.is (.bf "sorted" (.ec (.v 13) .e0))) (.b true) (.op .Add (.tu (.ec (.v 0) .e0)) (.dg (.v 1) (.v 0))))) (.se (.re (.b false)) .en) .en
noncomputable def qvp:T:=.sc 15 false false ["inner"] [(9,"ends"),(2,"form")] (.ik (.v 9)) (.b true) (.op .Add (.op .Add (.tu (.ec (.s "note") (.ec (.dg (.v 1) (.v 0)) .e0))) (.sl (.v 0) (.p1 (.i 1)) .p0)) (.tu (.ec (.s "note") (.ec (.ix (.ix (.v 2) (.i 7)) (.i 0)) .e0))))
noncomputable def qvo:T:=.re (.an (.cm .Eq (.me 18 (.v 7) .e0) (.bf "sorted" (.ec (.v 15) .e0))) (.an (.cm .Eq (.me 16 (.v 7) .e0) (.op .Sub (.i 200) (.bf "len" (.ec (.v 13) .e0)))) (.cm .Eq (.me 19 (.v 7) .e0) (.ll .e0))))
noncomputable def qyg:T:=.en
noncomputable def qoY:T:=.se qvo qyg
noncomputable def qoZ:T:=.se qvp qoY
noncomputable def qm9:T:=.se qvq qoZ
noncomputable def qr7:T:=.se qvr qm9
noncomputable def qo0:T:=.se qvs qr7
noncomputable def qr8:T:=.se qvt qo0
noncomputable def qvv:T:=.se qvu qr8
noncomputable def qBi:T:=.se qA8 qvv
noncomputable def qBj:T:=.se qA9 qBi
noncomputable def qBk:T:=.se qBa qBj
noncomputable def qBl:T:=.se qBb qBk
noncomputable def qBm:T:=.se qBc qBl
noncomputable def qBn:T:=.se qBd qBm
noncomputable def qBo:T:=.se qBe qBn
noncomputable def qBp:T:=.se qBf qBo
noncomputable def qBq:T:=.se qBg qBp
noncomputable def qBr:T:=.se qBh qBq
theorem qD8:f_law.body=qBr:=rfl
noncomputable def qdF (sc bg fm hs ds ps fs g nu en mk ce:RV)(k hd hl du inn fo nb:Option RV):RSt:=[some sc,some bg,some fm,some hs,some ds,some ps,some fs,some g,some nu,some en,some mk,some ce,k,hd,hl,du,inn,fo,nb]
section
variable {e:Env}{n:Nat}{M:RM}{Q:RVK}{D:RD}{f:Fm}{A:GA}{ns ns':List (TK×Int)}{mark mark':Int}{tl:List Tk}{lb:List (Int×Addr)}{ds:List RV}{k:Nat}{i:Inn}{m:Int}{sc bg:RV}{hs os ps fs:List RV}{cs:List Int}{hd hl du inn fo nb:Option RV}
theorem qx4{s:Str}:cmR .NotEq (.tup [.str s,.int m]) (.tup [.str s,.int m]) M Q=Q (.bl false) M:=by
 show(_/\_/\Q (.bl (!eqR (.tup [.str s,.int m]) (.tup [.str s,.int m]))) M)=_;simp[qaW,okR,eqR,qfg]
theorem qtw{l:List (TK×Int)}{κ:TK}:pt (eN l) κ (.int m)=eN (pt l κ m):=qcu (g:=id) qep
theorem qpM{l:List (TK×Int)}:(eN l).length=l.length:=qa2
theorem qll(tb:Tb e)(okf:f.Ok)(hw:f.high=f.low+199)(hmost:f.most=200)(h:GG e M f A ns mark tl lb ds k)(hk:k<63)(ok:i.Ok)(hN:qvn f i ns mark m ns' mark')(l1:M A.nL=some (.dt (eN ns')))(l2:M A.eL=some (.dt (eN (tlN tl))))(hne:A.nL≠A.eL)(hns':lk ns' (qax f i)=some m)
 (hq:∀ M' tl' lb' ds' fo,GG e M' f A ns' mark' tl' lb' ds' (k+1)->M' A.nL=some (.dt (eN ns'))->M' A.eL=some (.dt (eN (tlN tl')))->D.nx (qdF sc bg f.r (.ls hs) (.ls os) (.ls ps) (.ls fs) (.ref A.g) (.ref A.nL) (.ref A.eL) (.int mark') (.ls (cs.map RV.int)) (some (.int k)) hd (some (qaD (qax f i))) du (some i.r) fo nb) M'):
 (tr ((P e).Gn (n+10)) qiY).S D (qdF sc bg f.r (.ls hs) (.ls os) (.ls ps) (.ls fs) (.ref A.g) (.ref A.nL) (.ref A.eL) (.int mark') (.ls (cs.map RV.int)) (some (.int k)) hd (some (qaD (qax f i))) du (some i.r) fo nb) M:=by
 have j0:∀ {M:RM} {Q:RVK},rIx i.r (.int 0) M Q=Q (.str "note") M:=fun {M Q}=>by rw[i_0,ok.kind]
 have j1:∀ {M:RM} {Q:RVK},rIx i.r (.int 1) M Q=Q (.int i.house) M:=i_1;have j2:∀ {M:RM} {Q:RVK},rIx i.r (.int 2) M Q=Q (.int i.door) M:=i_2;have j3:∀ {M:RM} {Q:RVK},rIx i.r (.int 3) M Q=Q (.int i.place) M:=xi_tup.trans (by rw[qAX];rfl)
 have j4:∀ {M:RM} {Q:RVK},rIx i.r (.int 4) M Q=Q (.int i.far) M:=xi_tup.trans (by rw[qyd];rfl)
 rw[qiY,qcn,qne];unfold qdF;walk_at "ev";rw[l1,quG (qar _),qfM,hns'];show dPt M (.ref A.eL) i.r (.int m) _;rw[qiT];rw[l2,qik (show qco i.r=some i.k from qar i.k),qtw]
 refine⟨by rw[qpM];unfold tlN;rw[wab];exact waJ h.l2 (waA hk (by decide)),?_⟩
 generalize hM1:put M A.eL _=M1;have g1:GG e M1 f A ns mark tl lb ds k:=h.frame l1 l2 fun a o ha z1 z2=>by rw[<-hM1,qaa z2];exact ha
 have l1':M1 A.nL=some (.dt (eN ns')):=by rw[<-hM1,qaa hne];exact l1
 have l2':M1 A.eL=some (.dt (eN (pt (tlN tl) i.k m))):=by rw[<-hM1,qad]
 rw[qnk,qcn,qnd];walk_at "ev";rw[g1.hg];walk_at "ev";simp only[↓j0,↓j1,↓j2,↓j3,↓j4];refine qte tb okf hw hmost g1 hk l1' l2' ok hN fun M' tl' lb' ds' g2 t2 m1 m2=>?_
 rw[qnj,qcn,qnc];walk_at "ev";rw[m1,quG (qar _),qfM,hns'];show cmR .NotEq (.tup [.str "led",.int m]) (.tup [.str "led",.int m]) M' _;rw[qx4];walk_at "ev";rw[qiM];walk_at "ev";rw[qni,qwo];rw[<-t2]at m2;exact hq M' tl' lb' ds' _ g2 m1 m2
theorem qq0(hN:qvn f i ns mark m ns' mark'):lk ns' (qax f i)=some m:=by
 rcases hN with⟨a,rfl,_⟩|⟨a,_,rfl,_⟩
 · exact a
 · rw[<-qbS a];exact qq2
theorem qs6(tb:Tb e)(okf:f.Ok)(hw:f.high=f.low+199)(hmost:f.most=200)(h:GG e M f A ns mark tl lb ds k)(hk:k<63)(l1:M A.nL=some (.dt (eN ns)))(l2:M A.eL=some (.dt (eN (tlN tl))))(hne:A.nL≠A.eL)
 (o1:Lt hs 0 99) (o2:Lt os 1 9999) (o3:Lt ps 1 1000000) (o4:Lt fs 1 9999) (hc:0<cs.length) (hc2:cs.length<1000)
 (hq:∀ M' ns' mark' tl' lb' ds' hl inn fo nb,GG e M' f A ns' mark' tl' lb' ds' (k+1)->M' A.nL=some (.dt (eN ns'))->M' A.eL=some (.dt (eN (tlN tl')))->D.nx (qdF sc bg f.r (.ls hs) (.ls os) (.ls ps) (.ls fs) (.ref A.g) (.ref A.nL) (.ref A.eL) (.int mark') (.ls (cs.map RV.int)) (some (.int k)) hd hl du inn fo nb) M'):
 (tr ((P e).Gn (n+10)) qiZ).S D (qdF sc bg f.r (.ls hs) (.ls os) (.ls ps) (.ls fs) (.ref A.g) (.ref A.nL) (.ref A.eL) (.int mark) (.ls (cs.map RV.int)) (some (.int k)) hd hl du inn fo nb) M:=by
 rw[qiZ,qcn,qnh];unfold qdF;walk_at "ev";refine qnP (n:=n+8) (by omega) (by omega) hc hc2 fun p g hp okg=>?_
 refine qj0 (n:=n+8) qad okg (by decide) o1 o2 o3 o4 fun i g' ok=>?_
 rw[qav,qnm,qcn,qng];walk_at "ev";refine qlm (n:=n+9) okf fun p2 hp2=>?_
 generalize hM1:put (put M p _) p2 _=M1;obtain⟨hp3,_⟩:=qac hp2;have fr:∀ a o,M a=some o->M1 a=some o:=fun a o ha=>by rw[<-hM1,qaa (qas hp3 ha),qaa (qas hp ha)];exact ha
 have g1:GG e M1 f A ns mark tl lb ds k:=h.frame l1 l2 fun a o ha _ _=>fr a o ha
 have l1':=fr _ _ l1;have l2':=fr _ _ l2;rw[qnl,qcn,qnf];walk_at "ev";rw[l1',qxG (qar _),qhf,qfM];cases hh:lk ns (qax f i)with
 |some m=>
  simp only[Option.map_some,Option.isSome_some,if_true,Bool.not_true,wav,if_false];exact qll (n:=n) tb okf hw hmost g1 hk ok (.inl ⟨hh,rfl,rfl⟩) l1' l2' hne hh fun M' tl' lb' ds' fo g a b=>hq M' ns mark tl' lb' ds' _ _ fo _ g a b
 |none=>
  simp only[Option.map_none,Option.isSome_none,if_true,Bool.not_false,↓reduceIte];obtain⟨m,p1,p2',p3,p4⟩:=qgN (d:=i.door) (k:=f.pick== "keep") h.mr.1 h.mr.2 h.nd2 h.rg (by have:=h.l1;omega)
  have j2:∀ {M:RM} {Q:RVK},rIx i.r (.int 2) M Q=Q (.int i.door) M:=i_2;simp only[↓j2];refine qgH (n:=n+9) h.mr.1 h.mr.2 l1' h.nd1 (by have:=h.l1;omega) p1 ?_
  walk_at "ev";rw[l1',qik (qar _),qtw,qbS hh];refine⟨by rw[qpM];exact waJ h.l1 (waA hk (by decide)),?_⟩
  have hN:qvn f i ns mark m (ns++ [(qax f i,m)]) (qcs f m):=.inr ⟨hh,p1,rfl,rfl⟩;refine qll (n:=n) tb okf hw hmost (g1.frame l1' l2' fun a o ha z1 z2=>by rw[qaa z1];exact ha) hk ok hN qad (by rw[qaa hne.symm];exact l2') hne (qq0 hN) fun M' tl' lb' ds' fo g a b=>hq M' _ _ tl' lb' ds' _ _ fo _ g a b
end
section
variable {e:Env}{n:Nat}{M:RM}{Q:RVK}{D:RD}
theorem qtZ{k:Nat}(o:qbv):okR k (oR o)=true:=by
 cases o with
 |none=>cases k<;>rfl
 |some z=>cases z<;>cases k<;>rfl
theorem qqV{k:Nat}(r:TK):okR (k+1) (qaD r)=true:=by
 show(r.map oR).all (okR k)=true;rw[wbd,wak];exact fun x _=>qtZ x
theorem qji{k:Nat}(rows:List TK):okR (k+2) (.ls (rows.map qaD))=true:=by
 show(rows.map qaD).all (okR (k+1))=true;rw[wbd,wak];exact fun x _=>qqV x
theorem quM(o:qbv):eqR (oR o) (oR o)=true:=by
 cases o with
 |none=>simp[oR,eqR]
 |some z=>cases z<;>simp[oR,kR,eqR]
theorem qmI:∀ r:TK,qfg (r.map oR) (r.map oR)=true
 | []=>by simp[qfg]
 |x::r=>by rw[wad];unfold qfg;rw[quM,qmI r];rfl
theorem qrD(r:TK):eqR (qaD r) (qaD r)=true:=by unfold qaD eqR;exact qmI r
theorem qhn:∀ rows:List TK,qfg (rows.map qaD) (rows.map qaD)=true
 | []=>by simp[qfg]
 |x::r=>by rw[wad];unfold qfg;rw[qrD,qhn r];rfl
theorem qjt(rows:List TK):eqR (.ls (rows.map qaD)) (.ls (rows.map qaD))=true:=by unfold eqR;exact qhn rows
theorem qjz{rows:List TK}:cmR .Eq (.ls (rows.map qaD)) (.ls (rows.map qaD)) M Q=Q (.bl true) M:=by
 show(okR 16 (.ls (rows.map qaD))=true/\okR 16 (.ls (rows.map qaD))=true/\Q (.bl (eqR (.ls (rows.map qaD)) (.ls (rows.map qaD)))) M)=_;rw[qji,qjt];simp
theorem qoP{rows:List TK}:cmR .NotEq (.ls (rows.map qaD)) (.ls (rows.map qaD)) M Q=Q (.bl false) M:=by
 show(okR 16 (.ls (rows.map qaD))=true/\okR 16 (.ls (rows.map qaD))=true/\Q (.bl (!eqR (.ls (rows.map qaD)) (.ls (rows.map qaD)))) M)=_;rw[qji,qjt];simp
theorem qjB:∀ a:TK,qpR a a=true
 | []=>rfl
 |x::xs=>by unfold qpR;rw[if_pos rfl];exact qjB xs
def qbw(ns:List (TK×Int))(m:Int):TK:=some (.inl m)::(lk (swp ns) m).getD []
theorem qcr{ns:List (TK×Int)}:(swp ns).map (·.1)=ns.map (·.2):=by unfold swp;rw[wah];rfl
theorem qgV{ns:List (TK×Int)}(nd:(ns.map (·.2)).Nodup):((swp ns).map fun x=>some (.inl x.1)::x.2)=(ns.map (·.2)).map (qbw ns):=by
 rw[<-qcr,wah];refine waE fun x hx=>?_
 show _=some (.inl x.1)::(lk (swp ns) x.1).getD [];rw[qeX (by rw[qcr];exact nd) hx];rfl
theorem qoi{ns:List (TK×Int)}{l:List Int}:qca (l.map (qbw ns))=true:=by
 unfold qca;rw[waa,wa9];refine⟨.inl ?_,?_⟩
 · rw[wbd,wak];exact fun x _=>rfl
 · rw[wak]
   intro a ha;rw[wak];intro b hb;obtain⟨m,_,rfl⟩:=wai.mp ha;obtain⟨m',_,rfl⟩:=wai.mp hb
   by_cases z:m=m'
   · rw[z];exact qjB _
   · unfold qbw qpR
     rw[if_neg (by simpa using z)];rfl
theorem qir{ns:List (TK×Int)}{l l':List Int}(hp:l'.Perm l)(hs:l'.Pairwise (· <= ·)):l'.map (qbw ns)=qeJ (l.map (qbw ns)):=by
 refine qi4 (hp.map _) (List.Pairwise.map _ (fun a b h=>?_) hs)
 unfold leT qbw qdn
 by_cases z:(some (Sum.inl b):qbv)=some (Sum.inl a)
 · rw[if_pos z]
   have:b=a:=by simpa using z
   rw[this,qf1];rfl
 · rw[if_neg z]
   show(!decide (b<a))=true;simp;omega
noncomputable def qbh (f:Fm)(x:Tk):TK:=[some (.inr x.i.kind),some (.inl x.m),some (.inl x.i.house),some (.inl x.i.door),some (.inl x.i.place),some (.inl x.i.far),some (.inr "note"),some (.inl (0+f.t0))]
theorem qi1{f:Fm}{tl:List Tk}:qca (tl.map (qbh f))=true:=by
 unfold qca;rw[waa,wa9];refine⟨.inr ?_,?_⟩
 · rw[wbd,wak];exact fun x _=>rfl
 · rw[wak]
   intro a ha;rw[wak];intro b hb;obtain⟨m,_,rfl⟩:=wai.mp ha;obtain⟨m',_,rfl⟩:=wai.mp hb;unfold qbh;simp only[qpR,kin]
   repeat' split
   all_goals rfl
end
section
variable {e:Env}{n:Nat}{M:RM}{Q:RVK}{D:RD}{f:Fm}{A:GA}{ns:List (TK×Int)}{mark:Int}{tl:List Tk}{lb:List (Int×Addr)}{ds:List RV}{k:Nat}{sc bg c1 c3 c4 c5 c6 g en mk ce:RV}{kk hd hl du inn fo nb:Option RV}
theorem qsO{Γ:G}{σ:RSt}{it b:T}{i:Nat}:(tr Γ (.fo false [i] it b)).S D σ M=(tr Γ it).I σ M fun xs ok un M1=>qdA (rgN i) (tr Γ b).S D ok un xs σ M1:=rfl
theorem qmb{QI:List RV->(RM->Prop)->(RM->RM)->RM->Prop}{b:Bool}{a:Addr}{kvs:List (TK×RV)}(h:M a=some (.dt kvs)):qpv b QI (.ref a) M=QI (qjO b kvs) (fun M=>M a=some (.ft kvs)) (fun M=>put M a (.dt kvs)) (put M a (.ft kvs)):=by
 unfold qpv;simp only[h]
theorem qo6:qjO true (eN ns)=ns.map fun x=>qaD x.1:=by
 show((eN ns).map fun kv=>RV.tup (kv.1.map oR))=_
 unfold eN enc;rw[wah];rfl
theorem qlp{p nL:Addr}(hp:M p=some (.dk []))(l1:M nL=some (.dt (eN ns)))(nd1:(ns.map (·.1)).Nodup)(nd2:(ns.map (·.2)).Nodup)(hln:ns.length<1000)
 (hq:∀ hl,(tr ((P e).Gn n) qm9).S D (qdF sc bg c1 c3 c4 c5 c6 g (.ref nL) en mk ce kk (some (.ref p)) hl du inn fo nb) (put M p (.dk (eH (swp ns))))):
 (tr ((P e).Gn n) qr7).S D (qdF sc bg c1 c3 c4 c5 c6 g (.ref nL) en mk ce kk (some (.ref p)) hl du inn fo nb) M:=by
 have npn:nL≠p:=qab l1 hp;rw[qr7,qcn,qvr,qsO];generalize hE:({ nx:=_,rt:=_,bk:=_,ct:=_ }:RD)=D';have hnx:D'.nx=(tr ((P e).Gn n) qm9).S D:=by rw[<-hE]
 unfold qdF;walk_at "ev";rw[qmb l1,qo6];have go:∀ (rest pre:List (TK×Int)) (hl:Option RV),pre++rest=ns->qdA (rgN 14) (tr ((P e).Gn n) qiX).S D' (fun M=>M nL=some (.ft (eN ns))) (fun M=>put M nL (.dt (eN ns))) (rest.map fun x=>qaD x.1)
  (qdF sc bg c1 c3 c4 c5 c6 g (.ref nL) en mk ce kk (some (.ref p)) hl du inn fo nb) (put (put M nL (.ft (eN ns))) p (.dk (eH (swp pre)))):=by
  intro rest
  induction rest with
  |nil=>
   intro pre hl hpre;refine⟨by show put _ p _ nL=_;rw[qaa npn,qad],?_⟩
   rw[hnx];dsimp only;rw[qb2 npn,qav,qb2 npn.symm,qbe l1];rw[waP]at hpre;rw[hpre];exact hq hl
  |cons x rest ih=>
   intro pre hl hpre;refine⟨by show put _ p _ nL=_;rw[qaa npn,qad],?_⟩
   unfold rgN qdF;dsimp only[List.set_cons_zero,List.set_cons_succ];rw[qiX,qcn,qna];walk_at "ev";have hx:x∈ns:=by rw[<-hpre];simp
   have e1:pt (eH (swp pre)) (Sum.inl x.2) (qaD x.1)=eH (swp (pre++ [x])):=by
    have:x.2∉pre.map (·.2):=by
     rw[<-hpre,wau,waT]at nd2;exact fun z=>nd2.2.2 _ z x.2 (by simp) rfl
    unfold eH;rw[qcu qbX,qbS (lk_none.mpr (by rw[qcr];exact this))]
    unfold swp;rw[wau];rfl
   rw[qaa npn,qad,qrz (qar _),qfM,qeX nd1 hx];show dPt _ (.ref p) (.int x.2) (qaD x.1) _;rw[qiT,qad,qtO,qav,e1];refine⟨?_,?_⟩
   · unfold eH swp;rw[qa2,wab]
     have:=congrArg List.length hpre;rw[wao]at this;exact waJ (show _<=ns.length by omega) (waA hln (by decide))
   · rw[qnb,qwo]
     exact ih (pre++ [x]) _ (by rw[List.append_assoc];exact hpre)
 have:=go ns [] hl rfl;rw[show(put (put M nL (.ft (eN ns))) p (.dk (eH (swp []))))=put M nL (.ft (eN ns))from qbe (by rw[qaa npn.symm];exact hp)]at this
 exact this
end
section
variable {e:Env}{n:Nat}{M:RM}{Q:RVK}{D:RD}{f:Fm}{A:GA}{ns:List (TK×Int)}{mark:Int}{tl:List Tk}{lb:List (Int×Addr)}{ds:List RV}{k:Nat}{sc bg c3 c4 c5 c6 mk ce:RV}{kk hd hl du inn fo nb:Option RV}
theorem quH{m:Int}{l:List (Int×TK)}:gO Q (.int m) M (some (.dk (eH l)))=wO (lk l m) fun v=>Q (qaD v) M:=by
 rw[quI,qxv];cases lk l m<;>rfl
def qt9(ns:List (TK×Int)):RV->RV
 | .int m=>qaD (qbw ns m)
 |x=>x
theorem ql1{l:List Int}:(l.map RV.int).map (qt9 ns)=(l.map (qbw ns)).map qaD:=by rw[wah,wah];rfl
theorem qwQ{p:Addr}(h:GG e M f A ns mark tl lb ds k)(hk:k<=63)(hp:M p=some (.dk (eH (swp ns))))
 (hq:(tr ((P e).Gn (n+1)) qoZ).S D (qdF sc bg f.r c3 c4 c5 c6 (.ref A.g) (.ref A.nL) (.ref A.eL) mk ce kk (some (.ref p)) hl du inn fo nb) M):
 (tr ((P e).Gn (n+1)) qm9).S D (qdF sc bg f.r c3 c4 c5 c6 (.ref A.g) (.ref A.nL) (.ref A.eL) mk ce kk (some (.ref p)) hl du inn fo nb) M:=by
 have hsl:(swp ns).length<64:=by unfold swp;rw[wab];have:=h.l1;omega
 have hlen:∀ x∈swp ns,x.2.length<100:=fun x hx=>by
  obtain⟨z,hz,rfl⟩:=wai.mp hx;obtain⟨j,_,hj⟩:=h.hk z hz;show z.1.length<100;rw[hj];unfold qax;split
  · show 5<100;decide
  · split
    · show 5<100;decide
    · show 5<100;decide
 rw[qm9,qcn,qvq];unfold qdF at hq ⊢;walk_at "ev";rw[h.hg];walk_at "ev";refine qqs h.hg h.ht h.h3 hsl hlen (by rw[qgV h.nd2];exact qoi) ?_
 rw[qgV h.nd2];refine qo5 (ns:=ns.map (·.2)) hp (by unfold eH swp enc;rw[wah,wah,wah];rfl) (by rw[wab];have:=h.l1;omega) fun ns' h1 h2=>?_
 walk_at "ev";have hl':ns'.length<=63:=by rw[h1.length_eq,wab];have:=h.l1;omega
 have hval:∀ m∈ns',∃ κ,lk (swp ns) m=some κ/\κ.length<100:=fun m hm=>by
  have:=h1.mem_iff.mp hm;rw[<-qcr]at this;obtain⟨x,hx,rfl⟩:=wai.mp this;exact⟨x.2,qeX (by rw[qcr];exact h.nd2) hx,hlen x hx⟩
 refine⟨by rw[wab];exact waJ hl' (by decide),qbq (bd:=qhF false 1) (fun _=>true) (qt9 ns) qa3 _ _ (fun x hx=>?_) ?_⟩
 · obtain⟨m,hm,rfl⟩:=wai.mp hx
   obtain⟨κ,e1,e2⟩:=hval m hm;refine⟨_,rfl,fun K hK=>hK,fun _ K hK=>?_⟩
   walk_at "ev";rw[hp,quH,e1];have hK:K (qaD (qbw ns m)) M:=hK;unfold qbw at hK;rw[e1]at hK;show opR .Add (.tup [.int m]) (.tup (κ.map oR)) M K;rw[qgR];exact⟨wal (show 1+(κ.map oR).length<=200 by rw[wab];omega) (by decide),hK⟩
 · rw[waD,waY.mpr (fun _ _=>rfl),qju,ql1,qir h1 h2]
   dsimp only[id];rw[qoP];walk_at "ev";exact hq
theorem f_7{f:Fm}:rIx f.r (.int 7) M Q=Q f.times M:=xi_tup.trans (by rw[qAV];rfl)
theorem t_0{f:Fm}:rIx f.times (.int 0) M Q=Q (.int f.t0) M:=xi_tup.trans (by rw[qvL];rfl)
noncomputable def qdm (f:Fm)(x:Tk):TK:=[some (.inr "note"),some (.inl x.m),some (.inl x.i.house),some (.inl x.i.door),some (.inl x.i.place),some (.inl x.i.far),some (.inr "note"),some (.inl f.t0)]
theorem quN{x:Tk}(h:x.i.kind= "note"):qdm f x=qbh f x:=by unfold qdm qbh;rw[h,Int.zero_add]
noncomputable def quO (f:Fm)(tl:List Tk):RV->RV:=fun y=>match qco y with
 |some κ=>match tl.find? fun x=>decide (x.i.k=κ)with
  |some x=>qaD (qdm f x)
  |none=>.non
 |none=>.non
theorem qmL(nd:(tl.map fun x=>x.i.k).Nodup){x:Tk}(hx:x∈tl):quO f tl (qaD x.i.k)=qaD (qdm f x):=by
 unfold quO;rw[qar];dsimp only;have:tl.find? (fun y=>decide (y.i.k=x.i.k))=some x:=by
  induction tl with
  |nil=>cases hx
  |cons y tl ih=>
   rw[wad,waC]at nd;rw[List.find?_cons];rcases was.mp hx with rfl|hx
   · simp
   · have:decide (y.i.k=x.i.k)=false:=by
      rw[decide_eq_false_iff_not];exact fun z=>nd.1 (by rw[z];exact wai.mpr ⟨x,hx,rfl⟩)
     rw[this];exact ih nd.2 hx
 rw[this]
theorem qwP{p:Addr}(h:GG e M f A ns mark tl lb ds k)(hk:k<=63)(l2:M A.eL=some (.dt (eN (tlN tl))))
 (hq:(tr ((P e).Gn n) qoY).S D (qdF sc bg f.r c3 c4 c5 c6 (.ref A.g) (.ref A.nL) (.ref A.eL) mk ce kk hd hl (some (.ls ((tl.map (qdm f)).map qaD))) inn fo nb) M):
 (tr ((P e).Gn n) qoZ).S D (qdF sc bg f.r c3 c4 c5 c6 (.ref A.g) (.ref A.nL) (.ref A.eL) mk ce kk hd hl du inn fo nb) M:=by
 have k7:∀ {M:RM} {Q:RVK},rIx f.r (.int 7) M Q=Q f.times M:=f_7;have k0:∀ {M:RM} {Q:RVK},rIx f.times (.int 0) M Q=Q (.int f.t0) M:=t_0;rw[qoZ,qcn,qvp,qse,qsc,qxD];unfold qdF at hq ⊢;walk_at "ev";rw[qmb l2,qo6];have e0:((tlN tl).map fun x=>qaD x.1)=tl.map fun x=>qaD x.i.k:=by unfold tlN;rw[wah];rfl
 rw[e0];refine⟨by rw[wab];exact waJ (wal h.l2 hk) (by decide),qbq (bd:=qhF false 1) (fun _=>true) (quO f tl) qad _ _ (fun y hy=>?_) ?_⟩
 · obtain⟨x,hx,rfl⟩:=wai.mp hy
   refine⟨_,rfl,fun K hK=>hK,fun _ K hK=>?_⟩
   have hK:K (quO f tl (qaD x.i.k)) (put M A.eL (.ft (eN (tlN tl)))):=hK;rw[qmL h.nd3 hx]at hK;have e1:lk (tlN tl) x.i.k=some x.m:=qeX (l:=tlN tl) (x:=(x.i.k,x.m)) (by rw[qdN];exact h.nd3) (wai.mpr ⟨x,hx,rfl⟩)
   walk_at "ev";rw[qrz (qar _),qfM,e1];rw[Option.map_some,qhK];show qnQ (.tup [.str x.i.kind,.int x.i.house,.int x.i.door,.int x.i.place,.int x.i.far]) (some 1) none _ _;rw[qpP,qxZ,qgR];refine⟨by show 6<=sizeLine;decide,?_⟩
   rw[k7,k0,List.cons_append,List.cons_append,waD,qgR];exact⟨by show 8<=sizeLine;decide,hK⟩
 · rw[waD,waY.mpr (fun _ _=>rfl),qju,qav,qbe l2]
   rw[show(tl.map fun x=>qaD x.i.k).map (quO f tl)=(tl.map (qdm f)).map qaD by
    rw[wah,wah];exact waE fun x hx=>qmL h.nd3 hx]
   exact hq
theorem qnx{a a' b b' c c' d d':RV}(h:qan e a b c d=qan e a' b' c' d'):a=a'/\b=b':=by
 unfold qan at h;injection h with _ h
 simp only[List.cons.injEq,Prod.mk.injEq,true_and]at h;exact⟨h.1,h.2.1⟩
theorem Inn.r_inj{i j:Inn}(h:i.r=j.r):i=j:=by
 cases i;cases j;unfold Inn.r at h;cases h;rfl
def rowAt(f:Fm)(tl:List Tk)(a:Addr):TK:=match tl.find? fun x=>decide (x.a=a)with
 |some x=>qbh f x
 |none=>[]
theorem qi8(h:GG e M f A ns mark tl lb ds k){x:Tk}(hx:x∈tl):rowAt f tl x.a=qbh f x:=by
 unfold rowAt;cases ef:tl.find? fun y=>decide (y.a=x.a)with
 |none=>
  rw[List.find?_eq_none]at ef;exact(ef x hx (by simp)).elim
 |some y=>
  have hy:=List.mem_of_find?_eq_some ef;have ha:y.a=x.a:=by simpa using List.find?_some (p:=fun y:Tk=>decide (y.a=x.a)) ef
  have t1:=(h.ts y hy).1;rw[ha,(h.ts x hx).1]at t1;injection t1 with t1
  obtain⟨e1,e2⟩:=qnx t1;have e1:=Inn.r_inj e1;injection e2 with e2
  show qbh f y=qbh f x;unfold qbh;rw[e1,e2]
theorem qub{p:Addr}{kvs:List (Key×RV)}(h:M p=some (.dk kvs))(hq:Q (.int kvs.length) M):bfR "len" [.ref p] M Q:=by
 show qlu [.ref p] M Q;unfold qlu;simp only[h];exact hq
theorem qwO{p:Addr}(okf:f.Ok)(hw:f.high=f.low+199)(h:GG e M f A ns mark tl lb ds k)(hk:k<=63)(hp:M p=some (.dk (eH (swp ns))))
 (hq:D.rt (.bl true) M):
 (tr ((P e).Gn (n+4)) qoY).S D (qdF sc bg f.r c3 c4 c5 c6 (.ref A.g) (.ref A.nL) (.ref A.eL) mk ce kk (some (.ref p)) hl (some (.ls ((tl.map (qdm f)).map qaD))) inn fo nb) M:=by
 have okp:(qal f mark ns).Ok:=⟨okf.lo,h.mr.1,h.mr.2,okf.hi,okf.wide⟩;have e1:tl.map (qdm f)=tl.map (qbh f):=waE fun x hx=>quN (h.ts x hx).2.2
 have e2:((tlA tl).map fun x=>rowAt f tl x.2)=tl.map (qbh f):=by
  unfold tlA;rw[wah];exact waE fun x hx=>qi8 h hx
 rw[qoY,qcn,qvo];unfold qdF;walk_at "ev";rw[h.hg];walk_at "ev";refine qqq (row:=rowAt f tl) h.hg h.ht h.h1 (by unfold tlA;rw[wab];have:=h.l2;omega) (fun y hy=>?_) (by rw[e2];exact qi1) ?_
 · obtain⟨x,hx,rfl⟩:=wai.mp hy
   exact⟨x.i,x.m,0+f.t0,"note",(h.ts x hx).1,qi8 h hx⟩
 rw[e2,e1,qkU];refine qem (by rw[wab];have:=h.l2;omega) qi1 ?_
 rw[qjz];walk_at "ev";rw[h.hg];walk_at "ev";refine qtf (n:=n) okp h.hg h.ht h.hp ?_;refine qub hp ?_;have e3:((eH (swp ns)).length:Int)=ns.length:=by unfold eH swp;rw[qa2,wab]
 have e4:=qlX (mark:=mark) (m:=0) h.nd2 h.rg;walk_at "ev";rw[if_pos (by rw[e3];simp only[beq_iff_eq];omega),h.hg]
 walk_at "ev";refine qqr (n:=n) h.hg h.ht h.hp rfl ?_;have c0:=qjz (M:=M) (Q:=D.rt) (rows:=[]);show cmR .Eq (.ls (([]:List TK).map qaD)) (.ls (([]:List TK).map qaD)) M D.rt;rw[c0];exact hq
end
section
variable {e:Env}{n:Nat}{M:RM}{Q:RVK}{D:RD}{f:Fm}{A:GA}{ns:List (TK×Int)}{mark:Int}{tl:List Tk}{lb:List (Int×Addr)}{ds:List RV}{k:Nat}{sc bg:RV}{hs os ps fs:List RV}{cs:List Int}{kk hd hl du inn fo nb:Option RV}
theorem qs8(okf:f.Ok)(hw:f.high=f.low+199)(h:GG e M f A ns mark tl lb ds k)(hk:k<=63)(l1:M A.nL=some (.dt (eN ns)))(l2:M A.eL=some (.dt (eN (tlN tl))))(hq:∀ M',D.rt (.bl true) M'){c3 c4 c5 c6 mk ce:RV}:
 (tr ((P e).Gn (n+4)) qo0).S D (qdF sc bg f.r c3 c4 c5 c6 (.ref A.g) (.ref A.nL) (.ref A.eL) mk ce kk hd hl du inn fo nb) M:=by
 rw[qo0,qcn,qvs];unfold qdF;walk_at "ev";intro p hp;have q1:∀ a o,M a=some o->put M p (.dk []) a=some o:=fun a o ha=>by rw[qaa (qas hp ha)];exact ha
 refine qlp (n:=n+4) (hl:=hl) qad (q1 _ _ l1) h.nd1 h.nd2 (by have:=h.l1;omega) fun hl'=>?_
 rw[qav];have q2:∀ a o,M a=some o->put M p (.dk (eH (swp ns))) a=some o:=fun a o ha=>by rw[qaa (qas hp ha)];exact ha
 have g2:GG e (put M p (.dk (eH (swp ns)))) f A ns mark tl lb ds k:=h.frame l1 l2 fun a o ha _ _=>q2 a o ha
 refine qwQ (n:=n+3) g2 hk qad ?_;refine qwP (p:=p) g2 hk (q2 _ _ l2) ?_;exact qwO okf hw g2 hk qad (hq _)
theorem qj5{N:Nat}:nums N=(List.range' 0 N).map fun(i:Nat)=>RV.int (i:Int):=by unfold nums;rw[List.range_eq_range']
theorem qta(tb:Tb e)(okf:f.Ok)(hw:f.high=f.low+199)(hmost:f.most=200)(h:GG e M f A ns mark tl lb ds 0)(l1:M A.nL=some (.dt (eN ns)))(l2:M A.eL=some (.dt (eN (tlN tl))))(hne:A.nL≠A.eL)
 (o1:Lt hs 0 99) (o2:Lt os 1 9999) (o3:Lt ps 1 1000000) (o4:Lt fs 1 9999) (hc:0<cs.length) (hc2:cs.length<=63) (hq:∀ M',Q (.bl true) M'):
 (tr ((P e).Gn (n+10)) qr8).S (rd Q) (qdF sc bg f.r (.ls hs) (.ls os) (.ls ps) (.ls fs) (.ref A.g) (.ref A.nL) (.ref A.eL) (.int mark) (.ls (cs.map RV.int)) none none none none none none none) M:=by
 rw[qr8,qcn,qvt,qsO];generalize hE:({ nx:=_,rt:=_,bk:=_,ct:=_ }:RD)=D';have hnx:D'.nx=(tr ((P e).Gn (n+10)) qo0).S (rd Q):=by rw[<-hE]
 unfold qdF;walk_at "ev";rw[wab];obtain⟨N,hN,hN2⟩:∃ N:Nat,(if(cs.length:Int) > 12 then(cs.length:Int)else 12)=N/\N<=63:=by
  by_cases z:(cs.length:Int) > 12
  · exact⟨cs.length,by rw[if_pos z],hc2⟩
  · exact⟨12,by rw[if_neg z];rfl,by decide⟩
 rw[hN];refine⟨by omega,by omega,?_⟩
 rw[show(N:Int).toNat=N from waQ N,qj5]
 refine qmH (fun xs σ M'=>∃ (k:Nat) (ns:List (TK×Int)) (mark:Int) (tl:List Tk) (lb:List (Int×Addr)) (ds:List RV) (kk hl inn fo nb:Option RV),k<=N/\xs=(List.range' k (N-k)).map (fun(i:Nat)=>RV.int (i:Int))/\
  σ=qdF sc bg f.r (.ls hs) (.ls os) (.ls ps) (.ls fs) (.ref A.g) (.ref A.nL) (.ref A.eL) (.int mark) (.ls (cs.map RV.int)) kk none hl none inn fo nb/\GG e M' f A ns mark tl lb ds k/\M' A.nL=some (.dt (eN ns))/\M' A.eL=some (.dt (eN (tlN tl))))
  (fun _ _ _ _=>qa3) (fun σ M' hI=>?_) (fun x xs σ M' W hI hW=>?_) _ _ _ ⟨0,ns,mark,tl,lb,ds,none,none,none,none,none,by omega,rfl,rfl,h,l1,l2⟩
 · obtain⟨k,ns,mark,tl,lb,ds,kk,hl,inn,fo,nb,k1,k2,rfl,g,m1,m2⟩:=hI
   rw[hnx];exact qs8 (n:=n+6) okf hw g (by omega) m1 m2 (fun M'=>hq M')
 · obtain⟨k,ns,mark,tl,lb,ds,kk,hl,inn,fo,nb,k1,k2,rfl,g,m1,m2⟩:=hI
   have hkN:k<N:=by
    rcases Nat.lt_or_ge k N with z|z
    · exact z
    · rw[Nat.sub_eq_zero_of_le z]at k2;cases k2
   obtain⟨j,hj⟩:∃ j,N-k=j+1:=⟨N-k-1,by omega⟩
   rw[hj,List.range'_succ,wad]at k2;injection k2 with k2 k3
   rw[k2];unfold rgN qdF;dsimp only[List.set_cons_zero,List.set_cons_succ];refine qs6 (n:=n) tb okf hw hmost g (by omega) m1 m2 hne o1 o2 o3 o4 hc (by omega) fun M2 ns' mark' tl' lb' ds' hl' inn' fo' nb' g' a1 a2=>?_
   refine hW _ _ ⟨k+1,ns',mark',tl',lb',ds',_,hl',inn',fo',nb',hkN,?_,rfl,g',a1,a2⟩;rw[k3,show N-(k+1)=j by omega]
end
section
variable {e:Env}{n:Nat}{M:RM}{Q:RVK}{D:RD}{f:Fm}
theorem qrP{Γ:G}{te:RTE}{base:List (Option RV)}{p:Addr}{lo hi k:Int}{g:Bag}(ok:g.In k)(hk:k<900000)
 (hs:∀ (x:RV) (g:Bag) (k:Int) (K:RVK),g.In k->k<999000->(∀ i g',lo<=i->i<=hi->Bag.In g' (k+1)->K (.int i) (put M p g'.l))->te (some x::base) (put M p g.l) K)
 (hq:∀ xs g',Lt xs lo hi->Bag.In g' (k+3)->Q (.ls xs) (put M p g'.l)):qaR (qhF false 1) false okT id (tr Γ (.b true)).T te base (nums 3) [] (put M p g.l) Q:=by
 refine⟨trivial,⟨fun _=>hs _ g k _ ok (by omega) fun i1 g1 a1 b1 ok1=>?_,fun z=>by cases z⟩⟩
 refine⟨trivial,⟨fun _=>hs _ g1 _ _ ok1 (by omega) fun i2 g2 a2 b2 ok2=>?_,fun z=>by cases z⟩⟩
 refine⟨trivial,⟨fun _=>hs _ g2 _ _ ok2 (by omega) fun i3 g3 a3 b3 ok3=>?_,fun z=>by cases z⟩⟩
 refine⟨trivial,hq [.int i1,.int i2,.int i3] g3 ⟨rfl,fun x hx=>?_⟩ (by rw[show k+3=k+1+1+1 by omega];exact ok3)⟩
 simp only[was,wa0,or_false]at hx;rcases hx with rfl|rfl|rfl
 · exact⟨_,rfl,a1,b1⟩
 · exact⟨_,rfl,a2,b2⟩
 · exact⟨_,rfl,a3,b3⟩
theorem qoL{xs:List Int}:∃ ys:List Int,qhv (xs.map RV.int) (some 1) (some 63)=ys.map RV.int/\ys.length<=62:=by
 unfold qhv;rw[wab];generalize h1:HT.sIx xs.length 0 (some 1)=a;generalize h2:HT.sIx xs.length xs.length (some 63)=b;have e1:a=min 1 xs.length:=by rw[<-h1];exact HT.sIx_nat _ _ 1
 have e2:b=min 63 xs.length:=by rw[<-h2];exact HT.sIx_nat _ _ 63
 refine⟨(xs.drop a).take (b-a),by rw[List.map_take,List.map_drop],?_⟩
 rw[List.length_take];omega
theorem qAg{a b c:Str}{v:Int}(h0:0<=v)(h1:v<3):∃ y:Str,(y=a∨y=b∨y=c)/\∀ {M:RM} {Q:RVK},rIx (.ls [.str a,.str b,.str c]) (.int v) M Q=Q (.str y) M:=by
 obtain⟨y,hy,ey⟩:=qrj (xs:=[.str a,.str b,.str c]) h0 h1;simp only[was,wa0,or_false]at hy;rcases hy with rfl|rfl|rfl
 · exact⟨a,.inl rfl,ey⟩
 · exact⟨b,.inr (.inl rfl),ey⟩
 · exact⟨c,.inr (.inr rfl),ey⟩
theorem qwS(tb:Tb e){xs:List Int}(hq:∀ M',Q (.bl true) M'):sem (P e) (n+11) 21 [.ls (xs.map RV.int)] M Q:=by
 rw[qvW,qD8,qBr,qcn,qBh];walk_at "ev";have c0:∀ {M:RM} {Q:RVK},sem (P e) (n+10) 39 [.ls (xs.map RV.int),.int 0] M Q=Q (.int (xs.getD 0 0)) M:=qkv (n:=n+9) (k:=0);rw[c0];refine qlk (n:=n+9) fun p hp=>?_
 generalize hg:qjE _ 0=g0;have ok0:g0.In 0:=hg ▸ qhH;rw[qBq,qcn,qBg];walk_at "ev";refine qaV (n:=n+9) qad ok0 (by decide) (by decide) (by decide) fun v1 g1 a1 b1 ok1=>?_
 obtain⟨le,hle,ele⟩:=qAg (a:="door") (b:="place") (c:="talk") a1 b1;rw[ele,qav];refine qaV (n:=n+9) qad ok1 (by decide) (by decide) (by decide) fun v2 g2 a2 b2 ok2=>?_
 obtain⟨si,hsi,esi⟩:=qAg (a:="all") (b:="place") (c:="talk") a2 b2;rw[esi,qav];refine qs5 (n:=n+8) qad ok2 (by decide) hle hsi fun f g3 okf hw hmost ok3=>?_
 rw[qav,qBp,qcn,qBf,qse,qsc];dsimp only[List.set_cons_zero,List.set_cons_succ];walk_at "ev";refine⟨by decide,by decide,by show 3<sizeLine;decide,qrP (lo:=0) (hi:=99) ok3 (by decide) (fun x g k K okg hk hK=>?_) fun hs g4 o1 ok4=>?_⟩
 · walk_at "ev"
   refine qaV (n:=n+9) qad okg (by omega) (by decide) (by decide) fun v g' a b ok=>?_
   rw[qav];exact hK v g' a (by omega) ok
 have k0:∀ {M:RM} {Q:RVK},rIx f.r (.int 0) M Q=Q (.int f.low) M:=f_0;rw[qBo,qcn,qBe];walk_at "ev";rw[k0];refine qaV (n:=n+9) qad ok4 (by decide) (by decide) (by decide) fun w1 g5 c1 d1 ok5=>?_
 rw[qav,qin];refine qaV (n:=n+9) qad ok5 (by decide) (by decide) (by decide) fun w2 g6 c2 d2 ok6=>?_
 rw[qav,qin,k0];refine qaV (n:=n+9) qad ok6 (by decide) (by decide) (by decide) fun w3 g7 c3 d3 ok7=>?_
 rw[qav,qin];have lo:=okf.lo;have hi:=okf.hi;have o2:Lt [.int (f.low+w1),.int (1+w2),.int (f.low+w3)] 1 9999:=⟨rfl,fun x hx=>by
  simp only[was,wa0,or_false]at hx;rcases hx with rfl|rfl|rfl
  · exact⟨_,rfl,by omega,by omega⟩
  · exact⟨_,rfl,by omega,by omega⟩
  · exact⟨_,rfl,by omega,by omega⟩⟩
 generalize hos:[RV.int (f.low+w1),.int (1+w2),.int (f.low+w3)]=os at o2 ⊢;rw[qBn,qcn,qBd,qse,qsc];walk_at "ev";refine⟨by decide,by decide,by show 3<sizeLine;decide,qrP (lo:=1) (hi:=1000000) ok7 (by decide) (fun x g k K okg hk hK=>?_) fun ps g8 o3 ok8=>?_⟩
 · walk_at "ev"
   refine qaV (n:=n+9) qad okg (by omega) (by decide) (by decide) fun v g' a b ok=>?_
   rw[qav];exact hK (1+v) g' (by omega) (by omega) ok
 rw[qBm,qcn,qBc,qse,qsc];walk_at "ev";refine⟨by decide,by decide,by show 3<sizeLine;decide,qrP (lo:=1) (hi:=9999) ok8 (by decide) (fun x g k K okg hk hK=>?_) fun fs g9 o4 ok9=>?_⟩
 · walk_at "ev"
   refine qaV (n:=n+9) qad okg (by omega) (by decide) (by decide) fun v g' a b ok=>?_
   rw[qav];exact hK (1+v) g' (by omega) (by omega) ok
 generalize put M p g9.l=M1;rw[qBl,qcn,qBb];walk_at "ev";intro g hg;refine qie (n:=n+3) okf hg fun t st dn pl ta un bi bn ho nu M2 m1 m2 m3 m4 m5 m6 m7 m8 n1 n2 n3 n4 n5 n6 n7 _ _=>⟨rfl,?_⟩
 rw[qBk,qcn,qBa];walk_at "ev";intro nL hnL;rw[qBj,qcn,qA9];walk_at "ev";intro eL heL;obtain⟨heL1,hne⟩:=qac heL;rw[qBi,qcn,qA8];walk_at "ev";rw[k0,qvv,qcn,qvu];walk_at "ev";obtain⟨ys,ey,hy⟩:=qoL (xs:=xs);rw[ey];refine⟨by rw[wab];exact wal (show ys.length+1<=63 by omega) (by decide),?_⟩
 have e0:ys.map RV.int++ [RV.int 0]=(ys++ [0]).map RV.int:=by rw[wau];rfl
 rw[e0];generalize hM3:put (put M2 nL _) eL _=M3;have fr:∀ a o,M2 a=some o->M3 a=some o:=fun a o ha=>by rw[<-hM3,qaa (qas heL1 ha),qaa (qas hnL ha)];exact ha
 refine qta (n:=n) (A:=⟨g,t,st,dn,pl,ta,un,bi,bn,ho,nu,nL,eL⟩) (ns:=[]) (tl:=[]) (lb:=[]) (ds:=[]) tb okf hw hmost ?_ (by rw[<-hM3];show put _ eL _ nL=_;rw[qaa hne.symm,qad];rfl) (by rw[<-hM3];show put _ eL _ eL=_;rw[qad];rfl) hne.symm o1 o2 o3 o4 (by simp) (by rw[wao];exact waO hy 1) hq
 exact {
  hg:=fr _ _ m1
  ht:=fr _ _ m2
  hp:=⟨fr _ _ m3.o,fr _ _ m3.t,fr _ _ m3.u⟩
  h1:=fr _ _ m4
  h2:=fr _ _ m5
  h3:=fr _ _ m6
  h4:=fr _ _ m7
  hd:=fr _ _ m8
  ts:=fun x hx=>by cases hx
  bs:=fun x hx=>by cases hx
  nn:=⟨n1,n2,n3,n4,n5,n6.symm,n7.symm⟩
  na:=⟨qas hnL m4,qas heL1 m4,qas hnL m7,qas heL1 m7⟩
  kb:=rfl
  nd1:=wa3
  nd2:=wa3
  nd3:=wa3
  rg:=fun x hx=>by cases hx
  hk:=fun x hx=>by cases hx
  mr:=⟨Int.le_refl _,okf.le⟩
  l1:=wac _
  l2:=wac _
  l3:=wac _ }
end
def Cx:Nat->Addr:=fun i=>([338,411,432,552,765]:List Addr).getD i 0
def ql8:List (Str×Addr):=[("out",113),("come",120),("lost",127),("wait",134),("rule",141),("unrule",148)]
def qhe:List (Str×Int):=[("note",0),("asked",1),("called",1),("up",2),("near",2),("far",2)]
def eE:Env:=⟨fun x=>if x= "DEEDS" then kvA ql8 else if x= "TIME_AT" then kvI qhe else [],Cx,[(113,7)]⟩
noncomputable def G0:List (FD×FA):=[(qb4,⟨"is_whole","is_whole",qjQ,31,30,H06.pm1⟩),(qb7,⟨"is_house","is_house",qjT,45,44,H06.pm1⟩),(qcN,⟨"is_door","is_door",qk8,52,51,H06.pm1⟩),(qb6,⟨"is_place","is_place",qjS,59,58,H06.pm1⟩),(qcL,⟨"is_kind","is_kind",qk6,80,79,H06.pm1⟩),(qcI,⟨"is_sign","is_sign",qk4,94,93,H06.pm1⟩),(qcH,⟨"is_text","is_text",qk3,99,98,.str "lentgate.ends" 194⟩),(qcK,⟨"is_out","is_out",qnF,113,112,H06.pm1⟩),(qcF,⟨"name_of","name_of",qk1,156,155,H06.pm1⟩),(qcO,⟨"is_deed","is_deed",qk9,163,162,H06.pm1⟩),(qb5,⟨"is_times","is_times",qjR,228,227,.str "lentgate.forms" 475⟩),(qcM,⟨"is_form","is_form",qk7,235,234,H06.pm2⟩)]
noncomputable def G1:List (FD×FA):=[(qa9,⟨"__init__","Rules.__init__",qgq,300,299,H06.pm4⟩),(qaH,⟨"from_mark","Pool.from_mark",qdw,377,376,H06.pm5⟩),(qaN,⟨"living","Talks.living",qeK,476,475,H06.pm6⟩),(qb3,⟨"talk_row","talk_row",qjP,563,562,H06.pm7⟩),(qbo,⟨"free","Gate.free",qh4,640,639,H06.pm7⟩),(qbc,⟨"lends","Gate.lends",qgt,645,644,.str "lentgate.gate" 1101⟩),(qba,⟨"talks","Gate.talks",qgr,650,649,.str "lentgate.gate" 1101⟩),(qbb,⟨"rests","Gate.rests",qgs,657,656,H06.pm7⟩),(qbu,⟨"_law_whole","_law_whole",qgl,797,796,H06.pm8⟩),(f_law,⟨"law","law",qsN,835,834,.str "law_lentgate_k06_first_letters_out" 1436⟩)]
noncomputable def G2:List (FD×FA):=[(qcG,⟨"is_word","is_word",qk2,87,86,H06.pm1⟩),(qcJ,⟨"is_pool","is_pool",qk5,223,222,H06.pm2⟩),(qbL,⟨"holder_of","holder_of",qhU,242,241,H06.pm2⟩),(qcE,⟨"time_of","time_of",qk0,249,248,H06.pm2⟩),(qbs,⟨"note_state","note_state",qgj,272,271,H06.pm3⟩),(qbB,⟨"has","Pool.has",qjU,363,362,H06.pm5⟩),(qbk,⟨"take","Pool.take",qh0,391,390,H06.pm5⟩),(qaO,⟨"resting","Pool.resting",qeL,403,402,.str "lentgate.pool" 794⟩),(qaG,⟨"many_free","Pool.many_free",qdv,408,407,.str "lentgate.pool" 794⟩),(qa7,⟨"__init__","Talks.__init__",qgo,450,449,H06.pm6⟩),(qaF,⟨"of_inner","Talks.of_inner",qdu,457,456,H06.pm6⟩),(qaz,⟨"number_of","Talks.number_of",qcW,490,489,H06.pm6⟩)]
noncomputable def G3:List (FD×FA):=[(qa8,⟨"held","Talks.held",qgp,502,501,.str "lentgate.talks" 894⟩),(qbn,⟨"__init__","Gate.__init__",qh3,577,576,H06.pm7⟩),(qbp,⟨"deed","Gate.deed",qh5,584,583,H06.pm7⟩),(qbm,⟨"sent","Gate.sent",qh2,685,684,H06.pm7⟩),(qaA,⟨"picked_for","Gate.picked_for",qcX,706,705,H06.pm7⟩),(qbO,⟨"_law_cell","_law_cell",qhY,776,775,H06.pm8⟩),(qbN,⟨"_law_well","_law_well",qhW,783,782,H06.pm8⟩),(qa1,⟨"_law_take","_law_take",qhX,790,789,H06.pm8⟩),(qbg,⟨"_law_bag_at","_law_bag_at",qfr,811,810,H06.pm8⟩),(qaQ,⟨"_law_holder_of","_law_holder_of",qdt,818,817,H06.pm8⟩),(qaY,⟨"_law_an_inner","_law_an_inner",qdZ,830,829,H06.pm8⟩)]
noncomputable def G4:List (FD×FA):=[(qaL,⟨"is_whole_within","is_whole_within",qcU,38,37,H06.pm1⟩),(qbK,⟨"is_letter","is_letter",qhT,106,105,H06.pm1⟩),(qbl,⟨"__init__","Pool.__init__",qh1,356,355,H06.pm5⟩),(qaP,⟨"is_free","Pool.is_free",qeM,370,369,H06.pm5⟩),(qa5,⟨"lend","Talks.lend",qgm,516,515,H06.pm6⟩),(qa6,⟨"lead","Talks.lead",qgn,537,536,H06.pm6⟩),(qaJ,⟨"answered","Gate.answered",qd1,678,677,H06.pm7⟩),(qaw,⟨"lead_out","Gate.lead_out",qd0,692,691,H06.pm7⟩),(qaq,⟨"begin_out","Gate.begin_out",qdx,699,698,H06.pm7⟩),(qbM,⟨"_law_wide","_law_wide",qhV,804,803,H06.pm8⟩)]
noncomputable def G5:List (FD×FA):=[(qbt,⟨"next_state","next_state",qgk,286,285,H06.pm3⟩),(qaZ,⟨"picked","Pool.picked",qft,384,383,H06.pm5⟩),(qaC,⟨"begin","Talks.begin",qfs,530,529,H06.pm6⟩),(qaM,⟨"_law_number_for","_law_number_for",qcV,823,822,.str "law_lentgate_k06_first_letters_out" 1436⟩)]
noncomputable def G6:List (FD×FA):=[(qbj,⟨"__init__","Talk.__init__",qhZ,429,428,H06.pm6⟩)]
noncomputable def G7:List (FD×FA):=[(qbC,⟨"out","Gate.out",qjV,591,590,H06.pm7⟩)]
section
variable(Pm:Params)
theorem b0:qou (H06.K Pm) S Cx 1 G0=true:=by kernel_rfl
theorem l0:G0.map (fun x=>(H06.K Pm).lookup x.2.g)=G0.map fun x=>some x.2.fn:=by kernel_rfl
theorem u0:∀ us:List Value,us.length=1->G0.map (fun x=>bindArgs (fdOf x.2) ⟨us,[]⟩)=G0.map fun x=>pure (x.1.ps.zip us):=fun us hl=>match us,hl with| [u0],_=>by kernel_rfl
theorem b1:qou (H06.K Pm) S Cx 1 G1=true:=by kernel_rfl
theorem l1:G1.map (fun x=>(H06.K Pm).lookup x.2.g)=G1.map fun x=>some x.2.fn:=by kernel_rfl
theorem u1:∀ us:List Value,us.length=1->G1.map (fun x=>bindArgs (fdOf x.2) ⟨us,[]⟩)=G1.map fun x=>pure (x.1.ps.zip us):=fun us hl=>match us,hl with| [u0],_=>by kernel_rfl
theorem b2:qou (H06.K Pm) S Cx 2 G2=true:=by kernel_rfl
theorem l2:G2.map (fun x=>(H06.K Pm).lookup x.2.g)=G2.map fun x=>some x.2.fn:=by kernel_rfl
theorem u2:∀ us:List Value,us.length=2->G2.map (fun x=>bindArgs (fdOf x.2) ⟨us,[]⟩)=G2.map fun x=>pure (x.1.ps.zip us):=fun us hl=>match us,hl with| [u0,u1],_=>by kernel_rfl
theorem b3:qou (H06.K Pm) S Cx 2 G3=true:=by kernel_rfl
theorem l3:G3.map (fun x=>(H06.K Pm).lookup x.2.g)=G3.map fun x=>some x.2.fn:=by kernel_rfl
theorem u3:∀ us:List Value,us.length=2->G3.map (fun x=>bindArgs (fdOf x.2) ⟨us,[]⟩)=G3.map fun x=>pure (x.1.ps.zip us):=fun us hl=>match us,hl with| [u0,u1],_=>by kernel_rfl
theorem b4:qou (H06.K Pm) S Cx 3 G4=true:=by kernel_rfl
theorem l4:G4.map (fun x=>(H06.K Pm).lookup x.2.g)=G4.map fun x=>some x.2.fn:=by kernel_rfl
theorem u4:∀ us:List Value,us.length=3->G4.map (fun x=>bindArgs (fdOf x.2) ⟨us,[]⟩)=G4.map fun x=>pure (x.1.ps.zip us):=fun us hl=>match us,hl with| [u0,u1,u2],_=>by kernel_rfl
theorem b5:qou (H06.K Pm) S Cx 4 G5=true:=by kernel_rfl
theorem l5:G5.map (fun x=>(H06.K Pm).lookup x.2.g)=G5.map fun x=>some x.2.fn:=by kernel_rfl
theorem u5:∀ us:List Value,us.length=4->G5.map (fun x=>bindArgs (fdOf x.2) ⟨us,[]⟩)=G5.map fun x=>pure (x.1.ps.zip us):=fun us hl=>match us,hl with| [u0,u1,u2,u3],_=>by kernel_rfl
theorem b6:qou (H06.K Pm) S Cx 5 G6=true:=by kernel_rfl
theorem l6:G6.map (fun x=>(H06.K Pm).lookup x.2.g)=G6.map fun x=>some x.2.fn:=by kernel_rfl
theorem u6:∀ us:List Value,us.length=5->G6.map (fun x=>bindArgs (fdOf x.2) ⟨us,[]⟩)=G6.map fun x=>pure (x.1.ps.zip us):=fun us hl=>match us,hl with| [u0,u1,u2,u3,u4],_=>by kernel_rfl
theorem b7:qou (H06.K Pm) S Cx 8 G7=true:=by kernel_rfl
theorem l7:G7.map (fun x=>(H06.K Pm).lookup x.2.g)=G7.map fun x=>some x.2.fn:=by kernel_rfl
theorem u7:∀ us:List Value,us.length=8->G7.map (fun x=>bindArgs (fdOf x.2) ⟨us,[]⟩)=G7.map fun x=>pure (x.1.ps.zip us):=fun us hl=>match us,hl with| [u0,u1,u2,u3,u4,u5,u6,u7],_=>by kernel_rfl
theorem qDU:(S.bl.all fun x=>qsg (PySem.W.nsIn (H06.K Pm) mainGlobals x))=true:=by kernel_rfl
theorem qDR:(S.gi.all fun x=>qvK x.2 (PySem.W.nsIn (H06.K Pm) mainGlobals x.1))=true:=by kernel_rfl
theorem qDQ:(S.gt.all fun x=>qvw (H06.K Pm) x.2 (PySem.W.nsIn (H06.K Pm) mainGlobals x.1))=true:=by kernel_rfl
theorem qDT:(S.cl.zipIdx.all fun x=>qrQ (H06.K Pm) (Cx x.2)&&qpD (Cx x.2) (PySem.W.nsIn (H06.K Pm) mainGlobals x.1))=true:=by kernel_rfl
theorem qDS:(S.fs.all fun x=>qrQ (H06.K Pm) (Cx x.1)&&qsg (PySem.W.findIn (H06.K Pm) (.ref (Cx x.1)) x.2))=true:=by kernel_rfl
end
section
variable {w:World}{h:Heap}{mg:Str->Option Value}(X:(H06.K w.2).In h)(G:h.Ns mainGlobals mg)
include X G
theorem qAY:∀ x∈(G0++(G1++(G2++(G3++(G4++(G5++(G6++G7))))))),HdF (H06.K w.2) mg S Cx x.1 x.2.g (fdOf x.2):=(qce (grp X G (b0 _) (l0 _) u0) (qce (grp X G (b1 _) (l1 _) u1) (qce (grp X G (b2 _) (l2 _) u2) (qce (grp X G (b3 _) (l3 _) u3) (qce (grp X G (b4 _) (l4 _) u4) (qce (grp X G (b5 _) (l5 _) u5) (qce (grp X G (b6 _) (l6 _) u6) (grp X G (b7 _) (l7 _) u7))))))))
theorem qrB:∀ d∈S.fd,∃ g fd,HdF (H06.K w.2) mg S Cx d g fd:=quL (by rfl) (qAY X G)
theorem quE:Hd PySem.Challenge.pw_lentgate_k06_first_letters_out w (H06.K w.2) mg (P eE):=by
 refine qxJ X G (qDU _) (qDR _) (qDQ _) (qDT _) (qDS _) ?_ (fun x l hx=>by cases hx) (qrB X G) ?_
 · show ∀ x∈[("DEEDS":Str),("TIME_AT":Str)],_
   refine waG.mpr ⟨show KTab _ _ _ _ _ (kvA ql8)from qon (waW X G (n:="DEEDS") (v:=.ref 149) (by kernel_rfl)) (show(H06.K w.2).lookup 149=some (H06.v201 w.2) by kernel_rfl) (by decide) ⟨⟨_,rfl⟩,rfl,rfl,⟨_,rfl⟩,rfl,rfl,⟨_,rfl⟩,rfl,rfl,⟨_,rfl⟩,rfl,rfl,⟨_,rfl⟩,rfl,rfl,⟨_,rfl⟩,rfl,rfl,trivial⟩ (by decide+kernel),?_⟩
   refine waG.mpr ⟨show KTab _ _ _ _ _ (kvI qhe)from qom (waW X G (n:="TIME_AT") (v:=.ref 216) (by kernel_rfl)) (show(H06.K w.2).lookup 216=some (H06.v292 w.2) by kernel_rfl) (by decide) ⟨⟨_,rfl⟩,rfl,⟨_,rfl⟩,⟨_,rfl⟩,rfl,⟨_,rfl⟩,⟨_,rfl⟩,rfl,⟨_,rfl⟩,⟨_,rfl⟩,rfl,⟨_,rfl⟩,⟨_,rfl⟩,rfl,⟨_,rfl⟩,⟨_,rfl⟩,rfl,⟨_,rfl⟩,trivial⟩ (by decide+kernel),?_⟩
   exact wam _
 · show ∀ q∈[((113:Addr),(7:Nat))],_
   refine waG.mpr ⟨⟨qcK,rfl,rfl,by kernel_rfl⟩,?_⟩
   exact wam _
end
def aL:FA:=⟨"law","law",qsN,835,834,.str "law_lentgate_k06_first_letters_out" 1436⟩
theorem tbE:Tb eE:=⟨⟨_,by rfl,.head _⟩,by rfl⟩
theorem qok(ns:List Int):sem (P eE) 11 21 [.ls (ns.map RV.int)] (fun _=>none) (fun v _=>v= .bl true):=qwS tbE fun _=>rfl
theorem walk{l:PySem.W.OpenLaw}{q:Program}{loose:List Str}{XP:(Str->Option Value)->Heap->Prop}{YP:World->Heap->Prop}{d:DefRec}(hn:l.most=some 63)(hp:l.prog=PySem.Challenge.pw_lentgate_k06_first_letters_out)(hdn:d.name= "law")(hdf:d.params.defaults= [])
 (hY:∀ (w:World) (h:Heap),YP w h->(H06.K w.2).In h):PySem.W.WalkO q loose XP YP l.row.toRowW d [] (fun f vs=>PySem.call f vs):=by
 refine L2.walk_of (n:=63) (k:=11+1) (x:="script") (K:=H06.K) (CX:=fun _=>CX0) (sp:=fun w=>qfl (H06.K w.2) (sem (P eE) 11 21)) hn (by decide) hdf ⟨rfl,by decide,by decide⟩ hY (fun w mg fa h X G hm=>?_) (fun _ _ a ns hl hO hS=>qud hO hS (qok ns)) fun _ _ _ _ _ z=>z
 have hl:=qAY X G (f_law,aL) (wax.mpr (.inr (wax.mpr (.inl (.tail _ (.tail _ (.tail _ (.tail _ (.tail _ (.tail _ (.tail _ (.tail _ (.tail _ (.head _))))))))))))));have hf:=hl.k0 rfl;rw[hdn]at hm;have:fa=aL.g:=by have:=hm.symm.trans hf;injection this with this;injection this
 subst this;rw[hp];exact⟨fdOf aL,fun s u=>.of_eq (by kernel_rfl),fun base _ _=>(lev (quE X G) 11 21 f_law aL.g (fdOf aL) rfl hl).1⟩
end K06
open PySem PySem.W PyProof.Rows
theorem K06.wa:looksOpen PySem.Challenge.pw_lentgate_k06_first_letters_out=true:=by kernel_rfl
theorem K06.wb:(PySem.Challenge.rw_lentgate_k06_first_letters_out).row.wellSaid=true:=by
 delta OpenRow.wellSaid OpenRow.partSaid
 rw[show looksOpen (PySem.Challenge.rw_lentgate_k06_first_letters_out).row.prog=true from K06.wa];kernel_rfl
theorem K06.ws:PySem.Challenge.rw_lentgate_k06_first_letters_out.wellSaid=true:=by
 delta OpenLaw.wellSaid
 rw[K06.wb];kernel_rfl
theorem PySem.Challenge.cw_lentgate_k06_first_letters_out_holds : PySem.Challenge.rw_lentgate_k06_first_letters_out.Holds := by
 w_on;refine PySem.W.holds_law K06.ws fun said=>?_
 refine PySem.W.holds_open (r:=(PySem.Challenge.rw_lentgate_k06_first_letters_out).row) (q:=H06.q) (loose:=H06.loose) (Xt:=H06.Xt) (XP:=PySem.W.XL H06.q [])
  (Yf:=(PySem.W.kHook H06.K H06.ks H06.ks_eq).obs) (Ya:=(PySem.W.kHook H06.K H06.ks H06.ks_eq).val) (YP:=(PySem.W.kHook H06.K H06.ks H06.ks_eq).says) (N:=H06.NN)
  H06.left (PySem.W.Hook.of _) (PySem.W.Hook.keeps _) (fun s e=>PySem.W.xl_of s (Bool.and_eq_true_iff.mp e).1) PySem.W.XL.keeps (by rfl) (by rfl) (by rfl)
  (fun s e=>PySem.W.recFacts_of (Bool.and_eq_true_iff.mp e).2) (by rfl) (by assumption) (by decide+kernel) ⟨rfl,rfl,rfl,rfl,rfl,by decide+kernel⟩ ?hw ?hc
 (case hw=>w_witness2)
 k_fill
 exact K06.walk (l:=PySem.Challenge.rw_lentgate_k06_first_letters_out) rfl rfl rfl rfl (fun w h Y=>PySem.W.kIn_of Y)
