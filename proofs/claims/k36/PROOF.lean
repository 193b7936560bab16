import PyProof.Rows.All
import Wide.All
import OpenK.AllK
import Wide.FinOn
import Lean
import PyProof.EqAt
import PyProof.EqKinds
import PyProof.TupleCall
import PyProof.NeKinds
import PyProof.ZipIter
import KE.KSortTup
import KE.KDictSum
import KE.KSortedM
import KE.KEqDict
import PyProof.DictWalks
import KE.KDictList
import PyProof.Conv_int_bool
import PySem.Challenge.RW_lentgate_k36_whole_meetings_by_their_for
set_option Elab.async false
set_option linter.all false
set_option maxRecDepth 100000
set_option genInjectivity false
set_option genSizeOfSpec false
set_option genSizeOf false
set_option maxHeartbeats 0
abbrev Frg:=PySem.W.Frag
local macro_rules | `(tactic| walk_at "w9") => `(tactic| (rw [PySem.W.Fast.te10110043849684766642, PySem.W.Fast.te14364793385576792824]; kernel_rfl))
def waa:=@Bool.and_eq_true
def wab:=@List.length_map
def wac:=@Nat.le_refl
def wad:=@List.length_append
def wae:=@List.map_cons
def waf:=@List.mem_cons
def wag:=@List.forall_mem_nil
def wah:=@List.length_cons
def wai:=@Nat.lt_of_lt_of_le
def waj:=@PySem.Heap.lt_size
def wak:=@List.size_toArray
def wal:=@List.all_cons
def wam:=@List.mem_singleton
def wan:=@List.mem_map
def wao:=@List.map_append
def wap:=@List.mem_append
def waq:=@List.mem_cons_of_mem
def war:=@List.mem_append_right
def was:=@List.map_map
def wat:=@Nat.ne_of_lt
def wau:=@Bool.false_ne_true
def wav:=@List.all_eq_true
def waw:=@Nat.le_trans
def wax:=@List.not_mem_nil
def waz:=@List.mem_cons_self
def waA:=@PyProof.Rows.slot_tuple_getitem
def waB:=@Nat.lt_trans
def waC:=@List.forall_mem_cons
def waD:=@Bool.false_eq_true
def waE:=@List.map_congr_left
def waF:=@PySem.W.emptyDict
def waG:=@Nat.lt_succ_of_lt
def waH:=@List.nodup_cons
def waI:=@List.nil_append
def waJ:=@List.replicate_succ
def waK:=@List.lookup_cons
def waL:=@List.any_cons
def waM:=@List.filter_cons_of_pos
def waN:=@List.nodup_nil
def waO:=@PySem.W.instObj
def waP:=@PyProof.Rows.callWith_type1
def waQ:=@List.append_nil
def waR:=@List.mem_filter
def waS:=@Option.isSome_iff_exists
def waT:=@List.flatten_cons
def waU:=@PySem.W.kia_one
def waV:=@Nat.lt_irrefl
def waW:=@PySem.W.mg_of
def waX:=@Nat.add_sub_cancel_left
def waY:=@List.filter_cons_of_neg
def waZ:=@List.filter_eq_self
def wa0:=@Nat.lt_succ_self
def wa1:=@List.range_succ_eq_map
def wa2:=@List.length_replicate
def wa3:=@List.length_filter_le
def wa4:=@List.map_nil
def wa5:=@List.append_assoc
def wa6:=@PySem.W.plainGet
def wa7:=@PySem.W.callWith_K
def wa8:=@Nat.lt_of_le_of_lt
def wa9:=@List.forIn_cons
def wba:=@PySem.W.hasDictIn
def wbb:=@Bool.false_and
noncomputable section
abbrev LAO:=List (PySem.Addr×PySem.Obj)
abbrev VSP:=PySem.Value->PySem.Shared->Prop
abbrev SOV:=PySem.Str->Option PySem.Value
abbrev LVl:=List PySem.Value
abbrev LEx:=List PySem.Expr
abbrev LSt:=List PySem.Str
abbrev OVl:=Option PySem.Value
namespace R
open PySem PySem.W PyProof.Rows
structure Ar(n:Nat)(p:Array Nat):Prop where
 sz:p.size=n
 pm:p.toList.Perm (List.range n)
section
variable {O:KeyOrd}{f:Nat->O.α}{n:Nat}{p:Array Nat}
end
end R
namespace L2
open PySem PySem.Spec PyProof.Rows
abbrev Key:=Sum Int Str
def qfg:Key->Value->Bool
 | .inl k,v=>Value.isInt k v
 | .inr x,v=>Value.isStrOf x v
def qA3(w:World):Key->Int
 | .inl k=>hashInt k
 | .inr x=>hashStr w x
theorem qar:∀ {k:Key} {v:Value},qfg k v=true->(∃ i t,k=Sum.inl i/\v=Value.int i t)∨(∃ x t,k=Sum.inr x/\v=Value.str x t)
 | .inl i,v,h=>by
  obtain⟨t,e⟩:=Value.isInt_shape (k:=i) (v:=v) h;exact .inl ⟨i,t,rfl,e⟩
 | .inr x,v,h=>by
  obtain⟨t,e⟩:=Value.isStrOf_shape (x:=x) (v:=v) h;exact .inr ⟨x,t,rfl,e⟩
theorem qmi(i:Int)(t:Tok):qfg (.inl i) (.int i t)=true:=by simp[qfg,Value.isInt]
theorem qmh(x:Str)(t:Tok):qfg (.inr x) (.str x t)=true:=by simp[qfg,Value.isStrOf]
theorem qui(a b:Int):decide ((Sum.inl a:Key)=Sum.inl b)=(a==b):=by
 by_cases e:a=b
 · subst e;simp
 · have h:¬(Sum.inl a:Key)=Sum.inl b:=fun q=>e (Sum.inl.inj q)
   rw[decide_eq_false h];exact(beq_eq_false_iff_ne.mpr e).symm
theorem quf(a b:Str):decide ((Sum.inr a:Key)=Sum.inr b)=decide (a=b):=by
 by_cases e:a=b
 · subst e;simp
 · have h:¬(Sum.inr a:Key)=Sum.inr b:=fun q=>e (Sum.inr.inj q)
   rw[decide_eq_false h,decide_eq_false e]
theorem quh(a:Int)(b:Str):decide ((Sum.inl a:Key)=Sum.inr b)=false:=decide_eq_false (fun q=>nomatch q)
theorem qug(a:Str)(b:Int):decide ((Sum.inr a:Key)=Sum.inl b)=false:=decide_eq_false (fun q=>nomatch q)
noncomputable def qap (prog:Program)(w:World):PySem.KeyKind prog w Key where
 is:=qfg
 hash:=qA3 w
 inj:=fun v a b ha hb=>by
  rcases qar ha with⟨i,t,rfl,rfl⟩|⟨x,t,rfl,rfl⟩
  · rcases qar hb with⟨j,u,rfl,e⟩|⟨y,u,rfl,e⟩
    · injection e with e1 _;rw[e1]
    · exact nomatch e
  · rcases qar hb with⟨j,u,rfl,e⟩|⟨y,u,rfl,e⟩
    · exact nomatch e
    · injection e with e1 _;rw[e1]
 byValue:=fun k v h=>by
  rcases qar h with⟨i,t,rfl,rfl⟩|⟨x,t,rfl,rfl⟩<;>rfl
 pyHash:=fun hv h=>by
  rcases qar hv with⟨i,t,rfl,rfl⟩|⟨x,t,rfl,rfl⟩
  · exact wpAny_pyHash_int h
  · exact wpAny_pyHash_str h
 eqBool:=fun hu hv h=>by
  rcases qar hu with⟨i,t,rfl,rfl⟩|⟨x,t,rfl,rfl⟩
  · rcases qar hv with⟨j,u,rfl,rfl⟩|⟨y,u,rfl,rfl⟩
    · rw[qui]at h;exact wpAny_eqBool_int h
    · rw[quh]at h;exact SeqAt.EqAt.int_str i t y u _ _ _ _ h
  · rcases qar hv with⟨j,u,rfl,rfl⟩|⟨y,u,rfl,rfl⟩
    · rw[qug]at h;exact SeqAt.EqAt.str_int x t j u _ _ _ _ h
    · rw[quf]at h;exact wpAny_eqBool_str h
 «strs»:=fun k x t v h=>by
  rcases qar h with⟨i,u,rfl,e⟩|⟨y,u,rfl,e⟩
  · exact nomatch e
  · injection e with e1 _
    subst e1;cases v<;>rfl
theorem qiL(prog:Program)(w:World)(i:Int)(t:Tok):(qap prog w).is (.inl i) (.int i t)=true:=qmi i t
theorem qey(prog:Program)(w:World)(x:Str)(t:Tok):(qap prog w).is (.inr x) (.str x t)=true:=qmh x t
inductive V where
 |non|bl (b:Bool)|int (i:Int)|str (x:Str)|byt (b:Array UInt8)|flt (b:UInt64)|ref (a:Addr)|ty (n:String)
 deriving DecidableEq
abbrev LV:=List V
def RelV:V->Value->Prop
 | .non,u=>u=Value.none
 | .bl b,u=>u=Value.bool b
 | .int i,u=>∃ t,u=Value.int i t
 | .str x,u=>∃ t,u=Value.str x t
 | .byt b,u=>∃ t,u=Value.bytes b t
 | .flt b,u=>∃ t,u=Value.float b t
 | .ref a,u=>u=Value.ref a
 | .ty n,u=>u=Value.type n
abbrev Vals:LV->LVl->Prop:=Paired RelV
theorem Vals.length{xs:LV}{us:LVl}(r:Vals xs us):xs.length=us.length:=Paired.length r
theorem Vals.get:∀ {xs:LV} {us:LVl} {i:Nat} {x:V},Vals xs us->xs[i]? =some x->∃ u,us[i]? =some u/\RelV x u
 |_,_,_,_,.nil,e=>by simp at e
 |_,_,0,_,.cons r _,e=>by simp at e;subst e;exact⟨_,rfl,r⟩
 |_,_,i+1,x,.cons _ t,e=>by
  obtain⟨u,h1,h2⟩:=Vals.get (i:=i) (x:=x) t (by simpa using e)
  exact⟨u,by simpa using h1,h2⟩
theorem Vals.set{x:V}{u:Value}(r:RelV x u):∀ {xs:LV} {us:LVl} (i:Nat),Vals xs us->Vals (xs.set i x) (us.set i u)
 |_,_,_,.nil=>.nil
 |_,_,0,.cons _ t=>.cons r t
 |_,_,i+1,.cons q t=>.cons q (Vals.set r i t)
theorem Vals.append:∀ {xs ys:LV} {us ws:LVl},Vals xs us->Vals ys ws->Vals (xs++ys) (us++ws)
 |_,_,_,_,.nil,s=>s
 |_,_,_,_,.cons r t,s=>.cons r (Vals.append t s)
theorem Vals.take:∀ {xs:LV} {us:LVl} (n:Nat),Vals xs us->Vals (xs.take n) (us.take n)
 |_,_,0,_=>.nil
 |_,_,_+1,.nil=>.nil
 |_,_,n+1,.cons r t=>.cons r (Vals.take n t)
theorem Vals.drop:∀ {xs:LV} {us:LVl} (n:Nat),Vals xs us->Vals (xs.drop n) (us.drop n)
 |_,_,0,r=>r
 |_,_,_+1,.nil=>.nil
 |_,_,n+1,.cons _ t=>Vals.drop n t
def RelO:Option V->OVl->Prop
 |some v,some u=>RelV v u
 |none,none=>True
 |_,_=>False
def KV{κ:Type}:List (κ×V)->List (κ×Value)->Prop:=Paired fun(p:κ×V) (q:κ×Value)=>p.1=q.1/\RelV p.2 q.2
def kV:Key->V
 | .inl i=>.int i
 | .inr x=>.str x
abbrev qbW:=Option Key
def oV:qbW->V
 |none=>.non
 |some k=>kV k
def qxf:Option Key->Value->Bool
 |none,.none=>true
 |none,_=>false
 |some k,v=>qfg k v
def okH(w:World):Option Key->Int
 |none=>0xFCA86420
 |some k=>qA3 w k
theorem qaP:∀ {k:Option Key} {v:Value},qxf k v=true->(k=none/\v=Value.none)∨∃ j,k=some j/\qfg j v=true
 |none,v,h=>by cases v<;>first|exact .inl ⟨rfl,rfl⟩|(simp[qxf]at h)
 |some k,v,h=>.inr ⟨k,rfl,h⟩
theorem qfA{k:Key}:qfg k Value.none=false:=by cases k<;>rfl
section
variable {prog:Program}{w:World}{A:Around}{E:VSP}{s:Shared}
theorem qmP{Q:Int->Shared->Prop}(h:Q 0xFCA86420 { s with toks:=s.toks+1 }):wpAny (model prog w) A (PySem.pyHash .none) Q E s:=by
 have hT:s.TypeIs .none "NoneType":=rfl;unfold PySem.pyHash;have hv:[Value.none].any Value.onHeap=false:=rfl;refine wpAny_bind ?_;rw[cRoomFor,if_neg (by rw[hv];exact wau)];refine wpAny_pure ?_
 refine wpAny_bind (wpAny_specialOf hT F.slot_NoneType_hash.lookup ?_);show wpAny _ _ (if(some (Value.builtin "NoneType.__hash__")==some Value.none)=true then _ else _) Q E s
 rw[if_neg (by rw[beq_builtin_none];exact wau)]
 refine wpAny_bind (wpAny_specialOf hT F.slot_NoneType_hash.lookup ?_);show wpAny _ _ (callSpecialIfBoundUnlessNone? .none "__hash__" _ >>= _) Q E s;refine wpAny_bind (wpAny_callSpecialIfBoundUnlessNone?_slot hT F.slot_NoneType_hash
  (wpAny_call_entry F.slot_NoneType_hash hT F.entry_NoneType_hash
   (show wpAny _ _ (do ret (<-mkInt 0xFCA86420)) _ _ s from wpAny_ret_mkInt ?_) (F.args_NoneType_hash_1 _)))
 show wpAny _ _ (if(decide (-(2:Int) ^ 63<=0xFCA86420)&&decide ((0xFCA86420:Int)<2 ^ 63))=true then _ else _) Q E _
 rw[if_pos (by decide)]
 exact wpAny_pure h
end
noncomputable def optKind (prog:Program)(w:World):PySem.KeyKind prog w (Option Key) where
 is:=qxf
 hash:=okH w
 inj:=fun v a b ha hb=>by
  rcases qaP ha with⟨rfl,rfl⟩|⟨j,rfl,hj⟩
  · rcases qaP hb with⟨rfl,_⟩|⟨i,rfl,hi⟩
    · rfl
    · rw[qfA]at hi;cases hi
  · rcases qaP hb with⟨rfl,rfl⟩|⟨i,rfl,hi⟩
    · rw[qfA]at hj;cases hj
    · rw[(qap prog w).inj v j i hj hi]
 byValue:=fun k v h=>by
  rcases qaP h with⟨rfl,rfl⟩|⟨j,rfl,hj⟩
  · rfl
  · exact(qap prog w).byValue j v hj
 pyHash:=fun hv h=>by
  rcases qaP hv with⟨rfl,rfl⟩|⟨j,rfl,hj⟩
  · exact qmP h
  · exact(qap prog w).pyHash hj h
 eqBool:=fun {A E s a b u v Q} hu hv h=>by
  rcases qaP hu with⟨rfl,rfl⟩|⟨i,rfl,hi⟩
  · rcases qaP hv with⟨rfl,rfl⟩|⟨j,rfl,hj⟩
    · exact SeqAt.EqAt.same _ _ _ _ _ (by simpa using h)
    · have e:decide ((none:Option Key)=some j)=false:=decide_eq_false (fun q=>nomatch q)
      rw[e]at h;rcases qar hj with⟨k,t,rfl,rfl⟩|⟨x,t,rfl,rfl⟩
      · exact SeqAt.EqAt.none_int k t _ _ _ _ h
      · exact SeqAt.EqAt.none_str x t _ _ _ _ h
  · rcases qaP hv with⟨rfl,rfl⟩|⟨j,rfl,hj⟩
    · have e:decide ((some i:Option Key)=none)=false:=decide_eq_false (fun q=>nomatch q)
      rw[e]at h;rcases qar hi with⟨k,t,rfl,rfl⟩|⟨x,t,rfl,rfl⟩
      · exact SeqAt.EqAt.int_none k t _ _ _ _ h
      · exact SeqAt.EqAt.str_none x t _ _ _ _ h
    · have e:decide (some i=some j)=decide (i=j):=by
       by_cases q:i=j
       · subst q;simp
       · rw[decide_eq_false q,decide_eq_false fun z=>q (Option.some.inj z)]
      rw[e]at h;exact(qap prog w).eqBool hi hj h
 «strs»:=fun k x t v h=>by
  rcases qaP h with⟨rfl,e⟩|⟨j,rfl,hj⟩
  · cases e
  · exact(qap prog w).strs j x t v hj
inductive HO where
 |lst (xs:LV)
 |tup (xs:LV)
 |dK (kvs:List (Key×V))|dT (kvs:List (List qbW×V))
 |set (S:Int->Bool) (n:Nat)
 |ins (C dx:Addr) (fs:List (Str×V))
 |own (x:Addr)
 |xd (fs:List (Str×V))
 |met (f x:Addr)
 |rng (lo hi:Int)
 |frz (o:Obj) (u:HO)
 |tbl (ps:Array Value)
 |ext (φ:Heap->Prop)
abbrev Hp:=Addr->Option HO
def upd(H:Hp)(a:Addr)(o:HO):Hp:=fun b=>if b=a then some o else H b
theorem qah{H:Hp}{a:Addr}{o:HO}:upd H a o a=some o:=by unfold upd;rw[if_pos rfl]
theorem qaa{H:Hp}{a b:Addr}{o:HO}(h:b≠a):upd H a o b=H b:=by unfold upd;rw[if_neg h]
theorem qqd{H:Hp}{a:Addr}{o u:HO}:upd (upd H a o) a u=upd H a u:=by
 funext b;unfold upd;split<;>rfl
theorem qfb{H:Hp}{a b:Addr}{o u:HO}(h:H a=some o)(h':H b=some u)(d:o≠u):a≠b:=by
 intro e;subst e;rw[h]at h';exact d (Option.some.inj h')
theorem qao{H:Hp}{a b:Addr}{o:HO}(h:H a=some o)(h':H b=none):a≠b:=by
 intro e;subst e;rw[h]at h';cases h'
section
variable(P:Program)(w:World)
noncomputable def ObjOk (H:Hp)(h:Heap)(a:Addr):HO->Prop
 | .lst xs=>xs.length<=sizeLine/\∃ (its:LVl) (n:Nat),Vals xs its/\h.get? a=some { cls:=.type "list",data:=.seq its.toArray n }
 | .tup xs=>xs.length<=sizeLine/\∃ its:LVl,Vals xs its/\IsTup h a its.toArray
 | .dK kvs=>kvs.length<=sizeLine/\(a==sysModules)=false/\∃ vs,KV kvs vs/\h.DictOf (qap P w) a vs
 | .dT kvs=>kvs.length<=sizeLine/\(a==sysModules)=false/\∃ xs:List (List qbW×Addr×Value),
  Paired (fun(p:List qbW×V) (q:List qbW×Addr×Value)=>p.1=q.1/\H q.2.1=some (.tup (p.1.map oV))/\RelV p.2 q.2.2) kvs xs/\
  ∃ o es ep,h.get? a=some o/\o.ExactDict/\o.data= .dict es ep/\es.toList=xs.map (entryOfKey (tupleKind (optKind P w)))/\(xs.map (·.1)).Nodup
 | .set S n=>h.SetOf (intKind P w) a S n
 | .ins C dx fs=>H dx=some (.own a)/\fs.length<=1000/\dx≠a/\h.get? a=some (waO C dx)/\
  ∃ mA,h.Ns1 dx mA/\(∀ f,RelO (fs.lookup f) (mA f))/\PySem.Within mA (fs.map (·.1))
 | .own _=>∃ o,h.get? a=some o
 | .xd fs=>∃ mA,h.Ns1 a mA/\∀ f,RelO (fs.lookup f) (mA f)
 | .rng lo hi=>∃ t u v,h.get? a=some { cls:=.type "range",data:=.fields #[.int lo t,.int hi u,.int 1 v] }
 | .frz o u=>h.get? a=some o/\ObjOk H h a u
 | .tbl ps=>h.get? a=some { cls:=.none,data:=.fields ps }
 | .met f x=>h.get? a=some (PySem.W.methodObj (.ref f) (.ref x))
 | .ext φ=>φ h/\(∃ o,h.get? a=some o)/\∀ h1 h2:Heap,φ h1->(∀ o,h1.get? a=some o->h2.get? a=some o)->φ h2
def HOk(H:Hp)(h:Heap):Prop:=∀ a o,H a=some o->ObjOk P w H h a o
end
section
variable {P:Program}{w:World}{H H':Hp}{h h':Heap}{a:Addr}{o:HO}
theorem ObjOk.lt(x:ObjOk P w H h a o):a<h.objs.size:=by
 cases o with
 |lst xs=>obtain⟨_,_,_,_,e⟩:=x;exact waj e
 |tup xs=>obtain⟨_,_,_,p⟩:=x;exact p.lt
 |dK kvs=>obtain⟨_,_,_,_,o,_,_,e,_⟩:=x;exact waj e
 |dT kvs=>obtain⟨_,_,_,_,o,_,_,e,_⟩:=x;exact waj e
 |set S n=>obtain⟨o,_,_,_,e,_⟩:=x;exact waj e
 |ins C dx fs=>obtain⟨_,_,_,e,_⟩:=x;exact waj e
 |own y=>obtain⟨_,e⟩:=x;exact waj e
 |xd fs=>obtain⟨_,⟨_,_,_,e,_⟩,_⟩:=x;exact waj e
 |rng lo hi=>obtain⟨_,_,_,e⟩:=x;exact waj e
 |frz ob u=>obtain⟨e,_⟩:=x;exact waj e
 |tbl ps=>exact waj (show h.get? a=some _ from x)
 |met f y=>exact waj (show h.get? a=some _ from x)
 |ext φ=>obtain⟨_,⟨_,e⟩,_⟩:=x;exact waj e
theorem Paired.mapP{α β:Type}{F G:α->β->Prop}:∀ {l₁:List α} {l₂:List β},Paired F l₁ l₂->(∀ a b,F a b->G a b)->Paired G l₁ l₂
 |_,_,.nil,_=>.nil
 |_,_,.cons r t,f=>.cons (f _ _ r) (Paired.mapP t f)
theorem ObjOk.stay(x:ObjOk P w H h a o)(k:∀ b u,(b=a∨H b=some (.own a))->h.get? b=some u->h'.get? b=some u)
 (ho:∀ b,H b=some (.own a)->H' b=some (.own a)) (ht:∀ b xs,H b=some (.tup xs)->H' b=some (.tup xs)):ObjOk P w H' h' a o:=by
 induction o with
 |lst xs=>obtain⟨z,its,n,r,e⟩:=x;exact⟨z,its,n,r,k _ _ (.inl rfl) e⟩
 |tup xs=>obtain⟨z,its,r,ob,e,c⟩:=x;exact⟨z,its,r,ob,k _ _ (.inl rfl) e,c⟩
 |dK kvs=>obtain⟨z,y,vs,r,ob,es,ep,e,c⟩:=x;exact⟨z,y,vs,r,ob,es,ep,k _ _ (.inl rfl) e,c⟩
 |dT kvs=>
  obtain⟨z,y,xs,r,ob,es,ep,e,c⟩:=x;exact⟨z,y,xs,Paired.mapP r fun p q z=>⟨z.1,ht _ _ z.2.1,z.2.2⟩,ob,es,ep,k _ _ (.inl rfl) e,c⟩
 |set S n=>obtain⟨ob,es,ep,t,e,c⟩:=x;exact⟨ob,es,ep,t,k _ _ (.inl rfl) e,c⟩
 |ins C dx fs=>
  obtain⟨d,z,ne,e,mA,⟨od,es,ep,e2,c⟩,r⟩:=x;exact⟨ho _ d,z,ne,k _ _ (.inl rfl) e,mA,⟨od,es,ep,k _ _ (.inr d) e2,c⟩,r⟩
 |own y=>obtain⟨ob,e⟩:=x;exact⟨ob,k _ _ (.inl rfl) e⟩
 |xd fs=>obtain⟨mA,⟨od,es,ep,e,c⟩,r⟩:=x;exact⟨mA,⟨od,es,ep,k _ _ (.inl rfl) e,c⟩,r⟩
 |rng lo hi=>obtain⟨t,u,v,e⟩:=x;exact⟨t,u,v,k _ _ (.inl rfl) e⟩
 |frz ob u ih=>obtain⟨e,q⟩:=x;exact⟨k _ _ (.inl rfl) e,ih q⟩
 |tbl ps=>
  have e:h.get? a=some { cls:=.none,data:=.fields ps }:=x;show h'.get? a=some { cls:=.none,data:=.fields ps };exact k a _ (.inl rfl) e
 |met f y=>
  have e:h.get? a=some (PySem.W.methodObj (.ref f) (.ref y)):=x;show h'.get? a=some (PySem.W.methodObj (.ref f) (.ref y));exact k a _ (.inl rfl) e
 |ext φ=>obtain⟨p,⟨o,e⟩,st⟩:=x;exact⟨st _ _ p fun o q=>k _ _ (.inl rfl) q,⟨o,k _ _ (.inl rfl) e⟩,st⟩
theorem HOk.lt(x:HOk P w H h)(e:H a=some o):a<h.objs.size:=(x a o e).lt
theorem HOk.fresh(x:HOk P w H h)(e:h.objs.size<=a):H a=none:=by
 cases q:H a with
 |none=>rfl
 |some u=>exact absurd (wai (x.lt q) e) (waV _)
theorem HOk.kept(x:HOk P w H h)(k:∀ b u,h.get? b=some u->h'.get? b=some u):HOk P w H h':=fun a o e=>
 (x a o e).stay (fun b u _ q=>k b u q) (fun _ q=>q) fun _ _ q=>q
theorem HOk.laid(x:HOk P w H h)(k:∀ b u,h.get? b=some u->h'.get? b=some u)(hp:h.objs.size<=a)(new:ObjOk P w (upd H a o) h' a o):HOk P w (upd H a o) h':=fun b u e=>by
 have hn:=x.fresh hp
 by_cases hb:b=a
 · subst hb;rw[qah]at e;cases e;exact new
 · rw[qaa hb]at e
   exact(x b u e).stay (fun c v _ q=>k c v q) (fun c q=>by rw[qaa (qao q hn)];exact q) fun c xs q=>by rw[qaa (qao q hn)];exact q
end
def Rd(H:Hp)(a:Addr)(u:HO):Prop:=H a=some u∨∃ o,H a=some (.frz o u)
theorem Rd.ok{P:Program}{w:World}{H:Hp}{h:Heap}{a:Addr}{u:HO}(r:Rd H a u)(x:HOk P w H h):ObjOk P w H h a u:=by
 rcases r with r|⟨o,r⟩
 · exact x a u r
 · obtain⟨_,q⟩:=x a _ r
   exact q
def Mut:Option HO->Prop
 |some (.lst _)=>True
 |some (.dK _)=>True
 |some (.dT _)=>True
 |some (.set _ _)=>True
 |some (.ins _ _ _)=>True
 |some (.ext _)=>True
 |_=>False
section
variable {P:Program}{w:World}{H:Hp}{h h':Heap}{x e:Addr}{o':HO}
theorem HOk.write(ok:HOk P w H h)(mu:Mut (H x))(he:e=x∨H e=some (.own x))(k:∀ b u,b≠e->h.get? b=some u->h'.get? b=some u)(heo:∃ u,h'.get? e=some u)
 (new:ObjOk P w (upd H x o') h' x o'):HOk P w (upd H x o') h':=fun b u q=>by
 have nown:∀ c y,H c=some (.own y)->c≠x:=fun c y r z=>by subst z;rw[r]at mu;exact mu
 have ntup:∀ c xs,H c=some (.tup xs)->c≠x:=fun c xs r z=>by subst z;rw[r]at mu;exact mu
 by_cases hb:b=x
 · subst hb;rw[qah]at q;cases q;exact new
 · rw[qaa hb]at q
   by_cases hbe:b=e
   · have q':H b=some (.own x):=by
      rcases he with z|z
      · exact absurd (hbe.trans z) hb
      · rw[hbe];exact z
     rw[q]at q';cases q';obtain⟨v,hv⟩:=heo;exact⟨v,by rw[hbe];exact hv⟩
   · refine(ok b u q).stay (fun c v hc r=>k c v ?_ r) (fun c r=>by rw[qaa (nown c b r)];exact r) fun c xs r=>by rw[qaa (ntup c xs r)];exact r
     rcases hc with rfl|hc
     · exact hbe
     · rintro rfl
       rcases he with z|z
       · exact nown c b hc z
       · rw[hc]at z;cases z;exact hb rfl
end
structure Un(fs ex:List Addr)(H H':Hp)(h h':Heap):Prop where
 keep:∀ b o,h.get? b=some o->H b=none->b∉fs->b∉ex->h'.get? b=some o
 slot:∀ b o,h.get? b=some o->H b=none->b∈fs->b∉ex->∃ sl,h'.get? b=some { o with slots:=sl }
 free:∀ b o,h.get? b=some o->H b=none->b∉ex->H' b=none
 there:∀ b o,h.get? b=some o->b∉ex->∃ o',h'.get? b=some o'
 tups:∀ b xs,H b=some (.tup xs)->H' b=some (.tup xs)
 frzs:∀ b o u,H b=some (.frz o u)->H' b=some (.frz o u)
 tbls:∀ b ps,H b=some (.tbl ps)->∃ more,H' b=some (.tbl (ps++more))
section
variable {fs fs' ex ex':List Addr}{H H1 H2:Hp}{h h1 h2 h':Heap}{a x e:Addr}{o:HO}
theorem Un.any(u:Un fs ex H H1 h h1){b:Addr}{ob:Obj}(q:h.get? b=some ob)(n:H b=none)(hx:b∉ex):∃ sl,h1.get? b=some { ob with slots:=sl }:=by
 by_cases hb:b∈fs
 · exact u.slot b ob q n hb hx
 · exact⟨ob.slots,u.keep b ob q n hb hx⟩
theorem Un.kept(k:∀ b u,h.get? b=some u->h'.get? b=some u):Un fs ex H H h h':=
 ⟨fun b ob q _ _ _=>k b ob q,fun b ob q _ _ _=>⟨ob.slots,k b ob q⟩,fun _ _ _ n _=>n,fun b ob q _=>⟨ob,k b ob q⟩,fun _ _ q=>q,fun _ _ _ q=>q,fun _ ps q=>⟨#[],by rw[q];simp⟩⟩
theorem Un.refl:Un fs ex H H h h:=Un.kept fun _ _ q=>q
theorem Un.laid(k:∀ b u,h.get? b=some u->h'.get? b=some u)(hp:h.objs.size<=a)(hn:H a=none):Un fs ex H (upd H a o) h h' where
 keep:=fun b u q _ _ _=>k b u q
 slot:=fun b u q _ _ _=>⟨u.slots,k b u q⟩
 free:=fun b u q n _=>by rw[qaa (wat (wai (waj q) hp))];exact n
 there:=fun b u q _=>⟨u,k b u q⟩
 tups:=fun b xs q=>by rw[qaa (qao q hn)];exact q
 frzs:=fun b u xs q=>by rw[qaa (qao q hn)];exact q
 tbls:=fun b ps q=>⟨#[],by rw[qaa (qao q hn),q];simp⟩
theorem Un.write(mu:Mut (H x))(he:e=x∨H e=some (.own x))(k:∀ b u,b≠e->h.get? b=some u->h'.get? b=some u)(heo:∃ u,h'.get? e=some u):Un fs ex H (upd H x o) h h':=by
 have hx:∀ b,H b=none->b≠x:=fun b n z=>by subst z;rw[n]at mu;exact mu
 have hb:∀ b,H b=none->b≠e:=fun b n z=>by
  subst z;rcases he with r|r
  · exact hx b n r
  · rw[n]at r;cases r
 have hm:∀ b u,H b=some u->¬Mut (some u)->b≠x:=fun b u q nm z=>by subst z;rw[q]at mu;exact nm mu
 refine⟨fun b u q n _ _=>k b u (hb b n) q,fun b u q n _ _=>⟨u.slots,k b u (hb b n) q⟩,fun b u q n _=>by rw[qaa (hx b n)];exact n,fun b u q _=>?_,
  fun b xs q=>by rw[qaa (hm b _ q fun z=>z)];exact q,fun b u xs q=>by rw[qaa (hm b _ q fun z=>z)];exact q,fun b ps q=>⟨#[],by rw[qaa (hm b _ q fun z=>z),q];simp⟩⟩
 by_cases hbe:b=e
 · subst hbe;exact heo
 · exact⟨u,k b u hbe q⟩
end
def trk(h:Heap)(H:Hp):List Addr:=(List.range h.objs.size).filter fun a=>(H a).isSome
def qoH(h:Heap)(H:Hp):Heap:=PySem.W.hideAll h (trk h H)
theorem qmO(h:Heap)(H:Hp):(qoH h H).objs.size=h.objs.size:=PySem.W.hideAll_size _ _
theorem qoG{h:Heap}{H:Hp}{b:Addr}{o:Obj}(e:h.get? b=some o)(n:H b=none):(qoH h H).get? b=some o:=
 PySem.W.hideAll_get _ e fun hm=>by
  have q:(H b).isSome=true:=(waR.mp hm).2;rw[n]at q;simp at q
theorem qq8{h:Heap}{H:Hp}{b:Addr}{o:Obj}(e:(qoH h H).get? b=some o):h.get? b=some o/\H b=none:=by
 have e':h.get? b=some o:=PySem.W.of_hideAll (trk h H) e;refine⟨e',?_⟩;cases q:H b with
 |none=>rfl
 |some x=>
  have hm:b∈trk h H:=waR.mpr ⟨List.mem_range.mpr (waj e'),by simp[q]⟩
  have z:(qoH h H).get? b=none:=PySem.W.hideAll_none (trk h H) hm;rw[z]at e;cases e
def qr9(g h:Heap)(L:Addr):LAO:=(List.range h.objs.size).filterMap fun a=>if a=L∨(g.get? a).isSome=true then none else(h.get? a).map fun o=>(a,o)
def rest(g h:Heap)(L d:Addr):LAO:=(qr9 g h L).filter fun p=>decide (p.1≠d)
structure Mod(K:Frg)(mg:SOV)(base:Heap):Prop where
 kin:K.In base
 glob:base.Ns mainGlobals mg
 blt:∃ mb,base.Ns builtinsNs mb/\∀ x:Str,x≠"__name__"->mb x=bootBuiltins x
 nolimit:base.NoLimit
structure Cx where
 prog:Program
 w:World
 K:Frg
 mg:SOV
 base:Heap
 A:Around
 N:LSt
 s₀:Shared
 H₀:Hp
 env:Env
 outer:List Env
 stack:List Env
 ex:List Addr
 fn:Str->Bool
 calm:Bool
 pn:LAO
 xe:VSP
def frs(l:List Env):List Addr:=l.filterMap (·.frame)
abbrev Cx.fs(X:Cx):List Addr:=frs X.outer
def Vis(sc:Scope)(x:Str):Prop:=sc.names.lookup x=some .local∨sc.names.lookup x=some .cell∨sc.names.lookup x=some .free
def Loc(sc:Scope)(x:Str):Prop:=sc.names.lookup x=some .local∨sc.names.lookup x=some .cell
def Look(env:Env)(h:Heap)(m:SOV)(x:Str)(u:Value):Prop:=
 (env.kindOf x=some .local/\m x=some u)∨((env.kindOf x=some .cell∨env.kindOf x=some .free)/\∃ c,env.cells.lookup x=some c/\h.IsCell c (some u))
structure Cx.Ok(X:Cx):Prop where
 mod:Mod X.K X.mg X.base
 kind:X.env.scope.kind= .function
 glob:X.env.globals=mainGlobals
 blt:X.env.builtins=builtinsNs
 above:X.s₀.heap.objs.size<=X.env.locals
 inj:∀ x y c,X.env.cells.lookup x=some c->X.env.cells.lookup y=some c->x=y
 has:∀ x,(X.env.kindOf x=some .cell∨X.env.kindOf x=some .free)->∃ c,X.env.cells.lookup x=some c
 cab:∀ x c,X.fn x=true->X.env.cells.lookup x=some c->X.s₀.heap.objs.size<=c
 hd:X.calm=true->X.A.handled=none
 frames:X.A.frames=some X.stack
 stk:X.stack=X.outer∨(X.stack=X.env::X.outer/\X.env.frame=some X.env.locals)
 exf:∀ b∈X.ex,b≠X.env.locals/\∀ x c,X.env.cells.lookup x=some c->c≠b
 bs:∀ b o,X.base.get? b=some o->X.s₀.heap.get? b=some o/\X.H₀ b=none
 bsz:X.base.objs.size<=X.s₀.heap.objs.size
 noex:∀ b o,X.base.get? b=some o->b∉X.ex
 exfs:∀ b∈X.ex,b∉X.fs
 funs:X.s₀.heap.FunFrames X.base X.outer
 frf:∀ b∈X.fs,X.H₀ b=none
structure Inv(X:Cx)(pins:LAO)(σ:List (Option V))(H:Hp)(s:Shared):Prop where
 ok:X.Ok
 os:s.os=X.s₀.os
 bare:AllBare s.gens
 base:Un X.fs X.ex X.H₀ H X.s₀.heap s.heap
 loc:∃ m,s.heap.Ns X.env.locals m/\∀ (i:Nat) (x:Str) (v:V),X.N[i]? =some x->σ[i]? =some (some v)->Vis X.env.scope x->∃ u,RelV v u/\Look X.env s.heap m x u
 cell:∀ x c,X.env.cells.lookup x=some c->∃ v,s.heap.IsCell c v
 free:H X.env.locals=none
 freeC:∀ x c,X.env.cells.lookup x=some c->H c=none
 pin:∀ p∈X.pn++pins,s.heap.get? p.1=some p.2/\H p.1=none/\p.1≠X.env.locals/\p.1∉X.fs/\∀ v,p.2.data≠.cell v
 hok:HOk X.prog X.w H s.heap
 len:σ.length=X.N.length
section
variable {X:Cx}{pins:LAO}{σ:List (Option V)}{H H':Hp}{s:Shared}{h':Heap}
theorem Cx.Ok.nofr(ok:X.Ok){b:Addr}{o:Obj}(e:X.base.get? b=some o):b∉X.fs:=fun hb=>by
 have:=(ok.funs.mem hb).1;rw[e]at this;cases this
theorem Inv.bs(I:Inv X pins σ H s):∀ b o,X.base.get? b=some o->s.heap.get? b=some o/\H b=none:=fun b o e=>
 ⟨I.base.keep b o (I.ok.bs b o e).1 (I.ok.bs b o e).2 (I.ok.nofr e) (I.ok.noex b o e),I.base.free b o (I.ok.bs b o e).1 (I.ok.bs b o e).2 (I.ok.noex b o e)⟩
theorem Inv.bk(I:Inv X pins σ H s):∀ b o,X.base.get? b=some o->s.heap.get? b=some o:=fun b o e=>(I.bs b o e).1
theorem Inv.mod(I:Inv X pins σ H s):Mod X.K X.mg X.base:=I.ok.mod
theorem Inv.kIn(I:Inv X pins σ H s):X.K.In s.heap:=I.ok.mod.kin.keeps I.bk
theorem Inv.lt(I:Inv X pins σ H s):X.env.locals<s.heap.objs.size:=let⟨_,hn,_⟩:=I.loc;hn.lt
theorem Inv.sz(I:Inv X pins σ H s):X.s₀.heap.objs.size<=s.heap.objs.size:=waw I.ok.above (Nat.le_of_lt I.lt)
theorem Inv.nofs(I:Inv X pins σ H s){a:Addr}(h:s.heap.objs.size<=a):a∉X.fs:=fun hb=>by
 obtain⟨_,o,ho,_⟩:=I.ok.funs.mem hb;exact absurd (wai (waj ho) (waw I.sz h)) (waV _)
theorem Inv.cne(I:Inv X pins σ H s):∀ x c,X.env.cells.lookup x=some c->c≠X.env.locals:=fun x c e z=>by
 obtain⟨v,o,ho,hd⟩:=I.cell x c e;obtain⟨m,⟨o',es,ep,ho',hd',_⟩,_⟩:=I.loc;rw[z,ho']at ho;cases ho;rw[hd']at hd;cases hd
theorem Inv.funs(I:Inv X pins σ H s):s.heap.FunFrames X.base X.outer:=by
 have all:∀ (l:List Env),(∀ b∈frs l,b∈X.fs)->X.s₀.heap.FunFrames X.base l->s.heap.FunFrames X.base l:=by
  intro l
  induction l with
  |nil=>intro _ _;trivial
  |cons env r ih=>
   intro hs hl;obtain⟨hk,⟨L,o,hf,hn,ho,hd⟩,hr⟩:=hl;have hL:L∈X.fs:=hs L (by unfold frs;rw[List.filterMap_cons,hf];exact waz)
   obtain⟨sl,e⟩:=I.base.slot L o ho (I.ok.frf L hL) hL fun z=>I.ok.exfs L z hL
   exact⟨hk,⟨L,_,hf,hn,e,hd⟩,ih (fun b hb=>hs b (by unfold frs;rw[List.filterMap_cons,hf];exact waq _ hb)) hr⟩
 exact all X.outer (fun _ hb=>hb) I.ok.funs
theorem Inv.stack(I:Inv X pins σ H s):s.heap.FunFrames X.base X.stack:=by
 rcases I.ok.stk with e|⟨e,hf⟩
 · rw[e];exact I.funs
 · rw[e]
   obtain⟨m,hn,_⟩:=I.loc;refine .cons (by rw[I.ok.kind];decide) hf hn ?_ I.funs
   exact Heap.get?_none_of_le (waw I.ok.bsz I.ok.above)
theorem Inv.stkSub(I:Inv X pins σ H s):∀ b∈frs X.stack,b∈X.env.locals::X.fs:=fun b hb=>by
 rcases I.ok.stk with e|⟨e,hf⟩
 · rw[e]at hb;exact waq _ hb
 · rw[e]at hb
   unfold frs at hb;rw[List.filterMap_cons,hf]at hb;exact hb
theorem Inv.stkFree(I:Inv X pins σ H s):∀ b∈frs X.stack,H b=none:=fun b hb=>by
 rcases waf.mp (I.stkSub b hb)with e|hb
 · rw[e];exact I.free
 · obtain⟨_,o,ho,_⟩:=I.ok.funs.mem hb
   exact I.base.free b o ho (I.ok.frf b hb) fun z=>I.ok.exfs b z hb
theorem Inv.step{g':Array GenState}{t':Nat}{d':Drawn}{ch:List Addr}(I:Inv X pins σ H s)
 (hch:∀ b∈ch,(b∈X.ex∨X.s₀.heap.objs.size<=b)/\b≠X.env.locals/\(∀ x c,X.env.cells.lookup x=some c->c≠b)/\∀ p∈X.pn++pins,p.1≠b)
 (keep:∀ b o,b≠X.env.locals->b∉X.fs->b∉ch->s.heap.get? b=some o->H b=none->h'.get? b=some o)
 (slot:∀ b o,b≠X.env.locals->b∈X.fs->b∉ch->s.heap.get? b=some o->H b=none->∃ sl,h'.get? b=some { o with slots:=sl }) (free:∀ b o,b∉ch->s.heap.get? b=some o->H b=none->H' b=none)
 (there:∀ b o,b∉ch->s.heap.get? b=some o->∃ o',h'.get? b=some o')
 (tups:∀ b xs,H b=some (.tup xs)->H' b=some (.tup xs)) (frzs:∀ b o u,H b=some (.frz o u)->H' b=some (.frz o u)) (tbls:∀ b ps,H b=some (.tbl ps)->∃ more,H' b=some (.tbl (ps++more)))
 (ns:∀ m,s.heap.Ns X.env.locals m->h'.Ns X.env.locals m) (hok:HOk X.prog X.w H' h') (hg:AllBare g'):
 Inv X pins σ H' { s with heap:=h',gens:=g',drawn:=d',toks:=t' }:=by
 have neL:∀ b o,X.s₀.heap.get? b=some o->b≠X.env.locals:=fun b o e=>wat (wai (waj e) I.ok.above)
 have neC:∀ b o,X.s₀.heap.get? b=some o->b∉X.ex->b∉ch:=fun b o e hx hb=>by
  rcases(hch b hb).1 with z|z
  · exact hx z
  · exact absurd (wai (waj e) z) (waV _)
 have cellK:∀ x c,X.env.cells.lookup x=some c->∀ v,s.heap.IsCell c v->h'.IsCell c v:=fun x c e v ⟨o,ho,hd⟩=>by
  have nch:c∉ch:=fun z=>(hch c z).2.2.1 x c e rfl
  by_cases hc:c∈X.fs
  · obtain⟨sl,q⟩:=slot c o (I.cne x c e) hc nch ho (I.freeC x c e)
    exact⟨_,q,hd⟩
  · exact⟨o,keep c o (I.cne x c e) hc nch ho (I.freeC x c e),hd⟩
 refine⟨I.ok,I.os,hg,⟨fun b o e n hb hx=>?_,fun b o e n hb hx=>?_,fun b o e n hx=>?_,fun b o e hx=>?_,fun b xs e=>tups b xs (I.base.tups b xs e),fun b o xs e=>frzs b o xs (I.base.frzs b o xs e),fun b ps e=>?_⟩,?_,fun x c e=>?_,?_,fun x c e=>?_,fun p hp=>?_,hok,I.len⟩
 · exact keep b o (neL b o e) hb (neC b o e hx) (I.base.keep b o e n hb hx) (I.base.free b o e n hx)
 · obtain⟨sl,e1⟩:=I.base.slot b o e n hb hx
   obtain⟨sl',e2⟩:=slot b _ (neL b o e) hb (neC b o e hx) e1 (I.base.free b o e n hx);exact⟨sl',e2⟩
 · obtain⟨o',e1⟩:=I.base.there b o e hx
   exact free b o' (neC b o e hx) e1 (I.base.free b o e n hx)
 · obtain⟨o',e1⟩:=I.base.there b o e hx
   exact there b o' (neC b o e hx) e1
 · obtain⟨m1,e1⟩:=I.base.tbls b ps e
   obtain⟨m2,e2⟩:=tbls b _ e1;exact⟨m1++m2,by rw[e2,Array.append_assoc]⟩
 · obtain⟨m,hn,hl⟩:=I.loc
   refine⟨m,ns m hn,fun i x v e1 e2 e3=>?_⟩
   obtain⟨u,r,l⟩:=hl i x v e1 e2 e3;refine⟨u,r,?_⟩;rcases l with l|⟨k,c,e,z⟩
   · exact .inl l
   · exact .inr ⟨k,c,e,cellK x c e _ z⟩
 · obtain⟨v,z⟩:=I.cell x c e
   exact⟨v,cellK x c e v z⟩
 · obtain⟨m,⟨o,_,_,ho,_⟩,_⟩:=I.loc
   exact free _ o (fun z=>(hch _ z).2.1 rfl) ho I.free
 · obtain⟨v,o,ho,hd⟩:=I.cell x c e
   exact free c o (fun z=>(hch c z).2.2.1 x c e rfl) ho (I.freeC x c e)
 · obtain⟨e,n,ne,nf,d⟩:=I.pin p hp
   have nch:p.1∉ch:=fun z=>(hch p.1 z).2.2.2 p hp rfl
   exact⟨keep p.1 p.2 ne nf nch e n,free p.1 p.2 nch e n,ne,nf,d⟩
theorem Inv.un{t':Nat}(I:Inv X pins σ H s)(u:Un X.fs [] H H' s.heap h')(hok:HOk X.prog X.w H' h'):Inv X pins σ H' { s with heap:=h',toks:=t' }:=by
 obtain⟨m,⟨o,es,ep,ho,r⟩,_⟩:=id I.loc;obtain⟨sl,hL⟩:=u.any ho I.free (by simp)
 exact I.step (g':=s.gens) (d':=s.drawn) (ch:=[]) (fun _ z=>nomatch z) (fun b o _ hb _ e n=>u.keep b o e n hb (by simp)) (fun b o _ hb _ e n=>u.slot b o e n hb (by simp)) (fun b o _ e n=>u.free b o e n (by simp)) (fun b o _ e=>u.there b o e (by simp)) u.tups u.frzs u.tbls (fun m' hm=>by
  obtain⟨o',es',ep',ho',r'⟩:=hm;rw[ho]at ho';cases ho';exact⟨_,es',ep',hL,r'⟩) hok I.bare
theorem Inv.call{g':Array GenState}{t':Nat}{d':Drawn}{ch:List Addr}(I:Inv X pins σ H s)(u:Un (frs X.stack) ch H H' s.heap h')(hok:HOk X.prog X.w H' h')(hg:AllBare g')
 (hch:∀ b∈ch,(b∈X.ex∨X.s₀.heap.objs.size<=b)/\b≠X.env.locals/\(∀ x c,X.env.cells.lookup x=some c->c≠b)/\∀ p∈X.pn++pins,p.1≠b):
 Inv X pins σ H' { s with heap:=h',gens:=g',drawn:=d',toks:=t' }:=by
 obtain⟨m,⟨o,es,ep,ho,r⟩,_⟩:=id I.loc;obtain⟨sl,hL⟩:=u.any ho I.free fun z=>(hch _ z).2.1 rfl
 exact I.step (ch:=ch) hch (fun b o hL hb hc e n=>u.keep b o e n (fun z=>(waf.mp (I.stkSub b z)).elim hL hb) hc) (fun b o _ _ hc e n=>u.any e n hc) (fun b o hc e n=>u.free b o e n hc) (fun b o hc e=>u.there b o e hc) u.tups u.frzs u.tbls (fun m' hm=>by
  obtain⟨o',es',ep',ho',r'⟩:=hm;rw[ho]at ho';cases ho';exact⟨_,es',ep',hL,r'⟩) hok hg
theorem Inv.turned{t':Nat}{it:Addr}(I:Inv X pins σ H s)(k:∀ b o,b≠it->s.heap.get? b=some o->h'.get? b=some o)(hn:H it=none)(hL:it≠X.env.locals)
 (h1:it∈X.ex∨X.s₀.heap.objs.size<=it) (h2:∀ x c,X.env.cells.lookup x=some c->c≠it) (h3:∀ p∈X.pn++pins,p.1≠it):Inv X pins σ H { s with heap:=h',toks:=t' }:=by
 have nit:∀ b u,H b=some u->b≠it:=fun b u e z=>by rw[z,hn]at e;cases e
 refine I.step (g':=s.gens) (d':=s.drawn) (ch:=[it]) (fun b hb=>?_) (fun b o _ _ hc e _=>k b o (fun z=>hc (by simp[z])) e) (fun b o _ _ hc e _=>⟨o.slots,k b o (fun z=>hc (by simp[z])) e⟩) (fun _ _ _ _ n=>n)
  (fun b o hc e=>⟨o,k b o (fun z=>hc (by simp[z])) e⟩) (fun _ _ e=>e) (fun _ _ _ e=>e) (fun b ps e=>⟨#[],by rw[e];simp⟩) (fun m hm=>?_) (fun b u e=>?_) I.bare
 · have e:b=it:=by simpa using hb
   subst e;exact⟨h1,hL,h2,h3⟩
 · obtain⟨o,es,ep,ho,r⟩:=hm
   exact⟨o,es,ep,k _ o (Ne.symm hL) ho,r⟩
 · refine(I.hok b u e).stay (fun c v hc q=>k c v ?_ q) (fun _ q=>q) fun _ _ q=>q
   rcases hc with z|z
   · rw[z];exact nit b u e
   · exact nit c _ z
theorem Inv.tok(I:Inv X pins σ H s)(t:Nat):Inv X pins σ H { s with toks:=t }:=I.un (h':=s.heap) (t':=t) Un.refl I.hok
theorem Inv.kept{t':Nat}(I:Inv X pins σ H s)(k:∀ b u,s.heap.get? b=some u->h'.get? b=some u):Inv X pins σ H { s with heap:=h',toks:=t' }:=I.un (Un.kept k) (I.hok.kept k)
theorem Inv.laid{a:Addr}{o:HO}{t':Nat}(I:Inv X pins σ H s)(k:∀ b u,s.heap.get? b=some u->h'.get? b=some u)(hp:s.heap.objs.size<=a)(new:ObjOk X.prog X.w (upd H a o) h' a o):
 Inv X pins σ (upd H a o) { s with heap:=h',toks:=t' }:=I.un (Un.laid k hp (I.hok.fresh hp)) (I.hok.laid k hp new)
theorem Inv.write{x e:Addr}{o:HO}{t':Nat}(I:Inv X pins σ H s)(mu:Mut (H x))(he:e=x∨H e=some (.own x))(k:∀ b u,b≠e->s.heap.get? b=some u->h'.get? b=some u)(heo:∃ u,h'.get? e=some u)
 (new:ObjOk X.prog X.w (upd H x o) h' x o):Inv X pins σ (upd H x o) { s with heap:=h',toks:=t' }:=I.un (Un.write mu he k heo) (I.hok.write mu he k heo new)
theorem Inv.pins_of{pins':LAO}(I:Inv X pins σ H s)(h:∀ p∈pins',s.heap.get? p.1=some p.2/\H p.1=none/\p.1≠X.env.locals/\p.1∉X.fs/\∀ v,p.2.data≠.cell v):Inv X pins' σ H s:=
 ⟨I.ok,I.os,I.bare,I.base,I.loc,I.cell,I.free,I.freeC,fun p hp=>(wap.mp hp).elim (fun z=>I.pin p (List.mem_append_left _ z)) (h p),I.hok,I.len⟩
theorem qjA{N:LSt}(hN:N.Nodup){i j:Nat}{x:Str}(a:N[i]? =some x)(b:N[j]? =some x):i=j:=by
 obtain⟨h1,e1⟩:=List.getElem?_eq_some_iff.mp a;obtain⟨h2,e2⟩:=List.getElem?_eq_some_iff.mp b;exact(List.getElem_inj hN).mp (e1.trans e2.symm)
theorem qgE{M:Model}{A:Around}{E:VSP}{i:Nat}{x:Str}{v:V}{u:Value}{Q:Unit->Shared->Prop}(I:Inv X pins σ H s)(hN:X.N.Nodup)(hi:X.N[i]? =some x)(hx:Loc X.env.scope x)(r:RelV v u)
 (h:∀ s',Inv X pins (σ.set i (some v)) H s'->(∃ a,Heap.SameBut a s.heap s'.heap/\(a=X.env.locals∨X.env.cells.lookup x=some a))->Q () s') (hf:X.fn x=true∨X.env.scope.names.lookup x=some .local:=by first|exact .inl rfl|exact .inr rfl|assumption):wpAny M A (storeName X.env x u) Q E s:=by
 obtain⟨m,hn,hl⟩:=id I.loc;have hcls:(X.env.scope.kind== .class||(X.env.scope.kind== .module&&X.env.locals != X.env.globals))=false:=by rw[I.ok.kind];rfl
 have hiσ:i<σ.length:=by rw[I.len];exact(List.getElem?_eq_some_iff.mp hi).1
 have cne:=I.cne;have tracked:∀ {a:Addr} {h':Heap},(∃ o,s.heap.get? a=some o/\H a=none)->Heap.SameBut a s.heap h'->HOk X.prog X.w H h':=fun {a h'} ha hs b ob e=>by
  obtain⟨_,_,hfree⟩:=ha;refine(I.hok b ob e).stay (fun c w' hc q=>(hs.2 c ?_).trans q) (fun _ q=>q) fun _ _ q=>q
  rintro rfl;rcases hc with rfl|hc
  · rw[hfree]at e;cases e
  · rw[hfree]at hc;cases hc
 rcases hx with hk|hk
 · refine wpAny_storeName_local hk hn (fun h' hn' hs=>?_) hcls
   obtain⟨oL,_,_,hoL,_⟩:=id hn;refine h _ ⟨I.ok,I.os,I.bare,⟨fun b o e n hb hx=>?_,fun b o e n hb hx=>?_,I.base.free,fun b o e hx=>?_,I.base.tups,I.base.frzs,I.base.tbls⟩,⟨_,hn',fun j y v' e1 e2 e3=>?_⟩,fun y c e=>?_,I.free,I.freeC,fun p hp=>?_,tracked ⟨oL,hoL,I.free⟩ hs,by simpa using I.len⟩ ⟨_,hs,.inl rfl⟩
   · exact(hs.2 b (wat (wai (waj e) I.ok.above))).trans (I.base.keep b o e n hb hx)
   · obtain⟨sl,e1⟩:=I.base.slot b o e n hb hx
     exact⟨sl,(hs.2 b (wat (wai (waj e) I.ok.above))).trans e1⟩
   · obtain⟨o',e1⟩:=I.base.there b o e hx
     exact⟨o',(hs.2 b (wat (wai (waj e) I.ok.above))).trans e1⟩
   · by_cases hj:j=i
     · subst hj
       rw[hi]at e1;cases e1;rw[List.getElem?_set_self hiσ]at e2;cases e2;exact⟨u,r,.inl ⟨hk,by simp⟩⟩
     · rw[List.getElem?_set_ne (Ne.symm hj)]at e2
       obtain⟨u',r',q⟩:=hl j y v' e1 e2 e3;refine⟨u',r',?_⟩;rcases q with⟨k,e⟩|⟨k,c,e,z⟩
       · refine .inl ⟨k,?_⟩
         have:y≠x:=fun e=>hj (qjA hN e1 (e ▸ hi))
         simp[this,e]
       · exact .inr ⟨k,c,e,z.sameBut hs (cne y c e)⟩
   · obtain⟨w',z⟩:=I.cell y c e
     exact⟨w',z.sameBut hs (cne y c e)⟩
   · obtain⟨e,n,ne,nf,d⟩:=I.pin p hp
     exact⟨(hs.2 p.1 ne).trans e,n,ne,nf,d⟩
 · have hfn:X.fn x=true:=by
    rcases hf with z|z
    · exact z
    · rw[z]at hk;cases hk
   obtain⟨c,hc⟩:=I.ok.has x (.inl hk);obtain⟨w',z⟩:=I.cell x c hc;refine wpAny_storeName_cell I.ok.kind hk hc z (fun h' hc' hs=>?_)
   obtain⟨oc,hoc,hocd⟩:=id z;refine h { s with heap:=h' } ⟨I.ok,I.os,I.bare,⟨fun b o e n hb hx=>?_,fun b o e n hb hx=>?_,I.base.free,fun b o e hx=>?_,I.base.tups,I.base.frzs,I.base.tbls⟩,⟨m,hn.sameBut hs (Ne.symm (cne x c hc)),fun j y v' e1 e2 e3=>?_⟩,fun y c' e=>?_,I.free,I.freeC,fun p hp=>?_,tracked ⟨oc,hoc,I.freeC x c hc⟩ hs,by simpa using I.len⟩ ⟨c,hs,.inr hc⟩
   · exact(hs.2 b (wat (wai (waj e) (I.ok.cab x c hfn hc)))).trans (I.base.keep b o e n hb hx)
   · obtain⟨sl,e1⟩:=I.base.slot b o e n hb hx
     exact⟨sl,(hs.2 b (wat (wai (waj e) (I.ok.cab x c hfn hc)))).trans e1⟩
   · obtain⟨o',e1⟩:=I.base.there b o e hx
     exact⟨o',(hs.2 b (wat (wai (waj e) (I.ok.cab x c hfn hc)))).trans e1⟩
   · by_cases hj:j=i
     · subst hj
       rw[hi]at e1;cases e1;rw[List.getElem?_set_self hiσ]at e2;cases e2;exact⟨u,r,.inr ⟨.inl hk,c,hc,hc'⟩⟩
     · rw[List.getElem?_set_ne (Ne.symm hj)]at e2
       obtain⟨u',r',q⟩:=hl j y v' e1 e2 e3;refine⟨u',r',?_⟩;rcases q with q|⟨k,c',e,z'⟩
       · exact .inl q
       · refine .inr ⟨k,c',e,z'.sameBut hs ?_⟩
         rintro rfl;exact hj (qjA hN e1 (I.ok.inj _ _ _ e hc ▸ hi))
   · by_cases hcc:c'=c
     · subst hcc;exact⟨_,hc'⟩
     · obtain⟨w2,z2⟩:=I.cell y c' e
       exact⟨w2,z2.sameBut hs hcc⟩
   · obtain⟨e,n,ne,nf,d⟩:=I.pin p hp
     refine⟨(hs.2 p.1 ?_).trans e,n,ne,nf,d⟩;intro q;rw[q,hoc]at e;have q':oc=p.2:=Option.some.inj e;exact d w' (by rw[<-q'];exact hocd)
theorem qd1{M:Model}{A:Around}{E:VSP}{i:Nat}{x:Str}{v:V}{u:Value}{Q:Unit->Shared->Prop}(I:Inv X pins σ H s)(hN:X.N.Nodup)(hi:X.N[i]? =some x)(hx:Loc X.env.scope x)(r:RelV v u)
 (h:∀ s',Inv X pins (σ.set i (some v)) H s'->Q () s') (hf:X.fn x=true∨X.env.scope.names.lookup x=some .local:=by first|exact .inl rfl|exact .inr rfl|assumption):wpAny M A (storeName X.env x u) Q E s:=
 qgE I hN hi hx r (fun s' I' _=>h s' I') hf
theorem Inv.call'{s':Shared}{ch:List Addr}(I:Inv X pins σ H s)(ho:s'.os=s.os)(u:Un (frs X.stack) ch H H' s.heap s'.heap)(hok:HOk X.prog X.w H' s'.heap)(hg:AllBare s'.gens)
 (hch:∀ b∈ch,(b∈X.ex∨X.s₀.heap.objs.size<=b)/\b≠X.env.locals/\(∀ x c,X.env.cells.lookup x=some c->c≠b)/\∀ p∈X.pn++pins,p.1≠b):Inv X pins σ H' s':=by
 obtain⟨h',g',d',t',o'⟩:=s';have e:o'=s.os:=ho;subst e;exact I.call (g':=g') (t':=t') (d':=d') u hok hg hch
end
abbrev XK:=Value->Option Addr->Hp->Prop
abbrev St:=List (Option V)
abbrev VK:=V->Hp->Prop
abbrev TE:=St->Hp->VK->Prop
abbrev TT:=St->Hp->(Bool->Hp->Prop)->Prop
abbrev TA:=St->Hp->(LV->Hp->Prop)->Prop
structure Ends where
 nx:St->Hp->Prop
 rt:VK
 bk:St->Hp->Prop:=fun _ _=>False
 ct:St->Hp->Prop:=fun _ _=>False
abbrev TS:=Ends->St->Hp->Prop
def EP(X:Cx)(pins:LAO)(σ:St)(Q:VK)(u:Value)(s':Shared):Prop:=∃ v H',Inv X pins σ H' s'/\RelV v u/\Q v H'
def TP(X:Cx)(pins:LAO)(σ:St)(Q:Bool->Hp->Prop)(b:Bool)(s':Shared):Prop:=∃ H',Inv X pins σ H' s'/\Q b H'
def AP(X:Cx)(pins:LAO)(σ:St)(Q:LV->Hp->Prop)(us:LVl)(s':Shared):Prop:=∃ vs H',Inv X pins σ H' s'/\Vals vs us/\Q vs H'
def SP(X:Cx)(pins:LAO)(D:Ends)(f:Flow)(s':Shared):Prop:=
 match f with
 | .next=>∃ σ' H',Inv X pins σ' H' s'/\D.nx σ' H'
 | .brk=>∃ σ' H',Inv X pins σ' H' s'/\D.bk σ' H'
 | .cont=>∃ σ' H',Inv X pins σ' H' s'/\D.ct σ' H'
 | .ret u=>∃ v σ' H',Inv X pins σ' H' s'/\RelV v u/\D.rt v H'
def PE(X:Cx)(e:Expr)(t:TE):Prop:=
 ∀ (pins:LAO) (s:Shared) (σ:St) (H:Hp) (Q:VK),Inv X pins σ H s->t σ H Q->wpAny (model X.prog X.w) X.A (eval e X.env) (EP X pins σ Q) X.xe s
def PT(X:Cx)(e:Expr)(t:TT):Prop:=
 ∀ (pins:LAO) (s:Shared) (σ:St) (H:Hp) (Q:Bool->Hp->Prop),Inv X pins σ H s->t σ H Q->wpAny (model X.prog X.w) X.A (isTrue e X.env (eval e X.env)) (TP X pins σ Q) X.xe s
def PW(X:Cx)(e:Expr)(t:TT):Prop:=
 ∀ (whole:Sem Value) (pins:LAO) (s:Shared) (σ:St) (H:Hp) (Q:Bool->Hp->Prop),Inv X pins σ H s->t σ H Q->wpAny (model X.prog X.w) X.A (isTrue e X.env whole) (TP X pins σ Q) X.xe s
theorem PW.pt{X:Cx}{e:Expr}{t:TT}(h:PW X e t):PT X e t:=h _
def PA(X:Cx)(es:LEx)(t:TA):Prop:=
 ∀ (pos:Pos) (pins:LAO) (s:Shared) (σ:St) (H:Hp) (Q:LV->Hp->Prop),Inv X pins σ H s->t σ H Q->wpAny (model X.prog X.w) X.A (spliced (backTo pos (starEach es X.env))) (AP X pins σ Q) X.xe s
def PS(X:Cx)(st:Stmt)(t:TS):Prop:=
 ∀ (pins:LAO) (s:Shared) (σ:St) (H:Hp) (D:Ends),Inv X pins σ H s->t D σ H->wpAny (model X.prog X.w) X.A (exec st X.env) (SP X pins D) X.xe s
def PSs(X:Cx)(st:List Stmt)(t:TS):Prop:=
 ∀ (pins:LAO) (s:Shared) (σ:St) (H:Hp) (D:Ends),Inv X pins σ H s->t D σ H->wpAny (model X.prog X.w) X.A (execs st X.env) (SP X pins D) X.xe s
theorem thn{α:Type}{t:Sem α}{Q Q':α->Shared->Prop}{M:Model}{A:Around}{E:VSP}{s:Shared}(h:wpAny M A t Q E s)(hQ:∀ a s,Q a s->Q' a s):wpAny M A t Q' E s:=wpAny_mono h hQ fun _ _ x=>x
section
variable {X:Cx}
def qCC(i:Nat):TE:=fun σ H Q=>∃ v,σ[i]? =some (some v)/\Q v H
def tC(v:V):TE:=fun _ H Q=>Q v H
theorem qtI{i:Nat}{x:Str}{pos:Pos}(hN:X.N[i]? =some x)(hv:Vis X.env.scope x)(hd:(x==("__debug__":Str))=false:=by decide)(hcd:(x==("__classdict__":Str))=false:=by decide):PE X (.Name x pos) (qCC i):=by
 intro pins s σ H Q I h;obtain⟨v,e,h⟩:=h;obtain⟨m,hn,hl⟩:=I.loc;obtain⟨u,r,l⟩:=hl i x v hN e hv;have fin:EP X pins σ Q u s:=⟨v,H,I,r,h⟩;rcases l with⟨hk,hm⟩|⟨hk,c,hc,hcell⟩
 · exact wpAny_Name (wpAny_loadName_local I.ok.kind hk hn hm fin) hd
 · rcases hk with hk|hk
   · exact wpAny_Name (wpAny_loadName_cell I.ok.kind hk hc hcell fin) hd
   · exact wpAny_Name (wpAny_loadName_free I.ok.kind hk hc hcell fin hcd) hd
theorem qtN{i j pos}:PE X (.Constant (.int i) j pos) (tC (.int i)):=fun _ _ _ H _ I h=>wpAny_Constant_int ⟨.int i,H,I.tok _,⟨_,rfl⟩,h⟩
theorem qw7{b j pos}:PE X (.Constant (.bool b) j pos) (tC (.bl b)):=fun _ _ _ H _ I h=>Constant_bool ⟨.bl b,H,I,rfl,h⟩
theorem qtM{j pos}:PE X (.Constant .none j pos) (tC .non):=fun _ _ _ H _ I h=>Constant_none ⟨.non,H,I,rfl,h⟩
theorem qps{x j pos}:PE X (.Constant (.str x) j pos) (tC (.str x)):=fun _ _ _ H _ I h=>Calls.Constant_str ⟨.str x,H,I.tok _,⟨_,rfl⟩,h⟩
def Gl(X:Cx)(x:Str):Prop:=X.env.kindOf x=some .globalImplicit
theorem qcv{E:VSP}{pins:LAO}{s:Shared}{σ:St}{H:Hp}{x:Str}{u:Value}{pos:Pos}{Q:VSP}(I:Inv X pins σ H s)(hg:Gl X x)(hm:X.mg x=some u)(h:Q u s)
 (hd:(x==("__debug__":Str))=false:=by decide):wpAny (model X.prog X.w) X.A (eval (.Name x pos) X.env) Q E s:=
 Calls.Name_function_global I.ok.kind hg (Calls.loadGlobal_global (by rw[I.ok.glob];exact I.mod.glob.keeps I.bk) hm h) hd
theorem qfy{E:VSP}{pins:LAO}{s:Shared}{σ:St}{H:Hp}{x:Str}{u:Value}{pos:Pos}{Q:VSP}(I:Inv X pins σ H s)(hg:Gl X x)(hm:X.mg x=none)(hv:bootBuiltins x=some u)(h:Q u s)
 (hn:x≠"__name__":=by decide) (hd:(x==("__debug__":Str))=false:=by decide):wpAny (model X.prog X.w) X.A (eval (.Name x pos) X.env) Q E s:=by
 obtain⟨mb,h1,h2⟩:=I.mod.blt;exact Calls.Name_function_global I.ok.kind hg (Calls.loadGlobal_builtin (by rw[I.ok.glob];exact I.mod.glob.keeps I.bk) hm (by rw[I.ok.blt];exact h1.keeps I.bk) ((h2 x hn).trans hv) h) hd
theorem qlT{x:Str}{v:V}{u:Value}{pos:Pos}(hg:Gl X x)(hm:X.mg x=some u)(r:RelV v u)(hd:(x==("__debug__":Str))=false:=by decide):PE X (.Name x pos) (tC v):=
 fun _ _ _ H _ I h=>qcv I hg hm ⟨v,H,I,r,h⟩ hd
theorem qqY{x:Str}{v:V}{u:Value}{pos:Pos}(hg:Gl X x)(hm:X.mg x=none)(hv:bootBuiltins x=some u)(r:RelV v u)(hn:x≠"__name__":=by decide)(hd:(x==("__debug__":Str))=false:=by decide):PE X (.Name x pos) (tC v):=
 fun _ _ _ H _ I h=>qfy I hg hm hv ⟨v,H,I,r,h⟩ hn hd
variable {a b:Expr}{ta tb:TE}{pos:Pos}
def PC(X:Cx)(op:CmpOp)(a b:Expr)(t:TE):Prop:=
 ∀ (pins:LAO) (s:Shared) (σ:St) (H:Hp) (Q:VK),Inv X pins σ H s->t σ H Q->
  wpAny (model X.prog X.w) X.A (eval a X.env) (fun v s₁=>wpAny (model X.prog X.w) X.A (eval b X.env) (fun u s₂=>wpAny (model X.prog X.w) X.A (compareOp op v u) (EP X pins σ Q) X.xe s₂) X.xe s₁) X.xe s
theorem qjB(b:Expr){op:CmpOp}(h:op≠.In)(h2:op≠.NotIn):behindInMarks op b=false:=by
 have e1:(op==CmpOp.In)=false:=by cases op<;>first|rfl|exact absurd rfl h
 have e2:(op==CmpOp.NotIn)=false:=by cases op<;>first|rfl|exact absurd rfl h2
 cases b<;>simp[behindInMarks,e1,e2]
def tB(t:TE):TT:=fun σ H Q=>t σ H fun x H1=>∃ c,x= .bl c/\Q c H1
theorem qpu{op:CmpOp}{t:TE}(h:PC X op a b t)(h1:behindInMarks op b=false:=by first|exact qjB _ (by decide) (by decide)|rfl):PE X (.Compare a [op] [b] pos) t:=fun pins s σ H Q I hw=>wpAny_Compare1 (h pins s σ H Q I hw) h1
theorem qlN{op:CmpOp}{t:TE}(h:PC X op a b t)(h1:behindInMarks op b=false:=by first|exact qjB _ (by decide) (by decide)|rfl):PT X (.Compare a [op] [b] pos) (tB t):=by
 intro pins s σ H Q I hw;refine wpAny_isTrue_Compare1 (thn (h pins s σ H _ I hw) fun v s1 h1=>thn h1 fun u s2 h2=>thn h2 fun c s3 ⟨x,H1,I1,r1,q1⟩=>?_) h1
 obtain⟨d,rfl,q⟩:=q1;cases r1;exact wpAny_truthy_bool ⟨H1,I1,q⟩
theorem qtx{e:Expr}{t:TE}(h:PE X e t)(he:∀ whole,isTrue e X.env whole=(do let v<-whole;standAt e.pos;holding [v] (truthy v)):=by intro _;rfl):PT X e (tB t):=by
 intro pins s σ H Q I hw;refine isTrue_plain (thn (h pins s σ H _ I hw) fun v s1 ⟨x,H1,I1,r1,q1⟩=>?_) (he _)
 obtain⟨d,rfl,q⟩:=q1;cases r1;exact wpAny_truthy_bool ⟨H1,I1,q⟩
variable {tA tB':TT}{rest:LEx}
def qCO(t u:TT):TT:=fun σ H Q=>t σ H fun c H1=>if c=true then u σ H1 Q else Q false H1
def tOr(t u:TT):TT:=fun σ H Q=>t σ H fun c H1=>if c=true then Q true H1 else u σ H1 Q
def qCI(t:TT):TT:=fun σ H Q=>t σ H fun c H1=>Q (!c) H1
theorem qqK(ha:PT X a tA):PW X (.BoolOp .And [a] pos) tA:=by
 intro wh pins s σ H Q I h;refine isTrue_and (thn (ha pins s σ H Q I h) fun c s1 e=>?_)
 cases c with
 |true=>exact isTrue_and_nil e
 |false=>exact e
theorem qtv(ha:PT X a tA):PW X (.BoolOp .Or [a] pos) tA:=by
 intro wh pins s σ H Q I h;refine isTrue_or (thn (ha pins s σ H Q I h) fun c s1 e=>?_)
 cases c with
 |false=>exact isTrue_or_nil e
 |true=>exact e
theorem qtw(ha:PT X a tA)(hb:PW X (.BoolOp .And (b::rest) pos) tB'):PW X (.BoolOp .And (a::b::rest) pos) (qCO tA tB'):=by
 intro wh pins s σ H Q I h;refine isTrue_and (thn (ha pins s σ H _ I h) fun c s1 ⟨H1,I1,q1⟩=>?_)
 cases c with
 |true=>exact hb wh pins s1 σ H1 Q I1 q1
 |false=>exact⟨H1,I1,q1⟩
theorem qwW(ha:PT X a tA)(hb:PW X (.BoolOp .Or (b::rest) pos) tB'):PW X (.BoolOp .Or (a::b::rest) pos) (tOr tA tB'):=by
 intro wh pins s σ H Q I h;refine isTrue_or (thn (ha pins s σ H _ I h) fun c s1 ⟨H1,I1,q1⟩=>?_)
 cases c with
 |true=>exact⟨H1,I1,q1⟩
 |false=>exact hb wh pins s1 σ H1 Q I1 q1
theorem qty(ha:PT X a tA):PT X (.UnaryOp .Not a pos) (qCI tA):=by
 intro pins s σ H Q I h;exact isTrue_not (ha pins s σ H (fun c H1=>Q (!c) H1) I h)
def qv4(ta tb:TE):TE:=fun σ H Q=>ta σ H fun x H1=>∃ c,x= .bl c/\if c=true then tb σ H1 Q else Q (.bl false) H1
def qCH(ta tb:TE):TE:=fun σ H Q=>ta σ H fun x H1=>∃ c,x= .bl c/\if c=true then Q (.bl true) H1 else tb σ H1 Q
def qvU(ta:TE):TE:=fun σ H Q=>ta σ H fun x H1=>∃ c,x= .bl c/\Q (.bl (!c)) H1
theorem qtK{op}{t:TE}(h:PE X a t):PE X (.BoolOp op [a] pos) t:=fun pins s σ H Q I hw=>BoolOp_one (h pins s σ H Q I hw)
theorem qtP(ha:PE X a ta)(hb:PE X (.BoolOp .And (b::rest) pos) tb):PE X (.BoolOp .And (a::b::rest) pos) (qv4 ta tb):=by
 intro pins s σ H Q I h;refine BoolOp_and (thn (ha pins s σ H _ I h) fun v s1 ⟨x,H1,I1,r1,q1⟩=>?_)
 obtain⟨c,rfl,q1⟩:=q1;cases r1;refine wpAny_truthy_bool ?_;cases c with
 |true=>exact hb pins s1 σ H1 Q I1 q1
 |false=>exact⟨.bl false,H1,I1,rfl,q1⟩
theorem qw3(ha:PE X a ta)(hb:PE X (.BoolOp .Or (b::rest) pos) tb):PE X (.BoolOp .Or (a::b::rest) pos) (qCH ta tb):=by
 intro pins s σ H Q I h;refine BoolOp_or (thn (ha pins s σ H _ I h) fun v s1 ⟨x,H1,I1,r1,q1⟩=>?_)
 obtain⟨c,rfl,q1⟩:=q1;cases r1;refine wpAny_truthy_bool ?_;cases c with
 |false=>exact hb pins s1 σ H1 Q I1 q1
 |true=>exact⟨.bl true,H1,I1,rfl,q1⟩
theorem qtL(ha:PE X a ta):PE X (.UnaryOp .Not a pos) (qvU ta):=by
 intro pins s σ H Q I h;refine UnaryOp_ (thn (ha pins s σ H _ I h) fun v s1 ⟨x,H1,I1,r1,q1⟩=>?_)
 obtain⟨c,rfl,q1⟩:=q1;cases r1;exact not_of (wpAny_truthy_bool ⟨.bl (!c),H1,I1,rfl,q1⟩)
def tIf(t:TT)(ta tb:TE):TE:=fun σ H Q=>t σ H fun c H1=>if c=true then ta σ H1 Q else tb σ H1 Q
theorem qod{c:Expr}(hc:PT X c tA)(ha:PE X a ta)(hb:PE X b tb):PE X (.IfExp c a b pos) (tIf tA ta tb):=by
 intro pins s σ H Q I h;refine wpAny_IfExp (thn (hc pins s σ H _ I h) fun d s1 ⟨H1,I1,q1⟩=>?_)
 cases d with
 |true=>exact ha pins s1 σ H1 Q I1 q1
 |false=>exact hb pins s1 σ H1 Q I1 q1
end
def SqL(K:Frg)(H:Hp)(a:Addr)(xs:LV):Prop:=
 Rd H a (.lst xs)∨
  ∃ (o:Obj) (its:Array Value) (n:Nat),K.lookup a=some o/\o.cls= .type "list"/\o.dict=none/\o.data= .seq its n/\its.size<=sizeLine/\Vals xs its.toList
def SqT(K:Frg)(H:Hp)(a:Addr)(xs:LV):Prop:=
 Rd H a (.tup xs)∨
  ∃ (o:Obj) (its:Array Value) (n:Nat),K.lookup a=some o/\o.cls= .type "tuple"/\o.data= .seq its n/\its.size<=sizeLine/\Vals xs its.toList
def qEk:Value->Option V
 | .none=>some .non
 | .bool b=>some (.bl b)
 | .int i _=>some (.int i)
 | .str x _=>some (.str x)
 | .bytes b _=>some (.byt b)
 | .float b _=>some (.flt b)
 | .ref a=>some (.ref a)
 | .type n=>some (.ty n)
 |_=>none
theorem RelV.abs{x:V}{u:Value}(r:RelV x u):qEk u=some x:=by
 cases x with
 |non=>cases r;rfl
 |bl _=>cases r;rfl
 |int _=>obtain⟨t,rfl⟩:=r;rfl
 |str _=>obtain⟨t,rfl⟩:=r;rfl
 |byt _=>obtain⟨t,rfl⟩:=r;rfl
 |flt _=>obtain⟨t,rfl⟩:=r;rfl
 |ref _=>cases r;rfl
 |ty _=>cases r;rfl
theorem RelV.inj{x y:V}{u:Value}(r:RelV x u)(q:RelV y u):x=y:=Option.some.inj (r.abs.symm.trans q.abs)
theorem Vals.inj:∀ {xs ys:LV} {us:LVl},Vals xs us->Vals ys us->xs=ys
 |_,_,_,.nil,.nil=>rfl
 |_,_,_,.cons r t,.cons r' t'=>by rw[r.inj r',Vals.inj t t']
section
variable {X:Cx}{pins:LAO}{σ:St}{H:Hp}{s:Shared}{a:Addr}{xs ys:LV}
theorem SqL.of{K:Frg}(h:H a=some (.lst xs)):SqL K H a xs:=.inl (.inl h)
theorem SqT.of{K:Frg}(h:H a=some (.tup xs)):SqT K H a xs:=.inl (.inl h)
theorem Inv.list(I:Inv X pins σ H s)(h:SqL X.K H a xs):∃ its:LVl,Vals xs its/\PlainL s.heap a its.toArray/\xs.length<=sizeLine:=by
 rcases h with h|⟨o,its,n,hk,hc,hd,hs,hz,r⟩
 · obtain⟨z,its,n,r,e⟩:=h.ok I.hok
   exact⟨its,r,⟨_,n,e,rfl,rfl,rfl⟩,z⟩
 · refine⟨its.toList,r,⟨o,n,I.kIn a o hk,hc,hd,by simpa using hs⟩,?_⟩
   have e:=r.length;simp only[Array.length_toList]at e;omega
theorem Inv.tuple(I:Inv X pins σ H s)(h:SqT X.K H a xs):∃ its:LVl,Vals xs its/\IsTup s.heap a its.toArray/\xs.length<=sizeLine:=by
 rcases h with h|⟨o,its,n,hk,hc,hs,hz,r⟩
 · obtain⟨z,its,r,p⟩:=h.ok I.hok
   exact⟨its,r,p,z⟩
 · refine⟨its.toList,r,⟨o,I.kIn a o hk,hc,n,by simpa using hs⟩,?_⟩
   have e:=r.length;simp only[Array.length_toList]at e;omega
theorem Inv.list_inj(I:Inv X pins σ H s)(h:SqL X.K H a xs)(h':SqL X.K H a ys):xs=ys:=by
 obtain⟨its,r,⟨o,n,e,_,_,d⟩,_⟩:=I.list h;obtain⟨its',r',⟨o',n',e',_,_,d'⟩,_⟩:=I.list h';rw[e]at e';cases e';rw[d]at d';injection d' with d1 _
 have:its=its':=by simpa using congrArg Array.toList d1
 subst this;exact r.inj r'
theorem Inv.tuple_inj(I:Inv X pins σ H s)(h:SqT X.K H a xs)(h':SqT X.K H a ys):xs=ys:=by
 obtain⟨its,r,⟨o,e,_,n,d⟩,_⟩:=I.tuple h;obtain⟨its',r',⟨o',e',_,n',d'⟩,_⟩:=I.tuple h';rw[e]at e';cases e';rw[d]at d';injection d' with d1 _
 have:its=its':=by simpa using congrArg Array.toList d1
 subst this;exact r.inj r'
end
abbrev Cx.wish(X:Cx)(E:VSP):Cx:={ X with xe:=E }
abbrev Cx.nox(X:Cx):Cx:=X.wish fun _ _=>False
theorem Cx.Ok.wish{X:Cx}(ok:X.Ok)(E:VSP):(X.wish E).Ok:=
 ⟨ok.mod,ok.kind,ok.glob,ok.blt,ok.above,ok.inj,ok.has,ok.cab,ok.hd,ok.frames,ok.stk,ok.exf,ok.bs,ok.bsz,ok.noex,ok.exfs,ok.funs,ok.frf⟩
theorem Cx.Ok.unwish{X:Cx}{E:VSP}(ok:(X.wish E).Ok):X.Ok:=
 ⟨ok.mod,ok.kind,ok.glob,ok.blt,ok.above,ok.inj,ok.has,ok.cab,ok.hd,ok.frames,ok.stk,ok.exf,ok.bs,ok.bsz,ok.noex,ok.exfs,ok.funs,ok.frf⟩
section
variable {X:Cx}{pins:LAO}{σ:St}{H:Hp}{s:Shared}{E:VSP}
theorem Inv.wish(I:Inv X pins σ H s)(E:VSP):Inv (X.wish E) pins σ H s:=⟨I.ok.wish E,I.os,I.bare,I.base,I.loc,I.cell,I.free,I.freeC,I.pin,I.hok,I.len⟩
theorem Inv.unwish(I:Inv (X.wish E) pins σ H s):Inv X pins σ H s:=⟨I.ok.unwish,I.os,I.bare,I.base,I.loc,I.cell,I.free,I.freeC,I.pin,I.hok,I.len⟩
theorem SP.unwish{D:Ends}{f:Flow}{s':Shared}(h:SP (X.wish E) pins D f s'):SP X pins D f s':=by
 cases f with
 |next=>obtain⟨σ',H',I,q⟩:=h;exact⟨σ',H',I.unwish,q⟩
 |brk=>obtain⟨σ',H',I,q⟩:=h;exact⟨σ',H',I.unwish,q⟩
 |cont=>obtain⟨σ',H',I,q⟩:=h;exact⟨σ',H',I.unwish,q⟩
 |ret u=>obtain⟨v,σ',H',I,r,q⟩:=h;exact⟨v,σ',H',I.unwish,r,q⟩
theorem PSs.nox{st:List Stmt}{t:TS}(h:PSs X.nox st t):PSs X st t:=fun pins s σ H D I hw=>
 wpAny_mono (h pins s σ H D (I.wish _) hw) (fun _ _ q=>q.unwish) fun _ _ z=>False.elim z
end
section
variable {X:Cx}{st:Stmt}{rest:List Stmt}{t u:TS}{e:Expr}{te:TE}{pos:Pos}
def qvV:TS:=fun D σ H=>D.nx σ H
def qCE(t u:TS):TS:=fun D σ H=>t { D with nx:=u D } σ H
theorem qqL:PSs X [] qvV:=fun _ _ σ H _ I h=>wpAny_execs_nil ⟨σ,H,I,h⟩
theorem qn7(h1:PS X st t)(h2:PSs X rest u):PSs X (st::rest) (qCE t u):=by
 intro pins s σ H D I h;refine wpAny_execs_cons (thn (h1 pins s σ H { D with nx:=u D } I h) fun f s1 q=>?_)
 cases f with
 |next=>
  obtain⟨σ',H',I',q⟩:=q;exact h2 pins s1 σ' H' D I' q
 |ret v=>exact q
 |brk=>exact q
 |cont=>exact q
theorem Inv.quiet{pins:LAO}{σ:St}{H:Hp}{s:Shared}(I:Inv X pins σ H s):interactive X.env=false:=by simp[interactive,I.ok.kind]
def qvZ(te:TE):TS:=fun D σ H=>te σ H fun _ H1=>D.nx σ H1
theorem qqM(he:PE X e te)(hs:swapsWith e none pos.line X.env=pure false:=by rfl):PS X (.Expr e pos) (qvZ te):=by
 intro pins s σ H D I h;exact wpAny_Expr_any (thn (he pins s σ H _ I h) fun v s1 ⟨x,H1,I1,r1,q1⟩=>⟨σ,H1,I1,q1⟩) I.quiet hs
def qCF(te:TE):TS:=fun D σ H=>te σ H D.rt
theorem qtA(he:PE X e te):PS X (.Return (some e) pos) (qCF te):=by
 intro pins s σ H D I h;exact wpAny_Return_some (thn (he pins s σ H _ I h) fun v s1 ⟨x,H1,I1,r1,q1⟩=>⟨x,σ,H1,I1,r1,q1⟩)
def qCK(c:TT)(t u:TS):TS:=fun D σ H=>c σ H fun b H1=>if b=true then t D σ H1 else u D σ H1
theorem qwY{c:Expr}{a b:List Stmt}{tc:TT}(hc:PT X c tc)(ha:PSs X a t)(hb:PSs X b u):PS X (.If c a b pos) (qCK tc t u):=by
 intro pins s σ H D I h;refine wpAny_If (thn (hc pins s σ H _ I h) fun d s1 ⟨H1,I1,q1⟩=>?_)
 cases d with
 |true=>exact ha pins s1 σ H1 D I1 q1
 |false=>exact hb pins s1 σ H1 D I1 q1
end
abbrev TG:=V->St->Hp->(St->Hp->Prop)->Prop
abbrev TGs:=LV->St->Hp->(St->Hp->Prop)->Prop
def PG(X:Cx)(target:Expr)(t:TG):Prop:=
 ∀ (pins:LAO) (s:Shared) (σ:St) (H:Hp) (v:V) (u:Value) (Q:St->Hp->Prop),Inv X pins σ H s->RelV v u->t v σ H Q->
  wpAny (model X.prog X.w) X.A (assign target X.env u) (fun _ s'=>∃ σ' H',Inv X pins σ' H' s'/\Q σ' H') X.xe s
def PGs(X:Cx)(ts:LEx)(t:TGs):Prop:=
 ∀ (pins:LAO) (s:Shared) (σ:St) (H:Hp) (vs:LV) (us:LVl) (Q:St->Hp->Prop),Inv X pins σ H s->Vals vs us->t vs σ H Q->
  wpAny (model X.prog X.w) X.A (assignInOrder ((assignEach ts X.env).map (·.2)) us) (fun _ s'=>∃ σ' H',Inv X pins σ' H' s'/\Q σ' H') X.xe s
abbrev qvD:=V->V->V->Hp->(Hp->Prop)->Prop
def qvE(X:Cx)(t:qvD):Prop:=
 ∀ (pins:LAO) (s:Shared) (σ:St) (H:Hp) (o i v:V) (ov iv u:Value) (Q:Hp->Prop),Inv X pins σ H s->RelV o ov->RelV i iv->RelV v u->t o i v H Q->
  wpAny (model X.prog X.w) X.A (setItem ov iv u) (fun _ s'=>∃ H',Inv X pins σ H' s'/\Q H') X.xe s
section
variable {X:Cx}{pos:Pos}
def qrE(i:Nat):TG:=fun v σ H Q=>Q (σ.set i (some v)) H
theorem qf3{i:Nat}{x:Str}(hN:X.N.Nodup)(hi:X.N[i]? =some x)(hx:Loc X.env.scope x)(hf:X.fn x=true∨X.env.scope.names.lookup x=some .local:=by first|exact .inl rfl|exact .inr rfl|assumption):PG X (.Name x pos) (qrE i):=by
 intro pins s σ H v u Q I r h;exact wpAny_assign_Name (qd1 I hN hi hx r (fun s' I'=>⟨_,H,I',h⟩) hf)
def qA5:TGs:=fun vs σ H Q=>vs= []/\Q σ H
def quF(t:TG)(u:TGs):TGs:=fun vs σ H Q=>∃ v r,vs=v::r/\t v σ H fun σ' H'=>u r σ' H' Q
theorem qlS:PGs X [] qA5:=by
 intro pins s σ H vs us Q I r h;obtain⟨e,h⟩:=h;subst e;cases r;exact assignInOrder_nil ⟨σ,H,I,h⟩
theorem qjw{e:Expr}{es:LEx}{t:TG}{u:TGs}(h1:PG X e t)(h2:PGs X es u)
 (hs:(assignEach (e::es) X.env).map (·.2)=assign e X.env::(assignEach es X.env).map (·.2):=by rfl):PGs X (e::es) (quF t u):=by
 intro pins s σ H vs us Q I r h;obtain⟨v,vr,e1,h⟩:=h;subst e1;cases r with
 |cons r rr=>
  rw[hs];refine assignInOrder_cons (thn (h1 pins s σ H _ _ _ I r h) fun _ s1 ⟨σ1,H1,I1,q1⟩=>?_)
  exact h2 pins s1 σ1 H1 _ _ Q I1 rr q1
def qA4(K:Frg)(n:Nat)(t:TGs):TG:=fun v σ H Q=>∃ a xs,v= .ref a/\SqT K H a xs/\xs.length=n/\t xs σ H Q
theorem qpr{es:LEx}{k:Nat}{t:TGs}{n:Nat}(hc:X.calm=true)(h:PGs X es t)
 (hn:(assignEach es X.env).length=n:=by rfl) (hst:(assignEach es X.env).findIdx? (·.1)=none:=by rfl):PG X (.Tuple es k pos) (qA4 X.K n t):=by
 intro pins s σ H v u Q I r hw;obtain⟨a,xs,e1,hq,hl,hw⟩:=hw;subst e1;cases r;obtain⟨its,rv,ht,hz⟩:=I.tuple hq;refine assign_Tuple_tuple (I.ok.hd hc) ht (by simp[hn,<-hl,rv.length]) hst fun h' hx=>?_
 have I1:Inv X pins σ H { s with heap:=h' }:=I.kept (t':=s.toks) fun b o e=>hx b o (wat (waj e)) e
 exact h pins _ σ H xs _ Q I1 (by simpa using rv) hw
def qDW(to ti:TE)(t:qvD):TG:=fun v σ H Q=>to σ H fun o H1=>ti σ H1 fun i H2=>t o i v H2 fun H3=>Q σ H3
theorem qtH{o i:Expr}{to ti:TE}{t:qvD}(ho:PE X o to)(hi:PE X i ti)(hs:qvE X t)
 (ha:∀ v,assign (.Subscript o i pos) X.env v=(do
  let ov<-holding [v] (eval o X.env)
  let iv<-holding [v,ov] (eval i X.env)
  standAt pos
  holding [v,ov,iv] (setItem ov iv v)
  release [v,ov,iv] []):=by intro _;rfl):PG X (.Subscript o i pos) (qDW to ti t):=by
 intro pins s σ H v u Q I r h;rw[ha];refine wpAny_bind (wpAny_holding (thn (ho pins s σ H _ I h) fun ov s1 ⟨x,H1,I1,r1,q1⟩=>?_))
 refine wpAny_bind (wpAny_holding (thn (hi pins s1 σ H1 _ I1 q1) fun iv s2 ⟨y,H2,I2,r2,q2⟩=>?_))
 refine wpAny_bind (wpAny_standAt (wpAny_bind (wpAny_holding (thn (hs pins s2 σ H2 x y v ov iv u _ I2 r1 r2 r q2) fun _ s3 ⟨H3,I3,q3⟩=>?_))))
 exact wpAny_release ⟨σ,H3,I3,q3⟩
def qAv(te:TE)(g:TG):TS:=fun D σ H=>te σ H fun x H1=>g x σ H1 D.nx
theorem qtE{tg e:Expr}{te:TE}{g:TG}(he:PE X e te)(hg:PG X tg g)(hs:swapsWithSole [tg] e pos.line X.env=pure false:=by rfl)(hw:swappedStores [tg] e X.env=pure none:=by rfl)
 (h1:(assignEach [tg] X.env).map (·.2)= [assign tg X.env]:=by rfl):PS X (.Assign [tg] e pos) (qAv te g):=by
 intro pins s σ H D I h;refine wpAny_Assign_stores (thn (he pins s σ H _ I h) fun v s1 ⟨x,H1,I1,r1,q1⟩=>?_) hs hw
 rw[h1];exact thn (hg pins s1 σ H1 x v _ I1 r1 q1) fun _ s2 q=>q
theorem qtz{i:Nat}{x:Str}{e:Expr}{te:TE}{pos':Pos}(hN:X.N.Nodup)(hi:X.N[i]? =some x)(hx:Loc X.env.scope x)(he:PE X e te)(hs:swapsWith e (some (.Name x pos')) pos.line X.env=pure false:=by rfl)(hf:X.fn x=true∨X.env.scope.names.lookup x=some .local:=by first|exact .inl rfl|exact .inr rfl|assumption):
 PS X (.Assign [.Name x pos'] e pos) (qAv te (qrE i)):=by
 intro pins s σ H D I h;refine wpAny_Assign_Name (thn (he pins s σ H _ I h) fun v s1 ⟨y,H1,I1,r1,q1⟩=>?_) hs
 exact qd1 I1 hN hi hx r1 (fun s2 I2=>⟨_,H1,I2,q1⟩) hf
def qCG(i j:Nat)(ta:TA):TS:=fun D σ H=>ta σ H fun vs H1=>∃ v w,vs= [v,w]/\D.nx ((σ.set i (some v)).set j (some w)) H1
theorem qtB{i j:Nat}{x y:Str}{a b:Expr}{ta:TA}{px py pt:Pos}{kt k2 pt2}(hc:X.calm=true)(hN:X.N.Nodup)(hi:X.N[i]? =some x)(hj:X.N[j]? =some y)(hij:i≠j)
 (hx:X.env.scope.names.lookup x=some .local) (hy:X.env.scope.names.lookup y=some .local) (ha:PA X [a,b] ta)
 (hw:swappedStores [.Tuple [.Name x px,.Name y py] kt pt] (.Tuple [a,b] k2 pt2) X.env=pure (some [x,y]))
 (hs:swapsWithSole [.Tuple [.Name x px,.Name y py] kt pt] (.Tuple [a,b] k2 pt2) pos.line X.env=pure false:=by rfl):
 PS X (.Assign [.Tuple [.Name x px,.Name y py] kt pt] (.Tuple [a,b] k2 pt2) pos) (qCG i j ta):=by
 intro pins s σ H D I h;rw[exec_Assign_arm];refine wpAny_bind (wpAny_standAt ?_);rw[hs];refine wpAny_bind (wpAny_pure ?_);rw[if_neg (by decide)]
 refine wpAny_bind (Tuple_ (thn (ha _ pins s σ H _ I h) fun us s1 ⟨vs,H1,I1,r1,q1⟩=>?_))
 obtain⟨v,w,e1,q1⟩:=q1;subst e1;obtain⟨u1,u2,rfl,rv,rw'⟩:∃ u1 u2,us= [u1,u2]/\RelV v u1/\RelV w u2:=by
  cases r1 with
  |cons p q=>
   cases q with
   |cons p' q'=>
    cases q';exact⟨_,_,rfl,p,p'⟩
 refine wpAny_newObj_type ?_ (by show 2<=sizeLine;decide)
 have I2:Inv X pins σ H1 { s1 with heap:=s1.heap.push { cls:=.type "tuple",data:=.seq [u1,u2].toArray } }:=I1.kept (t':=s1.toks) fun b o e=>Heap.get?_push_of_some _ e
 rw[hw];refine wpAny_bind (wpAny_pure ?_);show wpAny (model X.prog X.w) X.A (do rule "assign.swapped-stores";let items<-unpackItems (.ref s1.heap.objs.size) 2 none;assignInOrder [fun v=>bindName X.env y v,fun v=>bindName X.env x v] items.reverse;pure Flow.next) _ _ _
 refine wpAny_bind (wpAny_rule (wpAny_bind (unpackItems_tuple (items:=#[u1,u2]) (I.ok.hd hc) (IsTup.new s1.heap _) fun h' hx'=>?_)))
 have I3:=I2.kept (h':=h') (t':=s1.toks) fun b o e=>hx' b o (wat (waj e)) e
 show wpAny _ _ (assignInOrder [fun v=>bindName X.env y v,fun v=>bindName X.env x v] [u2,u1] >>= fun _=>pure Flow.next) _ _ _
 refine wpAny_bind (assignInOrder_cons (wpAny_bindName (qd1 I3 hN hj (.inl hy) rw' (fun s2 I4=>?_) (.inr hy))))
 refine assignInOrder_cons (wpAny_bindName (qd1 I4 hN hi (.inl hx) rv (fun s3 I5=>assignInOrder_nil (wpAny_pure ?_)) (.inr hx)))
 rw[List.set_comm _ _ (Ne.symm hij)]at I5;exact⟨_,H1,I5,q1⟩
end
structure It where
 go:Nat->Hp->Prop
 yld:Nat->Hp->V->Hp->Prop
 stop:Nat->Hp->Prop
def qo7(X:Cx)(pins:LAO)(H:Hp)(b:Addr):Prop:=
 H b=none/\b≠X.env.locals/\b∉X.fs/\(b∈X.ex∨X.s₀.heap.objs.size<=b)/\(∀ x c,X.env.cells.lookup x=some c->c≠b)/\∀ p∈X.pn++pins,p.1≠b
theorem Inv.fpOk{X:Cx}{pins:LAO}{σ:St}{H H':Hp}{s:Shared}{b:Addr}(I:Inv X pins σ H s)(hb:s.heap.objs.size<=b)(hn:H' b=none):qo7 X pins H' b:=by
 refine⟨hn,Nat.ne_of_gt (wai I.lt hb),I.nofs hb,.inr (waw I.sz hb),fun x c e z=>?_,fun p hp z=>?_⟩
 · obtain⟨v,q⟩:=I.cell x c e
   exact absurd (wai q.lt (by rw[z];exact hb)) (waV _)
 · exact absurd (wai (waj (I.pin p hp).1) (by rw[z];exact hb)) (waV _)
structure Turn(P:Program)(w:World)(K:Frg)(tg:Expr)(J:It)(fp:List Addr)(it:Addr)(tn:Nat->Heap->Prop):Prop where
 mem:it∈fp
 obj:∀ i h,tn i h->∀ b∈fp,∃ o,h.get? b=some o/\∀ v,o.data≠.cell v
 keep:∀ i h h',tn i h->(∀ b∈fp,∀ o,h.get? b=some o->h'.get? b=some o)->tn i h'
 item:∀ (X:Cx),X.prog=P->X.w=w->X.K=K->X.calm=true->∀ (i:Nat) (pins:LAO) (s:Shared) (σ:St) (H:Hp) (E:VSP),Inv X pins σ H s->(∀ b∈fp,qo7 X pins H b)->tn i s.heap->J.go i H->
  wpAny (model P w) X.A (pyNext (.ref it)) (fun r s1=>∃ u,r=some u/\
   wpAny (model P w) X.A (letOwnedTupleGo tg (.ref it) u) (fun _ s2=>∃ x H',Inv X pins σ H' s2/\RelV x u/\J.yld i H x H'/\tn (i+1) s2.heap/\∀ b∈fp,H' b=none) E s1) E s
 done:∀ (X:Cx),X.prog=P->X.w=w->X.K=K->X.calm=true->∀ (i:Nat) (pins:LAO) (s:Shared) (σ:St) (H:Hp) (E:VSP),Inv X pins σ H s->(∀ b∈fp,qo7 X pins H b)->tn i s.heap->J.stop i H->
  wpAny (model P w) X.A (pyNext (.ref it)) (fun r s1=>r=none/\Inv X pins σ H s1) E s
 self:∀ (A:Around) (i:Nat) (s:Shared) (Q:VSP) (E:VSP),tn i s.heap->Q (.ref it) s->wpAny (model P w) A (pyIter (.ref it)) Q E s
abbrev TI:=St->Hp->(It->Hp->Prop)->Prop
def PIE(X:Cx)(pins:LAO)(σ:St)(tg:Expr)(R:It->Hp->Prop)(itv:Value)(s2:Shared):Prop:=
 ∃ (it:Addr) (fp:List Addr) (tn:Nat->Heap->Prop) (J:It) (H':Hp),itv= .ref it/\Inv X pins σ H' s2/\Turn X.prog X.w X.K tg J fp it tn/\tn 0 s2.heap/\(∀ b∈fp,qo7 X pins H' b)/\R J H'
def PI(X:Cx)(tg iter:Expr)(wi:TI):Prop:=
 ∀ (pins:LAO) (s:Shared) (σ:St) (H:Hp) (R:It->Hp->Prop),Inv X pins σ H s->wi σ H R->
  wpAny (model X.prog X.w) X.A (eval iter X.env) (fun v s1=>wpAny (model X.prog X.w) X.A (pyIter v) (PIE X pins σ tg R) X.xe s1) X.xe s
theorem qmR{M:Model}{A:Around}{E:VSP}{s:Shared}{tg:Expr}{it:Addr}{u:Value}{o:Obj}{n:String}{vs:Array Value}{Q:Unit->Shared->Prop}(ho:s.heap.get? it=some o)(hc:o.cls= .type n)(hd:o.data= .fields vs)
 (hn:["enumerate","zip","dict_itemiterator","dict_reverseitemiterator","odict_iterator","itertools.zip_longest","itertools.pairwise"].contains n=false) (hQ:Q () s):wpAny M A (letOwnedTupleGo tg (.ref it) u) Q E s:=by
 unfold letOwnedTupleGo;cases tg<;>first
  |exact wpAny_pure hQ
  |(cases u<;>first
   |exact wpAny_pure hQ
   |(refine wpAny_bind (wpAny_load ho ?_)
     rw[hc,hd];show wpAny M A (if(["enumerate","zip","dict_itemiterator","dict_reverseitemiterator","odict_iterator","itertools.zip_longest","itertools.pairwise"].contains n&&vs[0]? ==some (rawInt _))=true then _ else _) Q E s
     rw[if_neg (by intro h;rw[hn,wbb]at h;cases h)]
     exact wpAny_pure hQ))
def Itl(K:Frg)(a:Addr):It:=
 ⟨fun i H=>∃ xs x,SqL K H a xs/\xs[i]? =some x,fun i H x H'=>H'=H/\∀ xs,SqL K H a xs->xs[i]? =some x,fun i H=>∃ xs,SqL K H a xs/\xs.length<=i⟩
def Itt(K:Frg)(a:Addr):It:=
 ⟨fun i H=>∃ xs x,SqT K H a xs/\xs[i]? =some x,fun i H x H'=>H'=H/\∀ xs,SqT K H a xs->xs[i]? =some x,fun i H=>∃ xs,SqT K H a xs/\xs.length<=i⟩
def Itr(lo:Int)(n:Nat):It:=⟨fun i _=>i<n,fun i H x H'=>H'=H/\x= .int (lo+i),fun i _=>n<=i⟩
theorem qk1{P:Program}{w:World}{K:Frg}{tg:Expr}(a it:Addr):Turn P w K tg (Itl K a) [it] it (fun i h=>h.IsListIter it a i) where
 mem:=by simp
 obj:=fun i h st b hb=>by
  have e:b=it:=by simpa using hb
  subst e;obtain⟨o,e,c,d⟩:=st;exact⟨o,e,fun v z=>by rw[d]at z;cases z⟩
 keep:=fun i h h' st k=>st.at fun o e=>k it (by simp) o e
 item:=by
  intro X hP hw hK hc i pins s σ H E I hf st hg;subst hP hw hK;obtain⟨xs,x,hq,hx⟩:=hg;obtain⟨its,rv,p,hz⟩:=I.list hq;obtain⟨u,hu,ru⟩:=rv.get hx;obtain⟨f0,f1,f2,f3,f4,f5⟩:=hf it (by simp)
  refine wpAny_pyNext_list_item st p.isList (x:=u) (by simpa using hu) fun h' st' sb=>?_
  have I1:Inv X pins σ H { s with heap:=h' }:=I.turned (t':=s.toks) (fun b o hb e=>(sb.2 b hb).trans e) f0 f1 f3 f4 f5
  obtain⟨o,e,c,d⟩:=id st';exact⟨u,rfl,qmR (s:={ s with heap:=h' }) e c d (by decide) ⟨x,H,I1,ru,⟨rfl,fun ys hy=>by rw[I.list_inj hy hq];exact hx⟩,st',fun b hb=>(hf b hb).1⟩⟩
 done:=by
  intro X hP hw hK hc i pins s σ H E I hf st hg;subst hP hw hK;obtain⟨xs,hq,hx⟩:=hg;obtain⟨its,rv,p,hz⟩:=I.list hq;obtain⟨f0,f1,f2,f3,f4,f5⟩:=hf it (by simp)
  have hl:=rv.length;exact wpAny_pyNext_list_end (I.ok.hd hc) st p.isList (by simp;omega) fun h' eb=>⟨rfl,I.turned (t':=s.toks) (fun b o hb e=>eb b o hb e) f0 f1 f3 f4 f5⟩
 self:=fun _ _ _ _ _ st h=>wpAny_pyIter_listiter st h
theorem qfn{P:Program}{w:World}{K:Frg}{tg:Expr}(a it:Addr):Turn P w K tg (Itt K a) [it] it (fun i h=>h.IsTupleIter it a i) where
 mem:=by simp
 obj:=fun i h st b hb=>by
  have e:b=it:=by simpa using hb
  subst e;obtain⟨o,e,c,d⟩:=st;exact⟨o,e,fun v z=>by rw[d]at z;cases z⟩
 keep:=fun i h h' st k=>st.at fun o e=>k it (by simp) o e
 item:=by
  intro X hP hw hK hc i pins s σ H E I hf st hg;subst hP hw hK;obtain⟨xs,x,hq,hx⟩:=hg;obtain⟨its,rv,p,hz⟩:=I.tuple hq;obtain⟨u,hu,ru⟩:=rv.get hx;obtain⟨f0,f1,f2,f3,f4,f5⟩:=hf it (by simp)
  refine wpAny_pyNext_tuple_item st (show s.heap.IsTuple a its.toArray from p) (x:=u) (by simpa using hu) fun h' st' sb=>?_
  have I1:Inv X pins σ H { s with heap:=h' }:=I.turned (t':=s.toks) (fun b o hb e=>(sb.2 b hb).trans e) f0 f1 f3 f4 f5
  obtain⟨o,e,c,d⟩:=id st';exact⟨u,rfl,qmR (s:={ s with heap:=h' }) e c d (by decide) ⟨x,H,I1,ru,⟨rfl,fun ys hy=>by rw[I.tuple_inj hy hq];exact hx⟩,st',fun b hb=>(hf b hb).1⟩⟩
 done:=by
  intro X hP hw hK hc i pins s σ H E I hf st hg;subst hP hw hK;obtain⟨xs,hq,hx⟩:=hg;obtain⟨its,rv,p,hz⟩:=I.tuple hq;obtain⟨f0,f1,f2,f3,f4,f5⟩:=hf it (by simp)
  have hl:=rv.length;exact wpAny_pyNext_tuple_end (I.ok.hd hc) st (show s.heap.IsTuple a its.toArray from p) (by simp;omega) fun h' eb=>⟨rfl,I.turned (t':=s.toks) (fun b o hb e=>eb b o hb e) f0 f1 f3 f4 f5⟩
 self:=fun _ _ _ _ _ st h=>wpAny_pyIter_tupleiter st h
theorem qjW{P:Program}{w:World}{K:Frg}{tg:Expr}(it:Addr)(lo:Int)(n:Nat):Turn P w K tg (Itr lo n) [it] it (fun i h=>IsRangeIter h it (lo+(i:Nat)*1) ((n:Int)-(i:Nat)) 1) where
 mem:=by simp
 obj:=fun i h st b hb=>by
  have e:b=it:=by simpa using hb
  subst e;exact⟨_,st,fun v z=>by
   have z':Data.fields _=Data.cell v:=z;cases z'⟩
 keep:=fun i h h' st k=>k it (by simp) _ st
 item:=by
  intro X hP hw hK hc i pins s σ H E I hf st hg;subst hP hw hK;obtain⟨f0,f1,f2,f3,f4,f5⟩:=hf it (by simp)
  have W:=Walks.range (prog:=X.prog) (w:=X.w) (I.ok.hd hc) it lo 1 n;refine W.item i s _ _ hg st fun v h' tk hv st' kk=>?_
  obtain⟨t,rfl⟩:=hv;have I1:Inv X pins σ H { s with heap:=h',toks:=tk }:=I.turned (fun b o hb e=>kk b o (by simpa using hb) e) f0 f1 f3 f4 f5
  refine⟨_,rfl,qmR (s:={ s with heap:=h',toks:=tk }) (n:="range_iterator") st' rfl rfl (by decide) ⟨.int (lo+i),H,I1,⟨t,?_⟩,⟨rfl,rfl⟩,st',fun b hb=>(hf b hb).1⟩⟩
  rw[Int.mul_one]
 done:=by
  intro X hP hw hK hc i pins s σ H E I hf st hg;subst hP hw hK;obtain⟨f0,f1,f2,f3,f4,f5⟩:=hf it (by simp)
  exact wpAny_pyNext_range_end (I.ok.hd hc) st (by have:n<=i:=hg;omega) fun h' eb=>⟨rfl,I.turned (t':=s.toks) (fun b o hb e=>eb b o hb e) f0 f1 f3 f4 f5⟩
 self:=fun _ _ _ _ _ st h=>wpAny_pyIter_rangeiter st h
section
variable {X:Cx}{tg:Expr}
theorem qnW{pins:LAO}{σ:St}{H:Hp}{s:Shared}{R:It->Hp->Prop}{E:VSP}{lo hi:Int}{t u v:Tok}{tk:Nat}(I:Inv X pins σ H s)(h1:-(2 ^ 62)<=lo)(h2:lo<2 ^ 62)(h3:-(2 ^ 62)<=hi)(h4:hi<2 ^ 62)
 (q:R (Itr lo (hi-lo).toNat) H):wpAny (model X.prog X.w) X.A (pyIter (.ref s.heap.objs.size)) (PIE X pins σ tg R) E { s with heap:=s.heap.push { cls:=.type "range",data:=.fields #[.int lo t,.int hi u,.int 1 v] },toks:=tk }:=by
 refine wpAny_pyIter_range (IsRange.new ..) (small_one h1 h2 h3 h4) ?_;have I1:Inv X pins σ H { s with heap:=s.heap.push { cls:=.type "range",data:=.fields #[.int lo t,.int hi u,.int 1 v] },toks:=tk }:=I.kept fun b o e=>Heap.get?_push_of_some _ e
 refine⟨(s.heap.push { cls:=.type "range",data:=.fields #[.int lo t,.int hi u,.int 1 v] }).objs.size,[(s.heap.push { cls:=.type "range",data:=.fields #[.int lo t,.int hi u,.int 1 v] }).objs.size],_,_,H,rfl,
  I1.kept (t':=tk) fun b o e=>Heap.get?_push_of_some _ e,qjW _ lo (hi-lo).toNat,?_,fun b hb=>?_,q⟩
 · have e1:lo+((0:Nat):Int)*1=lo:=by simp
   have e2:(((hi-lo).toNat:Nat):Int)-((0:Nat):Int)=Builtin.Range.rangeSize lo hi 1:=by rw[rangeSize_one];split<;>omega
   show IsRangeIter _ _ (lo+((0:Nat):Int)*1) ((((hi-lo).toNat:Nat):Int)-((0:Nat):Int)) 1;rw[e1,e2];exact Heap.get?_push_size _ rfl
 · have e:b=(s.heap.push { cls:=.type "range",data:=.fields #[.int lo t,.int hi u,.int 1 v] }).objs.size:=by simpa using hb
   subst e;exact I1.fpOk (wac _) (I1.hok.fresh (wac _))
def qxJ(ta:TA):TI:=fun σ H R=>ta σ H fun vs H1=>∃ j:Int,vs= [.int j]/\-(2 ^ 62)<=j/\j<2 ^ 62/\R (Itr 0 j.toNat) H1
theorem qlR{a:Expr}{ta:TA}{p pos:Pos}(hg:Gl X "range")(hm:X.mg "range" =none)(ha:PA X [a] ta)(hs:starEach [a] X.env= [(false,eval a X.env)]:=by rfl):PI X tg (.Call (.Name "range" p) [a] [] pos) (qxJ ta):=by
 intro pins s σ H R I h;refine Call_ (qfy I hg hm boot_range (waP (thn (ha pos pins s σ H _ I h) fun us s1 ⟨vs,H1,I1,r1,q1⟩=>?_) hs rfl))
 obtain⟨j,e,q1,q2,q⟩:=q1;subst e;cases r1 with
 |cons r rr=>
  cases rr;obtain⟨t,rfl⟩:=r;exact call_range_1 (qnW I1 (by omega) (by omega) q1 q2 (by simpa using q))
def qCL(wi:TI)(g:TG)(tb:TS):TS:=fun D σ H=>wi σ H fun J H1=>∃ W:Nat->Nat->St->Hp->Prop,(∃ m,W 0 m σ H1)/\∀ i m σ H,W i m σ H->
 (J.stop i H/\D.nx σ H)∨(J.go i H/\∃ N:St->Hp->Prop,(∀ σ' H',N σ' H'->∃ m',m'<m/\W (i+1) m' σ' H')/\∀ x H',J.yld i H x H'->g x σ H' fun σ2 H2=>tb { D with nx:=N,ct:=N,bk:=D.nx } σ2 H2)
def qdx(fp:List Addr)(h:Heap):LAO:=fp.filterMap fun b=>(h.get? b).map fun o=>(b,o)
theorem qdi{fp:List Addr}{h:Heap}{b:Addr}{o:Obj}(hb:b∈fp)(e:h.get? b=some o):(b,o)∈qdx fp h:=List.mem_filterMap.mpr ⟨b,hb,by rw[e];rfl⟩
theorem qg9{fp:List Addr}{h:Heap}{p:Addr×Obj}(hp:p∈qdx fp h):p.1∈fp/\h.get? p.1=some p.2:=by
 obtain⟨b,hb,e⟩:=List.mem_filterMap.mp hp;cases q:h.get? b with
 |none=>rw[q]at e;cases e
 |some o=>
  rw[q]at e;have e':(b,o)=p:=Option.some.inj e;subst e';exact⟨hb,q⟩
theorem Inv.pinned{pins:LAO}{σ:St}{H:Hp}{s:Shared}{fp:List Addr}(I:Inv X pins σ H s)(hf:∀ b∈fp,qo7 X pins H b)(ho:∀ b∈fp,∃ o,s.heap.get? b=some o/\∀ v,o.data≠.cell v):Inv X (pins++qdx fp s.heap) σ H s:=
 I.pins_of fun p hp=>(wap.mp hp).elim (fun z=>I.pin p (war _ z)) fun z=>by
  obtain⟨hb,e⟩:=qg9 z;obtain⟨f0,f1,f2,_⟩:=hf p.1 hb;obtain⟨o,e',d⟩:=ho p.1 hb;rw[e]at e';cases e';exact⟨e,f0,f1,f2,d⟩
theorem Inv.unpinned{pins pl:LAO}{σ:St}{H:Hp}{s:Shared}(I:Inv X (pins++pl) σ H s):Inv X pins σ H s:=I.pins_of fun p hp=>I.pin p (war _ (List.mem_append_left _ hp))
theorem qtC{iter:Expr}{body:List Stmt}{wi:TI}{g:TG}{tb:TS}{pos:Pos}(hp:PassesOwn (model X.prog X.w) X.A X.env X.xe)(hc:X.calm=true)(hi:PI X tg iter wi)(hg:PG X tg g)(hb:PSs X body tb)
 (hs:∀ x,foldedSetIterable iter X.env x=pure x:=by intro _;rfl):PS X (.For tg iter body [] pos) (qCL wi g tb):=by
 intro pins s σ H D I h;refine wpAny_For (thn (hi pins s σ H _ I h) fun v s1 h1=>thn h1 fun itv s2 h2=>?_) hs
 obtain⟨it,fp,tn,J,H2,e,I2,T,st2,f2,W,⟨m0,w0⟩,turn⟩:=h2;subst e;have stat:∀ {H':Hp},(∀ b∈fp,H' b=none)->∀ b∈fp,qo7 X pins H' b:=fun hn b hb=>⟨hn b hb,(f2 b hb).2⟩
 refine codeAny_forLoop_any (fun n s'=>∃ i σ' H',Inv X pins σ' H' s'/\tn i s'.heap/\(∀ b∈fp,H' b=none)/\W i n σ' H') ?_ m0 ⟨0,σ,H2,I2,st2,fun b hb=>(f2 b hb).1,w0⟩
 rintro n s3 ⟨i,σ3,H3,I3,st3,fr3,w3⟩;rcases turn i n σ3 H3 w3 with⟨stop,qn⟩|⟨go,N,hN,step⟩
 · refine wpAny_passesOwn hp (thn (T.done X rfl rfl rfl hc i pins s3 σ3 H3 X.xe I3 (stat fr3) st3 stop) fun r s4 ⟨hr,I4⟩=>?_)
   subst hr;exact wpAny_execs_nil ⟨σ3,H3,I4,qn⟩
 · refine wpAny_passesOwn hp (thn (T.item X rfl rfl rfl hc i pins s3 σ3 H3 X.xe I3 (stat fr3) st3 go) fun r s4 ⟨u,hr,h4⟩=>?_)
   subst hr;refine wpAny_passesOwn hp (thn h4 fun _ s5 ⟨x,H5,I5,r5,y5,st5,fr5⟩=>?_)
   have I5':=I5.pinned (stat fr5) (T.obj _ _ st5);refine wpAny_passesOwn hp (thn (hg _ s5 σ3 H5 x u _ I5' r5 (step x H5 y5)) fun _ s6 ⟨σ6,H6,I6,q6⟩=>?_)
   refine wpAny_passesOwn hp (thn (hb _ s6 σ6 H6 _ I6 q6) fun f s7 q7=>?_)
   have again:∀ {σ7:St} {H7:Hp},Inv X (pins++qdx fp s5.heap) σ7 H7 s7->N σ7 H7->∃ m,m<n/\∃ i σ' H',Inv X pins σ' H' s7/\tn i s7.heap/\(∀ b∈fp,H' b=none)/\W i m σ' H':=fun {σ7 H7} I7 n7=>by
    obtain⟨m',hm,w7⟩:=hN σ7 H7 n7;refine⟨m',hm,i+1,σ7,H7,I7.unpinned,T.keep _ _ _ st5 fun b hb o e=>(I7.pin (b,o) (war _ (war _ (qdi hb e)))).1,fun b hb=>?_,w7⟩
    obtain⟨o,e,d⟩:=T.obj _ _ st5 b hb;exact(I7.pin (b,o) (war _ (war _ (qdi hb e)))).2.1
   cases f with
   |next=>obtain⟨σ7,H7,I7,n7⟩:=q7;exact again I7 n7
   |cont=>obtain⟨σ7,H7,I7,n7⟩:=q7;exact again I7 n7
   |brk=>obtain⟨σ7,H7,I7,q7⟩:=q7;exact⟨σ7,H7,I7.unpinned,q7⟩
   |ret v=>obtain⟨x7,σ7,H7,I7,r7,q7⟩:=q7;exact⟨x7,σ7,H7,I7.unpinned,r7,q7⟩
end
abbrev R2:=V->V->Hp->VK->Prop
def OpR(X:Cx)(f:Value->Value->Sem Value)(r:R2):Prop:=
 ∀ (pins:LAO) (s:Shared) (σ:St) (H:Hp) (x y:V) (v u:Value) (Q:VK),Inv X pins σ H s->RelV x v->RelV y u->r x y H Q->
  wpAny (model X.prog X.w) X.A (f v u) (EP X pins σ Q) X.xe s
def UnR(X:Cx)(f:Value->Sem Value)(r:V->Hp->VK->Prop):Prop:=
 ∀ (pins:LAO) (s:Shared) (σ:St) (H:Hp) (x:V) (v:Value) (Q:VK),Inv X pins σ H s->RelV x v->r x H Q->
  wpAny (model X.prog X.w) X.A (f v) (EP X pins σ Q) X.xe s
def qbe(X:Cx)(f:Value)(r:LV->Hp->VK->Prop):Prop:=
 ∀ (pins:LAO) (s:Shared) (σ:St) (H:Hp) (xs:LV) (us:LVl) (Q:VK),Inv X pins σ H s->Vals xs us->r xs H Q->
  wpAny (model X.prog X.w) X.A (call f us) (EP X pins σ Q) X.xe s
def tOp(r:R2)(ta tb:TE):TE:=fun σ H Q=>ta σ H fun x H1=>tb σ H1 fun y H2=>r x y H2 Q
def tUn(r:V->Hp->VK->Prop)(ta:TE):TE:=fun σ H Q=>ta σ H fun x H1=>r x H1 Q
def rI(C:Int->Int->Prop)(g:Int->Int->V):R2:=fun x y H Q=>∃ i j,x= .int i/\y= .int j/\C i j/\Q (g i j) H
def rI0(g:Int->Int->V):R2:=fun x y H Q=>∃ i j,x= .int i/\y= .int j/\Q (g i j) H
def rU(g:Int->V):V->Hp->VK->Prop:=fun x H Q=>∃ i,x= .int i/\Q (g i) H
section
variable {X:Cx}{a b c:Expr}{ta tb tc:TE}{pos:Pos}
theorem qyd(ha:PE X a ta)(hb:PE X b tb){pins:LAO}{s:Shared}{σ:St}{H:Hp}{R:V->V->Hp->Prop}(I:Inv X pins σ H s)
 (h:ta σ H fun x H1=>tb σ H1 fun y H2=>R x y H2) {Q:VSP} {f:Value->Value->Sem Value}
 (hf:∀ v u s2 x y H2,Inv X pins σ H2 s2->RelV x v->RelV y u->R x y H2->wpAny (model X.prog X.w) X.A (f v u) Q X.xe s2):
 wpAny (model X.prog X.w) X.A (eval a X.env) (fun v s₁=>wpAny (model X.prog X.w) X.A (eval b X.env) (fun u s₂=>wpAny (model X.prog X.w) X.A (f v u) Q X.xe s₂) X.xe s₁) X.xe s:=by
 refine thn (ha pins s σ H _ I h) fun v s1 ⟨x,H1,I1,r1,q1⟩=>?_
 refine thn (hb pins s1 σ H1 _ I1 q1) fun u s2 ⟨y,H2,I2,r2,q2⟩=>?_
 exact hf v u s2 x y H2 I2 r1 r2 q2
theorem qw4{op:Operator}{r:R2}(ho:OpR X (binaryOp op) r)(ha:PE X a ta)(hb:PE X b tb):PE X (.BinOp a op b pos) (tOp r ta tb):=by
 intro pins s σ H Q I h;exact wpAny_BinOp (qyd ha hb I h fun v u s2 x y H2 I2 rx ry q=>ho pins s2 σ H2 x y v u Q I2 rx ry q)
theorem qw2{op:UnaryOp}{r:V->Hp->VK->Prop}(ho:UnR X (unaryOp op) r)(ha:PE X a ta):PE X (.UnaryOp op a pos) (tUn r ta):=by
 intro pins s σ H Q I h;exact UnaryOp_ (thn (ha pins s σ H _ I h) fun v s1 ⟨x,H1,I1,r1,q1⟩=>ho pins s1 σ H1 x v Q I1 r1 q1)
theorem opI{f:Value->Value->Sem Value}{C:Int->Int->Prop}{g:Int->Int->Int}
 (rule:∀ (i j:Int) (t u:Tok) (s:Shared) (Q:VSP) (E:VSP),C i j->Q (.int (g i j) s.toks) { s with toks:=s.toks+1 }->wpAny (model X.prog X.w) X.A (f (.int i t) (.int j u)) Q E s):
 OpR X f (rI C fun i j=>.int (g i j)):=by
 intro pins s σ H x y v u Q I rx ry h;obtain⟨i,j,rfl,rfl,hc,q⟩:=h;obtain⟨t,rfl⟩:=rx;obtain⟨t',rfl⟩:=ry;exact rule i j t t' s _ _ hc ⟨.int (g i j),H,I.tok _,⟨_,rfl⟩,q⟩
theorem qA1{f:Value->Value->Sem Value}{g:Int->Int->Int}
 (rule:∀ (i j:Int) (t u:Tok) (s:Shared) (Q:VSP) (E:VSP),Q (.int (g i j) s.toks) { s with toks:=s.toks+1 }->wpAny (model X.prog X.w) X.A (f (.int i t) (.int j u)) Q E s):
 OpR X f (rI0 fun i j=>.int (g i j)):=by
 intro pins s σ H x y v u Q I rx ry h;obtain⟨i,j,rfl,rfl,q⟩:=h;obtain⟨t,rfl⟩:=rx;obtain⟨t',rfl⟩:=ry;exact rule i j t t' s _ _ ⟨.int (g i j),H,I.tok _,⟨_,rfl⟩,q⟩
theorem qvv{f:Value->Value->Sem Value}{g:Int->Int->Bool}
 (rule:∀ (i j:Int) (t u:Tok) (s:Shared) (Q:VSP) (E:VSP),Q (.bool (g i j)) s->wpAny (model X.prog X.w) X.A (f (.int i t) (.int j u)) Q E s):
 OpR X f (rI0 fun i j=>.bl (g i j)):=by
 intro pins s σ H x y v u Q I rx ry h;obtain⟨i,j,rfl,rfl,q⟩:=h;obtain⟨t,rfl⟩:=rx;obtain⟨t',rfl⟩:=ry;exact rule i j t t' s _ _ ⟨.bl (g i j),H,I,rfl,q⟩
def qEz(i j:Int):Prop:=0<j/\j<1073741824
def qEy(i j:Int):Prop:=0<=j/\j<=1000000/\i.natAbs<2 ^ 64
def CMul(i j:Int):Prop:=(-(2 ^ 64)<i/\i<2 ^ 64)∨(-(2 ^ 64)<j/\j<2 ^ 64)
theorem CMul.ok{i j:Int}(h:CMul i j):IntMulOk i j:=by
 rcases h with⟨h1,h2⟩|⟨h1,h2⟩
 · exact .of_left (intBits_le_64 h1 h2)
 · exact .of_right (intBits_le_64 h1 h2)
theorem qt0:OpR X (binaryOp .Add) (rI0 fun i j=>.int (i+j)):=qA1 fun _ _ _ _ _ _ _ q=>add_int q
theorem qtU:OpR X (binaryOp .Sub) (rI0 fun i j=>.int (i-j)):=qA1 fun _ _ _ _ _ _ _ q=>sub_int q
theorem qtX:OpR X (binaryOp .Mult) (rI CMul fun i j=>.int (i*j)):=opI fun _ _ _ _ _ _ _ hc q=>mul_int q hc.ok
theorem qq4:OpR X (binaryOp .FloorDiv) (rI qEz fun i j=>.int (i / j)):=opI fun i j _ _ _ _ _ hc q=>by
 have h1:(0:Int)<j:=hc.1;have h2:j<1073741824:=hc.2;exact floordiv_int (by omega) (by rw[Int.fdiv_eq_ediv_of_nonneg i (by omega)];exact q) (.inl (PyProof.noPylong_small (by omega)))
theorem qtY:OpR X (binaryOp .Mod) (rI (fun _ j=>0<j) fun i j=>.int (i % j)):=opI fun i j _ _ _ _ _ hc q=>by
 have h1:(0:Int)<j:=hc;exact mod_int' (by omega) (by rw[Int.fmod_eq_emod_of_nonneg i (by omega)];exact q)
theorem qtW:OpR X (binaryOp .Pow) (rI qEy fun i j=>.int (i ^ j.toNat)):=opI fun _ _ _ _ _ _ _ hc q=>pow_int_small hc.1 hc.2.1 hc.2.2 q
theorem unI{f:Value->Sem Value}{g:Int->Int}
 (rule:∀ (i:Int) (t:Tok) (s:Shared) (Q:VSP) (E:VSP),Q (.int (g i) s.toks) { s with toks:=s.toks+1 }->wpAny (model X.prog X.w) X.A (f (.int i t)) Q E s):
 UnR X f (rU fun i=>.int (g i)):=by
 intro pins s σ H x v Q I rx h;obtain⟨i,rfl,q⟩:=h;obtain⟨t,rfl⟩:=rx;exact rule i t s _ _ ⟨.int (g i),H,I.tok _,⟨_,rfl⟩,q⟩
theorem qsC:UnR X (unaryOp .USub) (rU fun i=>.int (-i)):=unI fun _ _ _ _ _ q=>neg_int q
theorem qpR{pins:LAO}{σ:St}{H:Hp}{s:Shared}{Q:VK}{k k':Bool}(I:Inv X pins σ H s)(q:Q (.bl k) H)(e:k=k'):EP X pins σ Q (.bool k') s:=by
 subst e;exact⟨.bl k,H,I,rfl,q⟩
theorem qxb:OpR X (compareOp .Lt) (rI0 fun i j=>.bl (decide (i<j))):=qvv fun _ _ _ _ _ _ _ q=>lt_int q
theorem qxc:OpR X (compareOp .LtE) (rI0 fun i j=>.bl (decide (i<=j))):=qvv fun _ _ _ _ _ _ _ q=>le_int q
theorem qxd:OpR X (compareOp .Gt) (rI0 fun i j=>.bl (decide (j<i))):=qvv fun _ _ _ _ _ _ _ q=>gt_int q
theorem qxe:OpR X (compareOp .GtE) (rI0 fun i j=>.bl (decide (j<=i))):=qvv fun _ _ _ _ _ _ _ q=>ge_int q
theorem qtZ:OpR X (compareOp .Is) (fun x y H Q=>y= .non/\Q (.bl (decide (x= .non))) H):=by
 intro pins s σ H x y v u Q I rx ry h;obtain⟨rfl,q⟩:=h;cases ry;refine is_none_gen (qpR I q ?_);cases x<;>first
  |(cases rx;rfl)
  |(obtain⟨t,rfl⟩:=rx;rfl)
theorem qq3:OpR X (compareOp .IsNot) (fun x y H Q=>y= .non/\Q (.bl (!decide (x= .non))) H):=by
 intro pins s σ H x y v u Q I rx ry h;obtain⟨rfl,q⟩:=h;cases ry;refine isnot_none_gen (qpR I q ?_);cases x<;>first
  |(cases rx;rfl)
  |(obtain⟨t,rfl⟩:=rx;rfl)
def isObj:HO->Bool
 | .lst _=>true
 | .ins _ _ _=>true
 |_=>false
theorem qha{pins:LAO}{s:Shared}{σ:St}{H:Hp}{a:Addr}{o:HO}(I:Inv X pins σ H s)(h:H a=some o)(p:isObj o=true):∃ ob,s.heap.get? a=some ob/\ob.cls≠.type "tuple":=by
 cases o with
 |lst xs=>
  obtain⟨_,its,n,_,e⟩:xs.length<=sizeLine/\∃ (its:LVl) (n:Nat),Vals xs its/\s.heap.get? a=some { cls:=.type "list",data:=.seq its.toArray n }:=I.hok a _ h;exact⟨_,e,(by show Value.type "list"≠.type "tuple";decide+kernel)⟩
 |ins C dx fs=>
  have x:=I.hok a _ h;obtain⟨_,_,_,e,_⟩:=x;exact⟨_,e,(by show Value.ref C≠.type "tuple";exact fun z=>by cases z)⟩
 |_=>exact absurd (show false=true from p) wau
theorem qpx(b:Expr){op:CmpOp}(h:op≠.In:=by decide)(h2:op≠.NotIn:=by decide):behindInMarks op b=false:=by
 have e1:(op==CmpOp.In)=false:=by cases op<;>first|rfl|exact absurd rfl h
 have e2:(op==CmpOp.NotIn)=false:=by cases op<;>first|rfl|exact absurd rfl h2
 cases b<;>simp[behindInMarks,e1,e2]
theorem qlU{op:CmpOp}{r:R2}(ho:OpR X (compareOp op) r)(ha:PE X a ta)(hb:PE X b tb)(hm:behindInMarks op b=false):PE X (.Compare a [op] [b] pos) (tOp r ta tb):=by
 intro pins s σ H Q I h;exact wpAny_Compare1 (qyd ha hb I h fun v u s2 x y H2 I2 rx ry q=>ho pins s2 σ H2 x y v u Q I2 rx ry q) hm
def qsM(t:TE):TT:=fun σ H Q=>t σ H fun x H'=>∃ k,x= .bl k/\Q k H'
theorem qlM{op:CmpOp}{r:R2}(ho:OpR X (compareOp op) r)(ha:PE X a ta)(hb:PE X b tb)(hm:behindInMarks op b=false):PT X (.Compare a [op] [b] pos) (qsM (tOp r ta tb)):=by
 intro pins s σ H Q I h;refine wpAny_isTrue_Compare1 (thn (ha pins s σ H _ I h) fun v s1 ⟨x,H1,I1,r1,q1⟩=>thn (hb pins s1 σ H1 _ I1 q1) fun u s2 ⟨y,H2,I2,r2,q2⟩=>
  thn (ho pins s2 σ H2 x y v u _ I2 r1 r2 q2) fun c s3 ⟨z,H3,I3,r3,k,e,q3⟩=>?_) hm
 subst e;cases r3;exact wpAny_truthy_bool ⟨H3,I3,q3⟩
def qk8(r r':R2)(ta tb tc:TE):TE:=fun σ H Q=>ta σ H fun x H1=>tb σ H1 fun y H2=>r x y H2 fun z H3=>∃ k,z= .bl k/\
 (if k=true then tc σ H3 fun w' H4=>r' y w' H4 Q else Q (.bl false) H3)
theorem qoh{op op':CmpOp}{r r':R2}(ho:OpR X (compareOp op) r)(ho':OpR X (compareOp op') r')(ha:PE X a ta)(hb:PE X b tb)(hc:PE X c tc)
 (hm:lastMarks [op,op'] [b,c]=false:=by with_unfolding_all rfl):PE X (.Compare a [op,op'] [b,c] pos) (qk8 r r' ta tb tc):=by
 intro pins s σ H Q I h;refine Compare_chain (thn (ha pins s σ H _ I h) fun v s1 ⟨x,H1,I1,r1,q1⟩=>chain_link (thn (hb pins s1 σ H1 _ I1 q1) fun u s2 ⟨y,H2,I2,r2,q2⟩=>
  thn (ho pins s2 σ H2 x y v u _ I2 r1 r2 q2) fun d s3 ⟨z,H3,I3,r3,k,e,q3⟩=>?_)) hm
 subst e;cases r3;refine wpAny_truthy_bool ?_;cases k with
 |false=>exact ite_ff ⟨.bl false,H3,I3,rfl,q3⟩
 |true=>exact ite_tt (chain_last (thn (hc pins s3 σ H3 _ I3 q3) fun w' s4 ⟨z',H4,I4,r4,q4⟩=>ho' pins s4 σ H4 y z' u w' Q I4 r2 r4 q4))
theorem qn6{op op':CmpOp}{r r':R2}(ho:OpR X (compareOp op) r)(ho':OpR X (compareOp op') r')(ha:PE X a ta)(hb:PE X b tb)(hc:PE X c tc)
 (hm:lastMarks [op,op'] [b,c]=false:=by with_unfolding_all rfl):PT X (.Compare a [op,op'] [b,c] pos) (qsM (qk8 r r' ta tb tc)):=by
 intro pins s σ H Q I h;refine isTrue_chain (thn (ha pins s σ H _ I h) fun v s1 ⟨x,H1,I1,r1,q1⟩=>test_link (thn (hb pins s1 σ H1 _ I1 q1) fun u s2 ⟨y,H2,I2,r2,q2⟩=>
  thn (ho pins s2 σ H2 x y v u _ I2 r1 r2 q2) fun d s3 ⟨z,H3,I3,r3,k,e,q3⟩=>?_)) hm
 subst e;cases r3;refine wpAny_truthy_bool ?_;cases k with
 |false=>
  obtain⟨k',e',q'⟩:=q3;cases e';exact ite_ff ⟨H3,I3,q'⟩
 |true=>
  refine ite_tt (test_last (thn (hc pins s3 σ H3 _ I3 q3) fun w' s4 ⟨z',H4,I4,r4,q4⟩=>thn (ho' pins s4 σ H4 y z' u w' _ I4 r2 r4 q4) fun d' s5 ⟨z2,H5,I5,r5,k2,e2,q5⟩=>?_))
  subst e2;cases r5;exact wpAny_truthy_bool ⟨H5,I5,q5⟩
theorem qfx:(sizeLine:Nat)<2 ^ 63:=by rw[sizeLine_eq];decide
theorem qkn:OpR X (binaryOp .Add) (fun x y H Q=>∃ i j,x= .str i/\y= .str j/\i.length+j.length<=sizeLine/\Q (.str (i++j)) H):=by
 intro pins s σ H x y v u Q I rx ry h;obtain⟨i,j,rfl,rfl,hz,q⟩:=h;obtain⟨t,rfl⟩:=rx;obtain⟨t',rfl⟩:=ry;exact add_str (fun t' tk=>⟨.str (i++j),H,I.tok _,⟨_,rfl⟩,q⟩) hz
theorem vals1{x:V}{us:LVl}(r:Vals [x] us):∃ u,us= [u]/\RelV x u:=by
 cases r with
 |cons r1 r2=>cases r2;exact⟨_,rfl,r1⟩
theorem vals2{x y:V}{us:LVl}(r:Vals [x,y] us):∃ u w',us= [u,w']/\RelV x u/\RelV y w':=by
 cases r with
 |cons r1 r2=>
  cases r2 with
  |cons r3 r4=>cases r4;exact⟨_,_,rfl,r1,r3⟩
theorem qoY:qbe X (.builtin "ord") (fun xs H Q=>∃ x,xs= [.str x]/\x.length=1/\Q (.int (x.cps.getD 0 0:Nat)) H):=by
 intro pins s σ H xs us Q I r h;obtain⟨x,rfl,hz,q⟩:=h;obtain⟨u,rfl,t,rfl⟩:=vals1 r;exact ord_of_one hz ⟨.int _,H,I.tok _,⟨_,rfl⟩,q⟩
end
structure ObjM(h:Heap)(x dx C:Addr)(mA:SOV):Prop where
 obj:h.get? x=some (waO C dx)
 ns:h.Ns1 dx mA
 ne:dx≠x
theorem qma{h:Heap}{dx:Addr}{mA:SOV}(n:h.Ns1 dx mA):∃ od,h.get? dx=some od/\∀ name,PySem.W.lookIn name od=some (mA name):=by
 obtain⟨o,es,ep,ho,hd,hk,_,hm⟩:=n;refine⟨o,ho,fun name=>?_⟩
 have e:=hm name;unfold nsFind findBy at e;rw[<-Array.find?_toList]at e;unfold PySem.W.lookIn;rw[hd];dsimp only;split
 · rename_i y q
   rw[q]at e;exact congrArg some e
 · rename_i q
   rw[q]at e;have a:es.toList.any (·.refKey)=false:=by
    rw[List.any_eq_false];intro y hy;obtain⟨z,t,hkey⟩:=hk y (Array.mem_toList_iff.mp hy);simp[DictEntry.refKey,hkey]
   have a':¬es.toList.any (·.refKey)=true:=by rw[a];exact wau
   rw[if_neg a'];exact congrArg some e
theorem ObjM.look{h:Heap}{x dx C:Addr}{mA:SOV}(I:ObjM h x dx C mA):∃ od,PySem.W.InstAt h x (waO C dx) C (some od)/\∀ name,PySem.W.lookIn name od=some (mA name):=
 let⟨od,ho,hl⟩:=qma I.ns
 ⟨od,⟨I.obj,rfl,rfl,ho⟩,hl⟩
section
variable {prog:Program}{w:World}{A:Around}{E:VSP}{s:Shared}{K:Frg}{x dx C f:Addr}{mA:SOV}{name:Str}{v:Value}
theorem get_map{expr:Bool}{Q:VSP}(X:K.In s.heap)(I:ObjM s.heap x dx C mA)(hg:wa6 K C name=true)(hh:wba K C=true)
 (ha:PySem.W.findIn K (.ref C) name=some none) (hv:mA name=some v) (hv':PySem.W.handedIn v=true) (h:Q v { s with toks:=s.toks+1 }):
 wpAny (model prog w) A (getAttr (.ref x) name expr) Q E s:=by
 obtain⟨od,J,hl⟩:=I.look;exact PySem.W.get_value X J (PySem.W.plainGet_of hg).1 (PySem.W.findObj_own hh ha rfl (by rw[hl,hv])) hv' h
theorem qoK{pl:Sem Bool}{Q:Value×LVl->Shared->Prop}(X:K.In s.heap)(I:ObjM s.heap x dx C mA)(hg:wa6 K C name=true)
 (hf:PySem.W.findIn K (.ref C) name=some (some (.ref f))) (ht:PySem.W.isFn K (.ref f)=true) (hv:mA name=none) (h:Q (.ref f,[.ref x]) s):
 wpAny (model prog w) A (getMethod (.ref x) name pl) Q E s:=by
 obtain⟨od,J,hl⟩:=I.look;exact PySem.W.method_fn X J (PySem.W.plainGet_of hg).1 (PySem.W.plainGet_of hg).2 hf (beq_iff_eq.mp ht) (by show(PySem.W.lookIn name od).map (·.isSome)=some false;rw[hl,hv];rfl) h
theorem qqr{ns:LSt}{Q:Unit->Shared->Prop}(X:K.In s.heap)(I:ObjM s.heap x dx C mA)
 (hs:PySem.W.findIn K (.ref C) "__setattr__" =some (some (.builtin "object.__setattr__"))) (hp:PySem.W.plainOver K C=true) (ht:PySem.W.takerIn K C name=some none) (hh:wba K C=true)
 (hw:PySem.Within mA ns) (hsz:ns.length<=sizeLine)
 (h:∀ h',ObjM h' x dx C (fun y=>if y=name then some v else mA y)->Heap.SameBut dx s.heap h'->Q () { s with heap:=h',toks:=s.toks+2 }):
 wpAny (model prog w) A (setAttr (.ref x) name v) Q E s:=by
 obtain⟨od,J,hl⟩:=I.look;refine PySem.W.set_plain X J hs (PySem.W.osa_open (s:={ s with toks:=s.toks+1 }) (r:=none) X J hp ht fun b=>?_)
 obtain⟨cd,hc,hd'⟩:=PySem.W.any_some hh;have hx:s.heap.get? x=some ⟨.ref C,some dx,.plain,#[]⟩:=I.obj;refine wpAny_bind (wpAny_pure (wpAny_bind (wpAny_bind (wpAny_loadPart hx (wpAny_bind (PySem.W.Looks.here (s:={ s with toks:=s.toks+1 }) (PySem.W.looks_clsIn X hc) ?_))))))
 rw[hd'];refine wpAny_pure (a:=some dx) (wpAny_bind (wpAny_pure (wpAny_bind ?_)));refine wpAny_nsSet1 (s:={ s with toks:=s.toks+1 }) I.ns fun h' hn2 hs2=>?_
 obtain⟨oD,esD,epD,hoD,hdD,hcD⟩:=hn2.count (PySem.Within.cons name v hw);refine wpAny_bind (wpAny_lookBehind hoD (by rw[hdD];exact pastItsLine_dict (waw hcD (by rw[wah];omega))) ?_)
 exact wpAny_pure (h _ ⟨(hs2.2 _ (Ne.symm I.ne)).trans I.obj,hn2,I.ne⟩ hs2)
theorem qot{R:Result->Shared->Prop}{vs:LVl}{kw:List (Str×Value)}(X:K.In s.heap)(hm:PySem.W.makesIn K C=true)
 (hi:PySem.W.findIn K (.ref C) "__init__" =some (some (.ref f))) (hf:PySem.W.typeIn K (.ref f)=some (.type "function"))
 (h:codeAny (model prog w) (A.under (.builtin "type.__call__" ⟨.ref C::vs,kw⟩)) (.call (.ref f) ⟨.ref (s.heap.objs.size+1)::vs,kw⟩) (PySem.W.InitBack (s.heap.objs.size+1) R)
  { s with heap:=(s.heap.push waF).push (waO C s.heap.objs.size) }):
 codeAny (model prog w) A (.call (.ref C) ⟨vs,kw⟩) R s:=by
 obtain⟨hh,g,d,t,os⟩:=s;exact PySem.W.make_core (PySem.W.makes_of X hm) (PySem.W.looks_findIn X hi) (fun self=>PySem.W.bind_fn X self hf) (.inl rfl) h
end
def qf2(f:Str)(v:V):List (Str×V)->List (Str×V)
 | []=>[(f,v)]
 |(g,x)::r=>if g=f then(g,v)::r else(g,x)::qf2 f v r
theorem qeD(f g:Str)(v:V):∀ fs:List (Str×V),(qf2 f v fs).lookup g=if g=f then some v else fs.lookup g
 | []=>by
  show List.lookup g [(f,v)]=_
  by_cases h:g=f
  · have hb:(g==f)=true:=beq_iff_eq.mpr h
    simp only[List.lookup,hb,if_pos h]
  · have hb:(g==f)=false:=beq_eq_false_iff_ne.mpr h
    simp only[List.lookup,hb,if_neg h]
 |(k,x)::r=>by
  have ih:=qeD f g v r;rw[show qf2 f v ((k,x)::r)=(if k=f then(k,v)::r else(k,x)::qf2 f v r)from rfl]
  by_cases hk:k=f
  · rw[if_pos hk]
    by_cases h:g=k
    · have hb:(g==k)=true:=beq_iff_eq.mpr h
      simp only[List.lookup,hb,if_pos (h.trans hk)]
    · have hb:(g==k)=false:=beq_eq_false_iff_ne.mpr h
      simp only[List.lookup,hb,if_neg (fun e:g=f=>h (e.trans hk.symm))]
  · rw[if_neg hk]
    by_cases h:g=k
    · have hb:(g==k)=true:=beq_iff_eq.mpr h
      simp only[List.lookup,hb,if_neg (fun e:g=f=>hk (h.symm.trans e))]
    · have hb:(g==k)=false:=beq_eq_false_iff_ne.mpr h
      simp only[List.lookup,hb];exact ih
theorem qeK(f:Str)(v:V):∀ fs:List (Str×V),f∈(qf2 f v fs).map (·.1)/\∀ g,g∈fs.map (·.1)->g∈(qf2 f v fs).map (·.1)
 | []=>⟨by simp[qf2],fun g h=>by simp at h⟩
 |(k,x)::r=>by
  obtain⟨i1,i2⟩:=qeK f v r;rw[show qf2 f v ((k,x)::r)=(if k=f then(k,v)::r else(k,x)::qf2 f v r)from rfl]
  by_cases hk:k=f
  · rw[if_pos hk]
    subst hk;exact⟨by simp,fun g h=>by simpa using h⟩
  · rw[if_neg hk]
    refine⟨?_,fun g h=>?_⟩
    · rw[wae]
      exact waq _ i1
    · rw[wae]at h ⊢
      rcases waf.mp h with e|e
      · exact waf.mpr (.inl e)
      · exact waq _ (i2 g e)
theorem qeF(f:Str)(v:V):∀ fs:List (Str×V),(qf2 f v fs).length<=fs.length+1
 | []=>by simp[qf2]
 |(k,x)::r=>by
  have ih:=qeF f v r;rw[show qf2 f v ((k,x)::r)=(if k=f then(k,v)::r else(k,x)::qf2 f v r)from rfl]
  by_cases hk:k=f
  · rw[if_pos hk,wah,wah];omega
  · rw[if_neg hk,wah,wah];omega
theorem RelO.some_of{v:V}{o:OVl}(r:RelO (some v) o):∃ u,o=some u/\RelV v u:=by
 cases o with
 |none=>exact(show False from r).elim
 |some u=>exact⟨u,rfl,r⟩
theorem RelO.none_of{o:OVl}(r:RelO none o):o=none:=by
 cases o with
 |none=>rfl
 |some u=>exact(show False from r).elim
theorem qmQ{v:V}{u:Value}(r:RelV v u):PySem.W.handedIn u=true:=by
 cases v with
 |non=>cases(show u=Value.none from r);rfl
 |bl b=>cases(show u=Value.bool b from r);rfl
 |int i=>obtain⟨t,e⟩:=(show ∃ t,u=Value.int i t from r);cases e;rfl
 |str x=>obtain⟨t,e⟩:=(show ∃ t,u=Value.str x t from r);cases e;rfl
 |byt b=>obtain⟨t,e⟩:=(show ∃ t,u=Value.bytes b t from r);cases e;rfl
 |flt b=>obtain⟨t,e⟩:=(show ∃ t,u=Value.float b t from r);cases e;rfl
 |ref a=>cases(show u=Value.ref a from r);rfl
 |ty n=>cases(show u=Value.type n from r);rfl
section
variable {P:Program}{w:World}{H H':Hp}{h h':Heap}{a C dx:Addr}{fs fs':List (Str×V)}
theorem qi6(hok:HOk P w H h)(e:H a=some (.ins C dx fs)):∃ mA,ObjM h a dx C mA/\(∀ f,RelO (fs.lookup f) (mA f))/\PySem.Within mA (fs.map (·.1))/\fs.length<=1000/\H dx=some (.own a):=by
 obtain⟨d,z,ne,ob,mA,n,r,q⟩:=(show ObjOk P w H h a (.ins C dx fs)from hok a _ e)
 exact⟨mA,⟨ob,n,ne⟩,r,q,z,d⟩
end
structure Cls(K:Frg)(C:Addr):Prop where
 pg:wa6 K C Str.empty=true
 hd:wba K C=true
 po:PySem.W.plainOver K C=true
 sa:PySem.W.findIn K (.ref C) "__setattr__" =some (some (.builtin "object.__setattr__"))
theorem Cls.get{K:Frg}{C:Addr}(c:Cls K C)(f:Str):wa6 K C f=true:=c.pg
def NoAttr(K:Frg)(C:Addr)(f:Str):Prop:=PySem.W.findIn K (.ref C) f=some none
theorem NoAttr.taker{K:Frg}{C:Addr}{f:Str}(n:NoAttr K C f):PySem.W.takerIn K C f=some none:=by
 unfold PySem.W.takerIn;rw[show PySem.W.findIn K (.ref C) f=some none from n]
 rfl
structure Con(K:Frg)(C:Addr)(f:Str)(v:V)(u:Value):Prop where
 at_:PySem.W.findIn K (.ref C) f=some (some u)
 rel:RelV v u
 get:PySem.W.specialIn K u "__get__" =some none
 cp:PySem.W.copiedNames.contains f=false
structure Meth(K:Frg)(C:Addr)(m:Str)(f:Addr):Prop where
 at_:PySem.W.findIn K (.ref C) m=some (some (.ref f))
 fn:PySem.W.isFn K (.ref f)=true
 kp:PySem.W.keepIn K (.ref f)=true
section
variable {X:Cx}{pins:LAO}{σ:St}{H:Hp}{s:Shared}{a C dx:Addr}{fs:List (Str×V)}{f:Str}{v:V}{A:Around}{E:VSP}
theorem qkH{b:Bool}{Q:VSP}(I:Inv X pins σ H s)(e:H a=some (.ins C dx fs))(c:Cls X.K C)(n:NoAttr X.K C f)(l:fs.lookup f=some v)
 (h:∀ u s',Inv X pins σ H s'->RelV v u->Q u s'):wpAny (model X.prog X.w) A (getAttr (.ref a) f b) Q E s:=by
 obtain⟨mA,O,r,_,_,_⟩:=qi6 I.hok e;obtain⟨u,hu,ru⟩:=RelO.some_of (v:=v) (o:=mA f) (by rw[<-l];exact r f)
 exact get_map I.kIn O (c.get f) c.hd n hu (qmQ ru) (h u _ (I.tok _) ru)
theorem qfD{m:Str}{g:Addr}{pl:Sem Bool}{Q:Value×LVl->Shared->Prop}(I:Inv X pins σ H s)(e:H a=some (.ins C dx fs))(c:Cls X.K C)(k:Meth X.K C m g)(l:fs.lookup m=none)
 (h:Q (.ref g,[.ref a]) s):wpAny (model X.prog X.w) A (getMethod (.ref a) m pl) Q E s:=by
 obtain⟨mA,O,r,_,_,_⟩:=qi6 I.hok e;have hn:mA m=none:=RelO.none_of (by rw[<-l];exact r m)
 exact qoK I.kIn O (c.get m) k.at_ k.fn hn h
theorem qj1{y:V}{u:Value}{Q:Unit->Shared->Prop}(I:Inv X pins σ H s)(e:H a=some (.ins C dx fs))(c:Cls X.K C)(n:NoAttr X.K C f)(hl:fs.length<1000)(ry:RelV y u)
 (h:∀ s',Inv X pins σ (upd H a (.ins C dx (qf2 f y fs))) s'->Q () s'):wpAny (model X.prog X.w) A (setAttr (.ref a) f u) Q E s:=by
 obtain⟨mA,O,r,wi,_,ho⟩:=qi6 I.hok e;have hz:(fs.map (·.1)).length<=sizeLine:=by rw[wab,sizeLine_eq];omega
 refine qqr I.kIn O c.sa c.po n.taker c.hd wi hz fun h' O' sb=>h _ ?_
 have hd:∃ o,h'.get? dx=some o:=let⟨o,_,_,e',_⟩:=O'.ns;⟨o,e'⟩;refine I.write (x:=a) (e:=dx) (by rw[e];exact True.intro) (.inr ho) (fun b q hb z=>(sb.2 b hb).trans z) hd ?_
 refine⟨by rw[qaa O.ne];exact ho,?_,O.ne,O'.obj,_,O'.ns,fun g=>?_,fun g hg=>?_⟩
 · have:=qeF f y fs;omega
 · show RelO ((qf2 f y fs).lookup g) (if g=f then some u else mA g)
   rw[qeD]
   by_cases q:g=f
   · rw[if_pos q,if_pos q];exact ry
   · rw[if_neg q,if_neg q];exact r g
 · by_cases q:g=f
   · rw[q];exact(qeK f y fs).1
   · refine(qeK f y fs).2 g (wi g fun z=>hg ?_)
     show(if g=f then some u else mA g)=none
     rw[if_neg q];exact z
theorem Inv.made(I:Inv X pins σ H s):Inv X pins σ (upd (upd H s.heap.objs.size (.own (s.heap.objs.size+1))) (s.heap.objs.size+1) (.ins C s.heap.objs.size []))
 { s with heap:=(s.heap.push waF).push (waO C s.heap.objs.size) }:=by
 have e1:(s.heap.push waF).get? s.heap.objs.size=some waF:=Heap.get?_push_size s.heap rfl;have e2:((s.heap.push waF).push (waO C s.heap.objs.size)).get? (s.heap.objs.size+1)=some (waO C s.heap.objs.size):=by
  have:=Heap.get?_push_size (s.heap.push waF) (o:=waO C s.heap.objs.size) rfl
  rwa [Heap.size_push]at this
 have e3:(s.heap.push waF).Ns s.heap.objs.size (fun _=>none):=⟨waF,#[],_,e1,rfl,(fun e he=>absurd he (by simp)),fun _=>rfl⟩
 have I1:=I.laid (a:=s.heap.objs.size) (o:=.own (s.heap.objs.size+1)) (h':=s.heap.push waF) (t':=s.toks) (fun b u q=>Heap.get?_push_of_some _ q) (wac _) ⟨_,e1⟩
 refine I1.laid (a:=s.heap.objs.size+1) (o:=.ins C s.heap.objs.size []) (t':=s.toks) (fun b u q=>Heap.get?_push_of_some _ q) (Nat.le_of_eq (Heap.size_push _ _)) ?_
 have ne:s.heap.objs.size≠s.heap.objs.size+1:=wat (wa0 _);refine⟨by rw[qaa ne,qah],Nat.zero_le _,ne,e2,fun _=>none,(Heap.Ns1.of_empty e3).at fun o q=>Heap.get?_push_of_some _ q,fun _=>True.intro,fun y hy=>absurd rfl hy⟩
theorem qr7{prog:Program}{w:World}{env:Env}{e:Expr}{f:Str}{pos:Pos}{s:Shared}{Q:VSP}(hb:attributeBase e f env (eval e env)=eval e env)
 (h:wpAny (model prog w) A (eval e env) (fun o s₁=>wpAny (model prog w) A (getAttr o f true) Q E s₁) E s):wpAny (model prog w) A (eval (.Attribute e f pos) env) Q E s:=
 Attribute_any_ h (by rw[arm_eval_Attribute,hb])
end
def qCM(K:Frg)(ta:TE)(f:Str):TE:=fun σ H Q=>ta σ H fun x H1=>∃ a C dx fs v,x= .ref a/\H1 a=some (.ins C dx fs)/\Cls K C/\NoAttr K C f/\fs.lookup f=some v/\Q v H1
def qC7(K:Frg)(ta tv:TE)(f:Str):TS:=fun D σ H=>tv σ H fun y H1=>ta σ H1 fun x H2=>∃ a C dx fs,x= .ref a/\H2 a=some (.ins C dx fs)/\Cls K C/\NoAttr K C f/\fs.length<1000/\
 D.nx σ (upd H2 a (.ins C dx (qf2 f y fs)))
section
variable {X:Cx}{o e value:Expr}{f:Str}{pos pos' tpos:Pos}{ta tv:TE}
theorem qtO(he:PE X e ta)(hb:attributeBase e f X.env (eval e X.env)=eval e X.env):PE X (.Attribute e f pos) (qCM X.K ta f):=by
 intro pins s σ H Q I h;refine qr7 hb (thn (he pins s σ H _ I h) fun u s1 ⟨x,H1,I1,rx,a,C,dx,fs,v,ex,ea,c,n,l,q⟩=>?_)
 subst ex;obtain rfl:u=Value.ref a:=rx;exact qkH I1 ea c n l fun u' s2 I2 ru=>⟨v,H1,I2,ru,q⟩
theorem qtD(ha:PE X o ta)(hv:PE X value tv)(hs:swapsWith value (some (.Attribute o f pos')) pos.line X.env=pure false):PS X (.Assign [.Attribute o f pos'] value pos) (qC7 X.K ta tv f):=by
 intro pins s σ H D I h;refine plainObj_wpAny_Assign_Attribute (thn (hv pins s σ H _ I h) fun u s1 ⟨y,H1,I1,ry,q⟩=>thn (ha pins s1 σ H1 _ I1 q) fun ov s2 ⟨x,H2,I2,rx,a,C,dx,fs,ex,ea,c,n,l,q2⟩=>?_) hs
 subst ex;obtain rfl:ov=Value.ref a:=rx;exact qj1 I2 ea c n l ry fun s3 I3=>⟨σ,_,I3,q2⟩
end
section
variable {X:Cx}{pins:LAO}{σ:St}{H:Hp}{s:Shared}{A:Around}{E:VSP}{Q:VSP}{c:Value}{b:Bool}
inductive qnj(K:Frg)(H:Hp):V->Value->Prop where
 |non:qnj K H .non (.type "NoneType")
 |bl (x:Bool):qnj K H (.bl x) (.type "bool")
 |int (i:Int):qnj K H (.int i) (.type "int")
 |str (x:Str):qnj K H (.str x) (.type "str")
 |flt (x:UInt64):qnj K H (.flt x) (.type "float")
 |lst {a:Addr} {xs:LV} (e:H a=some (.lst xs)):qnj K H (.ref a) (.type "list")
 |frz {a:Addr} {o:Obj} {xs:LV} (e:H a=some (.frz o (.lst xs))):qnj K H (.ref a) (.type "list")
 |tup {a:Addr} {xs:LV} (e:H a=some (.tup xs)):qnj K H (.ref a) (.type "tuple")
 |dK {a:Addr} {kvs:List (Key×V)} (e:H a=some (.dK kvs)):qnj K H (.ref a) (.type "dict")
 |dT {a:Addr} {kvs:List (List qbW×V)} (e:H a=some (.dT kvs)):qnj K H (.ref a) (.type "dict")
 |ins {a C dx:Addr} {fs:List (Str×V)} (e:H a=some (.ins C dx fs)) (cl:Cls K C) (ha:PySem.W.findIn K (.ref C) "__class__" =some (some (.builtin "object.__class__")))
  (hn:PySem.W.specialIn K (.builtin "object.__class__") "__get__" =some (some (.builtin "getset_descriptor.__get__"))) (htk:PySem.W.takesIn K (.builtin "object.__class__")=some true)
  (hm:PySem.W.mroIn K C (.type "object")=some true):qnj K H (.ref a) (.ref C)
end
structure Room(k:Nat)(A:Around):Prop where
 hd:A.handled=none
 dp:A.depth+3*k+5<recursionLimit
 un:A.units+16*k+200<cLine
theorem Room.mono{j k:Nat}{A:Around}(r:Room k A)(h:j<=k):Room j A:=⟨r.hd,by have:=r.dp;omega,by have:=r.un;omega⟩
theorem Room.deeper{k:Nat}{A:Around}(r:Room (k+1) A)(env:Env):Room k (A.deeper env):=
 ⟨r.hd,by have:=r.dp;show A.depth+1+3*k+5<_;omega,by have:=r.un;show A.units+3+16*k+200<_;omega⟩
theorem qkq{A:Around}{C:Addr}{us:LVl}{kw:List (Str×Value)}:(A.under (.builtin "type.__call__" ⟨.ref C::us,kw⟩)).depth=A.depth+1:=by
 first|rfl|simp[Around.under,Code.weight,Code.isCreation,Code.isGuard,Code.isCaller,Code.frames,Code.isFrame,guardIds]
theorem qkp{A:Around}{C:Addr}{us:LVl}{kw:List (Str×Value)}:(A.under (.builtin "type.__call__" ⟨.ref C::us,kw⟩)).units=A.units+1:=by
 first|rfl|simp[Around.under,Code.cUnits,Code.frames,Code.isFrame]
theorem Room.make{k:Nat}{A:Around}(r:Room (k+1) A)(C:Addr)(us:LVl)(kw:List (Str×Value)):Room k (A.under (.builtin "type.__call__" ⟨.ref C::us,kw⟩)):=
 ⟨r.hd,by have:=r.dp;rw[qkq];omega,by have:=r.un;rw[qkp];omega⟩
theorem Room.depth{k:Nat}{A:Around}(r:Room k A):A.depth<recursionLimit:=by have:=r.dp;omega
theorem Room.units{k:Nat}{A:Around}(r:Room k A):A.units+64<cLine:=by have:=r.un;omega
def qvk:TA:=fun _ H Q=>Q [] H
def qv3(ta:TE)(tr:TA):TA:=fun σ H Q=>ta σ H fun x H1=>tr σ H1 fun xs H2=>Q (x::xs) H2
section
variable {X:Cx}{e:Expr}{es:LEx}{te:TE}{t:TA}{pos:Pos}
theorem qtQ:PA X [] qvk:=fun _ _ _ _ H Q I h=>Calls.spliced_nil ⟨[],H,I,.nil,h⟩
theorem qqZ(ha:PE X e te)(hr:PA X es t)(hs:starEach (e::es) X.env=(false,eval e X.env)::starEach es X.env:=by rfl):PA X (e::es) (qv3 te t):=by
 intro pos pins s σ H Q I h;rw[hs];show wpAny _ _ (spliced ((false,eval e X.env)::backTo pos (starEach es X.env))) _ _ s;refine Calls.spliced_cons (thn (ha pins s σ H _ I h) fun u s1 ⟨x,H1,I1,r1,q1⟩=>?_)
 exact thn (hr pos pins s1 σ H1 _ I1 q1) fun us s2 ⟨xs,H2,I2,r2,q2⟩=>⟨x::xs,H2,I2,.cons r1 r2,q2⟩
def qCD(t:TA):TE:=fun σ H Q=>t σ H fun xs H1=>xs.length<=sizeLine/\∀ p,H1 p=none->Q (.ref p) (upd H1 p (.tup xs))
def qCJ(t:TA):TE:=fun σ H Q=>t σ H fun xs H1=>xs.length<=sizeLine/\∀ p,H1 p=none->Q (.ref p) (upd H1 p (.lst xs))
theorem qtJ{x1}(h:PA X es t):PE X (.Tuple es x1 pos) (qCD t):=by
 intro pins s σ H Q I hq;refine wpAny_Tuple_spliced (thn (h pos pins s σ H _ I hq) fun us s1 ⟨xs,H1,I1,r,z,q⟩=>⟨by rw[<-r.length];exact z,?_⟩)
 have hf:H1 s1.heap.objs.size=none:=I1.hok.fresh (wac _);refine⟨.ref s1.heap.objs.size,upd H1 s1.heap.objs.size (.tup xs),I1.laid (t':=s1.toks) (fun b u e=>Heap.get?_push_of_some _ e) (wac _) ?_,rfl,q _ hf⟩
 exact⟨z,us,r,⟨_,Heap.get?_push_size _ rfl,rfl,_,rfl⟩⟩
theorem qpt(h:PA X es t):PE X (.List es pos) (qCJ t):=by
 intro pins s σ H Q I hq;refine wpAny_List_spliced (thn (h pos pins s σ H _ I hq) fun us s1 ⟨xs,H1,I1,r,z,q⟩=>⟨by rw[<-r.length];exact z,?_⟩)
 have hf:H1 s1.heap.objs.size=none:=I1.hok.fresh (wac _);refine⟨.ref s1.heap.objs.size,upd H1 s1.heap.objs.size (.lst xs),I1.laid (t':=s1.toks) (fun b u e=>Heap.get?_push_of_some _ e) (wac _) ?_,rfl,q _ hf⟩
 exact⟨z,us,0,r,Heap.get?_push_size _ rfl⟩
end
abbrev Sp:=LV->Hp->VK->XK->Prop
abbrev CXT:=List Env->Hp->Shared->XK->VSP
structure Env0(P:Program)(w:World)(K:Frg)(mg:SOV)(base:Heap)(A:Around)(outer:List Env)(s:Shared)(H:Hp):Prop where
 frames:A.frames=some outer
 mod:Mod K mg base
 bs:∀ b o,base.get? b=some o->s.heap.get? b=some o/\H b=none
 bsz:base.objs.size<=s.heap.objs.size
 funs:s.heap.FunFrames base outer
 frf:∀ b∈frs outer,H b=none
 hok:HOk P w H s.heap
 bare:AllBare s.gens
def CE(outer:List Env)(P:Program)(w:World)(H:Hp)(s:Shared)(Q:VK)(u:Value)(s':Shared):Prop:=
 ∃ v H',s'.os=s.os/\AllBare s'.gens/\Un (frs outer) [] H H' s.heap s'.heap/\HOk P w H' s'.heap/\RelV v u/\Q v H'
def CR(CX:CXT)(outer:List Env)(P:Program)(w:World)(H:Hp)(s:Shared)(Q:VK)(E:XK)(r:Result)(s':Shared):Prop:=
 match r with
 | .ok (.ret u)=>CE outer P w H s Q u s'
 | .ok _=>False
 | .error e=>CX outer H s E e s'
structure qdC(P:Program)(w:World)(K:Frg)(mg:SOV)(base:Heap)(CX:CXT)(k:Nat)(f:Addr)(fd:FuncData)(ps:LSt)(sp:Sp):Prop where
 len:∀ vs H Q E,sp vs H Q E->vs.length=ps.length
 run:∀ (A:Around) (outer:List Env) (s:Shared) (H:Hp) (args:Args) (us:LVl) (vs:LV) (Q:VK) (E:XK),Room k A->Env0 P w K mg base A outer s H->BindsTo s fd args (ps.zip us)->Vals vs us->sp vs H Q E->
  codeAny (model P w) A (.call (.ref f) args) (CR CX outer P w H s Q E) s
theorem Env0.make{P:Program}{w:World}{K:Frg}{mg:SOV}{base:Heap}{A:Around}{outer:List Env}{s:Shared}{H:Hp}(e:Env0 P w K mg base A outer s H)(C:Addr)(us:LVl)(kw:List (Str×Value)):
 Env0 P w K mg base (A.under (.builtin "type.__call__" ⟨.ref C::us,kw⟩)) outer s H:=⟨by first|exact e.frames|(simpa[Around.under,Code.envs,Code.isFrame,pushEnvs]using e.frames),e.mod,e.bs,e.bsz,e.funs,e.frf,e.hok,e.bare⟩
section
variable {X:Cx}{pins:LAO}{σ:St}{H:Hp}{s s':Shared}
theorem Inv.env0(I:Inv X pins σ H s):Env0 X.prog X.w X.K X.mg X.base X.A X.stack s H:=
 ⟨I.ok.frames,I.ok.mod,I.bs,waw I.ok.bsz I.sz,I.stack,I.stkFree,I.hok,I.bare⟩
theorem Inv.after{Q:VK}{u:Value}(I:Inv X pins σ H s)(h:CE X.stack X.prog X.w H s Q u s'):EP X pins σ Q u s':=by
 obtain⟨v,H',os,bare,un,hok,r,q⟩:=h;obtain⟨hh,g,d,t,os'⟩:=s';obtain rfl:os'=s.os:=os;exact⟨v,H',I.call (h':=hh) (g':=g) (d':=d) (t':=t) (ch:=[]) un hok bare (fun b z=>absurd z (by simp)),r,q⟩
end
def qsS(sp:Sp)(dvs:LV)(E:XK)(t:TA):TE:=fun σ H Q=>t σ H fun vs H1=>sp (vs++dvs) H1 Q E
def qql(C:Addr)(m:Str)(sp:Sp)(dvs:LV)(E:XK)(ta:TE)(t:TA):TE:=fun σ H Q=>ta σ H fun x H1=>∃ a dx fs,x= .ref a/\H1 a=some (.ins C dx fs)/\fs.lookup m=none/\
 t σ H1 fun vs H2=>sp (x::(vs++dvs)) H2 Q E
def qsO(C:Addr)(sp:Sp)(dvs:LV)(E:XK)(t:TA):TE:=fun σ H Q=>t σ H fun vs H1=>∀ x dx,H1 x=none->H1 dx=none->dx≠x->
 sp (.ref x::(vs++dvs)) (upd (upd H1 dx (.own x)) x (.ins C dx [])) (fun v H2=>v= .non/\Q (.ref x) H2) E
def Binds(K:Frg)(fd:FuncData)(ps:LSt)(ds:LVl):Prop:=
 ∀ (s:Shared) (us:LVl),K.In s.heap->(us++ds).length=ps.length->BindsTo s fd ⟨us,[]⟩ (ps.zip (us++ds))
theorem Binds.all{K:Frg}{fd:FuncData}{ps:LSt}(h:∀ us:LVl,us.length=ps.length->bindArgs fd ⟨us,[]⟩=pure (ps.zip us)):Binds K fd ps []:=fun s us _ hl=>by
 rw[waQ]at hl ⊢;exact .of_eq (h us hl)
def Passes(CX:CXT)(X:Cx)(E:XK):Prop:=∀ (pins:LAO) (σ:St) (H:Hp) (s:Shared) (e:Value) (s':Shared),Inv X pins σ H s->CX X.stack H s E e s'->X.xe e s'
section
variable {X:Cx}{CX:CXT}{k:Nat}{f C:Addr}{fd:FuncData}{ps:LSt}{sp:Sp}{dvs:LV}{ds:LVl}{E:XK}{x m:Str}{p pos apos:Pos}{e o:Expr}{es:LEx}{ta:TE}{t:TA}
theorem qgP{pins:LAO}{σ:St}{H:Hp}{s:Shared}{Q:VK}{us:LVl}{vs:LV}(F:qdC X.prog X.w X.K X.mg X.base CX k f fd ps sp)(hr:Room k X.A)(hb:Binds X.K fd ps ds)(hd:Vals dvs ds)(hx:Passes CX X E)
 (I:Inv X pins σ H s) (r:Vals vs us) (h:sp (vs++dvs) H Q E):wpAny (model X.prog X.w) X.A (call (.ref f) us) (EP X pins σ Q) X.xe s:=by
 have r2:Vals (vs++dvs) (us++ds):=r.append hd;have hl:(us++ds).length=ps.length:=by rw[<-r2.length];exact F.len _ _ _ _ h
 refine wpAny_call (codeAny_mono (F.run X.A X.stack s H ⟨us,[]⟩ (us++ds) (vs++dvs) Q E hr I.env0 (hb s us I.kIn hl) r2 h) fun r s' hq=>?_)
 cases r with
 |error e=>exact hx pins σ H s e s' I hq
 |ok fl=>
  cases fl with
  |ret u=>exact I.after hq
  |next=>exact False.elim hq
  |brk=>exact False.elim hq
  |cont=>exact False.elim hq
theorem qqX(F:qdC X.prog X.w X.K X.mg X.base CX k f fd ps sp)(hr:Room k X.A)(hg:Gl X x)(hm:X.mg x=some (.ref f))(hk:PySem.W.keepIn X.K (.ref f)=true)(hb:Binds X.K fd ps ds)(hd:Vals dvs ds)(hx:Passes CX X E)
 (ha:PA X (e::es) t) (hdb:(x==("__debug__":Str))=false:=by decide) (he:starEach (e::es) X.env=(false,eval e X.env)::starEach es X.env:=by rfl) (hpl:(backTo pos (starEach es X.env)).any (·.1)=false:=by rfl):
 PE X (.Call (.Name x p) (e::es) [] pos) (qsS sp dvs E t):=by
 intro pins s σ H Q I h;refine wpAny_Call_Name_kw (qcv I hg hm ?_ hdb);refine wa7 (h₀:=X.base) I.ok.mod.kin hk (thn (ha pos pins s σ H _ I h) fun us s1 ⟨vs,H1,I1,r,q⟩=>⟨I1.kIn,?_⟩) he hpl
 exact qgP F hr hb hd hx I1 r q
theorem qoj(F:qdC X.prog X.w X.K X.mg X.base CX k f fd ps sp)(hr:Room k X.A)(hg:Gl X x)(hm:X.mg x=some (.ref f))(hk:PySem.W.keepIn X.K (.ref f)=true)(hb:Binds X.K fd ps ds)(hd:Vals dvs ds)(hx:Passes CX X E)
 (hdb:(x==("__debug__":Str))=false:=by decide):PE X (.Call (.Name x p) [] [] pos) (qsS sp dvs E qvk):=by
 intro pins s σ H Q I h;refine wpAny_Call_Name_kw (qcv I hg hm ?_ hdb);exact PySem.W.callWith_K0 I.kIn hk (qgP (us:=[]) F hr hb hd hx I .nil h)
theorem qqT{pl:Sem Bool}(he:PE X o ta)(c:Cls X.K C)(hm:Meth X.K C m f)(F:qdC X.prog X.w X.K X.mg X.base CX k f fd ps sp)(hr:Room k X.A)(hb:Binds X.K fd ps ds)(hd:Vals dvs ds)(hx:Passes CX X E)(ha:PA X (e::es) t)
 (hst:starEach (e::es) X.env=(false,eval e X.env)::starEach es X.env:=by rfl) (hpl:(backTo pos (starEach es X.env)).any (·.1)=false:=by rfl)
 (ht:eval (.Call (.Attribute o m apos) (e::es) [] pos) X.env=(do
  let ov<-eval o X.env
  standAt apos.atName
  let(f,first) <-holding [ov] (getMethod ov m pl)
  callWith pos f first (backTo pos (starEach (e::es) X.env)) (backToKw pos (keywordEach [] X.env))):=by rfl):
 PE X (.Call (.Attribute o m apos) (e::es) [] pos) (qql C m sp dvs E ta t):=by
 intro pins s σ H Q I h;refine PySem.W.methodCall_KW (pl:=pl) (thn (he pins s σ H _ I h) fun u s1 ⟨x,H1,I1,rx,a,dx,fs,ex,ea,l,q⟩=>?_) ht
 subst ex;obtain rfl:u=Value.ref a:=rx;refine qfD I1 ea c hm l ?_;refine wa7 (first:=[.ref a]) (h₀:=X.base) I.ok.mod.kin hm.kp (thn (ha pos pins s1 σ H1 _ I1 q) fun us s2 ⟨vs,H2,I2,r,q2⟩=>⟨I2.kIn,?_⟩) hst hpl
 exact qgP (us:=.ref a::us) (vs:=.ref a::vs) F hr hb hd hx I2 (.cons rfl r) q2
theorem qob{pl:Sem Bool}(he:PE X o ta)(c:Cls X.K C)(hm:Meth X.K C m f)(F:qdC X.prog X.w X.K X.mg X.base CX k f fd ps sp)(hr:Room k X.A)(hb:Binds X.K fd ps ds)(hd:Vals dvs ds)(hx:Passes CX X E)
 (ht:eval (.Call (.Attribute o m apos) [] [] pos) X.env=(do
  let ov<-eval o X.env
  standAt apos.atName
  let(f,first) <-holding [ov] (getMethod ov m pl)
  callWith pos f first (backTo pos (starEach [] X.env)) (backToKw pos (keywordEach [] X.env))):=by rfl):
 PE X (.Call (.Attribute o m apos) [] [] pos) (qql C m sp dvs E ta qvk):=by
 intro pins s σ H Q I h;refine PySem.W.methodCall_KW (pl:=pl) (thn (he pins s σ H _ I h) fun u s1 ⟨x,H1,I1,rx,a,dx,fs,ex,ea,l,q⟩=>?_) ht
 subst ex;obtain rfl:u=Value.ref a:=rx;refine qfD I1 ea c hm l ?_;exact PySem.W.callWith_K0 (first:=[.ref a]) I1.kIn hm.kp (qgP (us:=[.ref a]) (vs:=[.ref a]) F hr hb hd hx I1 (.cons rfl .nil) q)
structure Mk(K:Frg)(C f:Addr):Prop where
 makes:PySem.W.makesIn K C=true
 init:PySem.W.findIn K (.ref C) "__init__" =some (some (.ref f))
 fn:PySem.W.isFn K (.ref f)=true
 kp:PySem.W.keepIn K (.ref C)=true
theorem qjs{pins:LAO}{σ:St}{H:Hp}{s:Shared}{Q:VK}{us:LVl}{vs:LV}(M:Mk X.K C f)(F:qdC X.prog X.w X.K X.mg X.base CX k f fd ps sp)(hr:Room (k+1) X.A)(hb:Binds X.K fd ps ds)(hd:Vals dvs ds)
 (hx:Passes CX X E) (I:Inv X pins σ H s) (r:Vals vs us)
 (h:∀ x dx,H x=none->H dx=none->dx≠x->sp (.ref x::(vs++dvs)) (upd (upd H dx (.own x)) x (.ins C dx [])) (fun v H2=>v= .non/\Q (.ref x) H2) E):
 wpAny (model X.prog X.w) X.A (call (.ref C) us) (EP X pins σ Q) X.xe s:=by
 have hq:=h (s.heap.objs.size+1) s.heap.objs.size (I.hok.fresh (Nat.le_succ _)) (I.hok.fresh (wac _)) (wat (wa0 _));have I2:=Inv.made (C:=C) I;have r2:Vals (V.ref (s.heap.objs.size+1)::(vs++dvs)) (Value.ref (s.heap.objs.size+1)::(us++ds)):=.cons rfl (r.append hd);have hl:(Value.ref (s.heap.objs.size+1)::us++ds).length=ps.length:=by
  have e:=r2.length;rw[F.len _ _ _ _ hq]at e;exact e.symm
 refine wpAny_call (qot (f:=f) I.kIn M.makes M.init (beq_iff_eq.mp M.fn) (codeAny_mono (F.run _ X.stack _ _ ⟨Value.ref (s.heap.objs.size+1)::us,[]⟩ (Value.ref (s.heap.objs.size+1)::(us++ds)) _ _ E (hr.make C us [])
  (I2.env0.make C us []) (hb _ (Value.ref (s.heap.objs.size+1)::us) I2.kIn hl) r2 hq) fun r s' hq'=>?_))
 cases r with
 |error e=>exact hx pins σ _ _ e s' I2 hq'
 |ok fl=>
  cases fl with
  |ret u=>
   obtain⟨v,H',I3,rv,ev,q3⟩:=I2.after hq';subst ev;exact⟨rv,⟨V.ref (s.heap.objs.size+1),H',I3,rfl,q3⟩⟩
  |next=>exact False.elim hq'
  |brk=>exact False.elim hq'
  |cont=>exact False.elim hq'
theorem qqU(M:Mk X.K C f)(F:qdC X.prog X.w X.K X.mg X.base CX k f fd ps sp)(hr:Room (k+1) X.A)(hg:Gl X x)(hm:X.mg x=some (.ref C))(hb:Binds X.K fd ps ds)(hd:Vals dvs ds)(hx:Passes CX X E)
 (ha:PA X (e::es) t) (hdb:(x==("__debug__":Str))=false:=by decide) (he:starEach (e::es) X.env=(false,eval e X.env)::starEach es X.env:=by rfl) (hpl:(backTo pos (starEach es X.env)).any (·.1)=false:=by rfl):
 PE X (.Call (.Name x p) (e::es) [] pos) (qsO C sp dvs E t):=by
 intro pins s σ H Q I h;refine wpAny_Call_Name_kw (qcv I hg hm ?_ hdb);refine wa7 (h₀:=X.base) I.ok.mod.kin M.kp (thn (ha pos pins s σ H _ I h) fun us s1 ⟨vs,H1,I1,r,q⟩=>⟨I1.kIn,?_⟩) he hpl
 exact qjs M F hr hb hd hx I1 r q
theorem qoc(M:Mk X.K C f)(F:qdC X.prog X.w X.K X.mg X.base CX k f fd ps sp)(hr:Room (k+1) X.A)(hg:Gl X x)(hm:X.mg x=some (.ref C))(hb:Binds X.K fd ps ds)(hd:Vals dvs ds)(hx:Passes CX X E)
 (hdb:(x==("__debug__":Str))=false:=by decide):PE X (.Call (.Name x p) [] [] pos) (qsO C sp dvs E qvk):=by
 intro pins s σ H Q I h;refine wpAny_Call_Name_kw (qcv I hg hm ?_ hdb);exact PySem.W.callWith_K0 I.kIn M.kp (qjs (us:=[]) M F hr hb hd hx I .nil h)
end
section
variable {X:Cx}{CX:CXT}{k:Nat}{f C:Addr}{fd:FuncData}{ps ks:LSt}{sp:Sp}{E:XK}{x m:Str}{p pos apos kpos:Pos}{e o:Expr}{es:LEx}{kws:List Keyword}{te ta:TE}{t tk:TA}{nm:Option Str}
structure qBv(K:Frg)(fd:FuncData)(ps ks:LSt)(g:LVl->LVl->LVl)(gV:LV->LV->LV):Prop where
 to:∀ (s:Shared) (us ws:LVl),K.In s.heap->(g us ws).length=ps.length->BindsTo s fd ⟨us,ks.zip ws⟩ (ps.zip (g us ws))
 rel:∀ {vs:LV} {us:LVl} {zs:LV} {ws:LVl},Vals vs us->Vals zs ws->Vals (gV vs zs) (g us ws)
variable {g:LVl->LVl->LVl}{gV:LV->LV->LV}
end
structure qds(N P:LSt)(sc:Scope):Prop where
 kind:sc.kind= .function
 co:sc.isCoroutine=false
 gen:sc.isGenerator=false
 nd:N.Nodup
 pre:N.take P.length=P
 par:∀ x∈P,sc.names.lookup x=some .local∨sc.names.lookup x=some .cell
 nofree:∀ y∈sc.names,y.2≠.free
theorem qh0{kindOf:Str->Option NameKind}{x:Str}:∀ {binds:List (Str×Value)} {m:SOV},(∀ v,(x,v)∉binds)->bindL kindOf binds m x=m x
 | [],_,_=>rfl
 |(n,v)::r,m,h=>by
  unfold bindL;rw[qh0 fun w hw=>h w (waq _ hw)]
  split
  · have:x≠n:=by rintro rfl;exact h v waz
    simp[this]
  · rfl
theorem qh2{kindOf:Str->Option NameKind}{x:Str}:∀ {binds:List (Str×Value)} {m:SOV},(∀ v,(x,v)∉binds)->bindC kindOf binds m x=m x
 | [],_,_=>rfl
 |(n,v)::r,m,h=>by
  unfold bindC;rw[qh2 fun w hw=>h w (waq _ hw)]
  split
  · rfl
  · have:x≠n:=by rintro rfl;exact h v waz
    simp[this]
theorem qh1{kindOf:Str->Option NameKind}{x:Str}{v:Value}:∀ {P:LSt} {vs:LVl} {i:Nat} {m:SOV},P.Nodup->P[i]? =some x->vs[i]? =some v->kindOf x=some .local->
 bindL kindOf (P.zip vs) m x=some v
 | [],_,_,_,_,h,_,_=>by simp at h
 |_::_,[],_,_,_,_,h,_=>by simp at h
 |p::P,w::vs,0,m,nd,h1,h2,hk=>by
  simp at h1 h2;subst h1;subst h2;show bindL kindOf ((p,w)::P.zip vs) m p=_;unfold bindL;rw[qh0 fun v hv=>(waH.mp nd).1 (List.of_mem_zip hv).1,if_pos hk]
  simp
 |p::P,w::vs,i+1,m,nd,h1,h2,hk=>by
  show bindL kindOf ((p,w)::P.zip vs) m x=_;unfold bindL;exact qh1 (i:=i) (waH.mp nd).2 (by simpa using h1) (by simpa using h2) hk
theorem qh3{kindOf:Str->Option NameKind}{x:Str}{v:Value}:∀ {P:LSt} {vs:LVl} {i:Nat} {m:SOV},P.Nodup->P[i]? =some x->vs[i]? =some v->kindOf x≠some .local->
 bindC kindOf (P.zip vs) m x=some v
 | [],_,_,_,_,h,_,_=>by simp at h
 |_::_,[],_,_,_,_,h,_=>by simp at h
 |p::P,w::vs,0,m,nd,h1,h2,hk=>by
  simp at h1 h2;subst h1;subst h2;show bindC kindOf ((p,w)::P.zip vs) m p=_;unfold bindC;rw[qh2 fun v hv=>(waH.mp nd).1 (List.of_mem_zip hv).1,if_neg hk]
  simp
 |p::P,w::vs,i+1,m,nd,h1,h2,hk=>by
  show bindC kindOf ((p,w)::P.zip vs) m x=_;unfold bindC;exact qh3 (i:=i) (waH.mp nd).2 (by simpa using h1) (by simpa using h2) hk
def start(N:LSt)(vs:LV):St:=vs.map some++List.replicate (N.length-vs.length) none
noncomputable def qpU (CX:CXT)(P:Program)(w:World)(K:Frg)(mg:SOV)(base:Heap)(N:LSt)(qual:Str)(scope:Scope)(f:Addr)(cd:Value)(A:Around)(outer:List Env)(s:Shared)(H:Hp)(E:XK):Cx where
 prog:=P
 w:=w
 K:=K
 mg:=mg
 base:=base
 A:=A.deeper (envOfC qual scope s.heap.objs.size f cd)
 N:=N
 s₀:=s
 H₀:=H
 env:=envOfC qual scope s.heap.objs.size f cd
 outer:=outer
 stack:=envOfC qual scope s.heap.objs.size f cd::outer
 ex:=[]
 calm:=true
 fn:=fun _=>true
 pn:=[]
 xe:=fun e s'=>wpAny (model P w) (A.deeper (envOfC qual scope s.heap.objs.size f cd)) (leaving (envOfC qual scope s.heap.objs.size f cd) e) (fun _ s''=>CX outer H s E e s'') (fun e' s''=>CX outer H s E e' s'') s'
theorem qjM{sc:Scope}{n:Nat}{x:Str}(h:sc.names.lookup x=some .cell):∃ c,(cellsFrom n sc.names []).lookup x=some c:=by
 have q:=PySem.W.cellsFrom_some sc.names n [] (.inl h);exact waS.mp q
theorem qmq{CX:CXT}{P:Program}{w:World}{K:Frg}{mg:SOV}{base:Heap}{N ps:LSt}{qual:Str}{scope:Scope}{f:Addr}{cd:Value}{A:Around}{outer:List Env}{s s1:Shared}{H:Hp}{E:XK}{us:LVl}{vs:LV}
 (S:qds N ps scope) (hd:A.handled=none) (e0:Env0 P w K mg base A outer s H) (hl:vs.length=ps.length) (r:Vals vs us)
 (x:InCallC s s.heap.objs.size (bindL (envOfC qual scope s.heap.objs.size f cd).kindOf (ps.zip us) fun _=>none) (cellsFrom (s.heap.objs.size+1) scope.names []) (bindC (envOfC qual scope s.heap.objs.size f cd).kindOf (ps.zip us) fun _=>none) s1):
 Inv (qpU CX P w K mg base N qual scope f cd A outer s H E) [] (start N vs) H s1:=by
 have hpl:ps.length<=N.length:=by have:=congrArg List.length S.pre;rw[List.length_take]at this;omega
 obtain⟨h1,tk,rfl,hk⟩:=x.done;have noA:∀ b:Addr,b∉(qpU CX P w K mg base N qual scope f cd A outer s H E).ex:=fun b z=>absurd (show b∈([]:List Addr)from z) (by simp)
 refine⟨⟨e0.mod,S.kind,rfl,rfl,wac _,fun y z c h1 h2=>?_,fun y hy=>?_,fun y c _ h=>?_,fun _=>hd,Around.frames_deeper e0.frames,.inr ⟨rfl,rfl⟩,fun b z=>absurd z (noA b),e0.bs,e0.bsz,fun b _ _=>noA b,fun b z=>absurd z (noA b),e0.funs,e0.frf⟩,
  rfl,e0.bare,Un.kept hk,⟨_,x.toInCall.ns,fun i y v h1 h2 h3=>?_⟩,fun y c h=>⟨_,x.cell y c h⟩,e0.hok.fresh (wac _),fun y c h=>?_,fun p hp=>absurd (show p∈([]:LAO)from hp) (by simp),e0.hok.kept hk,?_⟩
 · exact name_of_addr x.apart (PySem.mem_of_lookup h1) (PySem.mem_of_lookup h2)
 · have hy:scope.names.lookup y=some .cell∨scope.names.lookup y=some .free:=hy
   rcases hy with hy|hy
   · exact qjM hy
   · exact absurd rfl (S.nofree _ (PySem.mem_of_lookup hy))
 · exact Nat.le_of_lt (x.above y c (PySem.mem_of_lookup h))
 · have hi:i<vs.length:=by
    unfold start at h2
    by_cases hi:i<vs.length
    · exact hi
    · rw[List.getElem?_append_right (by simpa using hi)]at h2
      rw[List.getElem?_replicate]at h2;split at h2<;>cases h2
   have ha:vs[i]? =some v:=by
    unfold start at h2;rw[List.getElem?_append_left (by simpa using hi),List.getElem?_map]at h2
    cases e:vs[i]? with
    |none=>rw[e]at h2;cases h2
    |some a=>rw[e]at h2;cases h2;rfl
   obtain⟨u,hu,rv⟩:=r.get ha;have hp:ps[i]? =some y:=by
    rw[<-S.pre,List.getElem?_take_of_lt (by omega)];exact h1
   have ndP:ps.Nodup:=by rw[<-S.pre];exact S.nd.sublist (List.take_sublist _ _)
   refine⟨u,rv,?_⟩;rcases S.par y (List.mem_of_getElem? hp)with k|k
   · exact .inl ⟨k,qh1 ndP hp hu k⟩
   · obtain⟨c,e⟩:=qjM (n:=s.heap.objs.size+1) k
     refine .inr ⟨.inl k,c,e,?_⟩;have q:=x.cell y c e;rw[qh3 ndP hp hu (by show scope.names.lookup y≠_;rw[k];decide)]at q
     exact q
 · exact e0.hok.fresh (Nat.le_of_lt (x.above y c (PySem.mem_of_lookup h)))
 · unfold start
   show _=N.length;rw[wad,wab,wa2];omega
theorem qxS{CX:CXT}{P:Program}{w:World}{K:Frg}{mg:SOV}{base:Heap}{k:Nat}{f:Addr}{name qual:Str}{params:Arguments}{body:List Stmt}{scope:Scope}{dV kV doc pm cdv ct oc:Value}{an od:Option Addr}
 {osl:Array (OVl)} {N ps:LSt} {sp:Sp} (lk:K.lookup f=some ⟨oc,od,.func (PySem.W.fnOf name qual params body scope dV kV doc pm an cdv ct),osl⟩) (hcd:PySem.W.codeIn K cdv qual=true) (S:qds N ps scope)
 (len:∀ vs H Q E,sp vs H Q E->vs.length=ps.length)
 (hbody:∀ (A:Around) (outer:List Env) (s:Shared) (H:Hp) (vs:LV) (Q:VK) (E:XK),Room k (A.deeper (envOfC qual scope s.heap.objs.size f cdv))->sp vs H Q E->
  ∃ t,PSs (qpU CX P w K mg base N qual scope f cdv A outer s H E) body t/\t { nx:=fun _ H'=>Q .non H',rt:=Q } (start N vs) H):
 qdC P w K mg base CX (k+1) f (PySem.W.fnOf name qual params body scope dV kV doc pm an cdv ct) ps sp:=by
 refine⟨len,fun A outer s H args us vs Q E hr e0 hb r hsp=>?_⟩
 have hl:=len _ _ _ _ hsp;have KX:K.In s.heap:=e0.mod.kin.keeps fun b o e=>(e0.bs b o e).1
 have lim:s.heap.NoLimit:=e0.mod.nolimit.keeps fun b o e=>(e0.bs b o e).1
 have hkind:∀ y∈ps.zip us,scope.names.lookup y.1=some .local∨(scope.names.lookup y.1=some .cell/\((cellsFrom (s.heap.objs.size+1) scope.names []).lookup y.1).isSome=true):=fun⟨n,v⟩ hy=>by
  rcases S.par n (List.of_mem_zip hy).1 with q|q
  · exact .inl q
  · exact .inr ⟨q,PySem.W.cellsFrom_some _ _ _ (.inl q)⟩
 refine codeAny_call_function hr.depth (KX _ _ lk) rfl S.co S.gen rfl (PySem.W.codeRec_of KX hcd) (hb _ _ _ _ ?_);refine wpAny_newFunctionEnv_cells S.kind hkind fun env he s1 x=>?_
 subst he;refine⟨lim.keeps x.toInCall.keep,codeAny_func ?_⟩;obtain⟨t,ht,hq⟩:=hbody A outer s H vs Q E (hr.deeper _) hsp;have I:Inv (qpU CX P w K mg base N qual scope f cdv A outer s H E) [] (start N vs) H s1:=qmq S hr.hd e0 hl r x;refine wpAny_mono (ht [] s1 (start N vs) H _ I hq) (fun fl s' hs=>?_) fun e s' hs=>hs
 have fin:∀ {σ':St} {H':Hp} {v:V} {u:Value},Inv (qpU CX P w K mg base N qual scope f cdv A outer s H E) [] σ' H' s'->RelV v u->Q v H'->CE outer P w H s Q u s':=
  fun {σ' H' v u} J rv q=>⟨v,H',J.os,J.bare,J.base,J.hok,rv,q⟩
 cases fl with
 |ret u=>
  obtain⟨v,σ',H',J,rv,q⟩:=hs;exact fin J rv q
 |next=>
  obtain⟨σ',H',J,q⟩:=hs;exact fin (v:=V.non) (u:=Value.none) J rfl q
 |brk=>
  obtain⟨_,_,_,q⟩:=hs;exact False.elim q
 |cont=>
  obtain⟨_,_,_,q⟩:=hs;exact False.elim q
section
variable {X:Cx}{x:Str}{p pos:Pos}{e:Expr}{es:LEx}{t:TA}{id T:String}{r:LV->Hp->VK->Prop}
def tCB(r:LV->Hp->VK->Prop)(t:TA):TE:=fun σ H Q=>t σ H fun vs H1=>r vs H1 Q
theorem qoi(hc:qbe X (.builtin id) r)(hg:Gl X x)(hm:X.mg x=none)(hv:bootBuiltins x=some (.builtin id))(ha:PA X (e::es) t)(hn:x≠"__name__":=by decide)(hdb:(x==("__debug__":Str))=false:=by decide)
 (he:starEach (e::es) X.env=(false,eval e X.env)::starEach es X.env:=by rfl) (hpl:(backTo pos (starEach es X.env)).any (·.1)=false:=by rfl):PE X (.Call (.Name x p) (e::es) [] pos) (tCB r t):=by
 intro pins s σ H Q I h;refine wpAny_Call_Name_kw (qfy I hg hm hv ?_ hn hdb);exact PyProof.Rows.callWith_builtin1 (thn (ha pos pins s σ H _ I h) fun us s1 ⟨vs,H1,I1,r1,q1⟩=>hc pins s1 σ H1 vs us Q I1 r1 q1) he hpl
theorem qlV(hc:qbe X (.type T) r)(hg:Gl X x)(hm:X.mg x=none)(hv:bootBuiltins x=some (.type T))(ha:PA X (e::es) t)(hn:x≠"__name__":=by decide)(hdb:(x==("__debug__":Str))=false:=by decide)
 (he:starEach (e::es) X.env=(false,eval e X.env)::starEach es X.env:=by rfl) (hpl:(backTo pos (starEach es X.env)).any (·.1)=false:=by rfl):PE X (.Call (.Name x p) (e::es) [] pos) (tCB r t):=by
 intro pins s σ H Q I h;refine wpAny_Call_Name_kw (qfy I hg hm hv ?_ hn hdb);exact waP (thn (ha pos pins s σ H _ I h) fun us s1 ⟨vs,H1,I1,r1,q1⟩=>hc pins s1 σ H1 vs us Q I1 r1 q1) he hpl
end
end L2
namespace HT
open PySem PyProof.Rows
section
variable {prog:Program}{w:World}{A:Around}{E:VSP}{s:Shared}
theorem cat_tup{t b:Addr}{vs ws:LVl}{Q:VSP}(ht:IsTup s.heap t vs.toArray)(hb:IsTup s.heap b ws.toArray)(hv:vs≠[])
 (h1:ws= []->Q (.ref t) s) (h2:ws≠[]->Q (.ref s.heap.objs.size) { s with heap:=s.heap.push { cls:=.type "tuple",data:=.seq (vs++ws).toArray } })
 (hsz:vs.length+ws.length<=sizeLine):wpAny (model prog w) A (binaryOp .Add (.ref t) (.ref b)) Q E s:=by
 obtain⟨⟨cls,dd,data,sl⟩,ho,hc,n,hd⟩:=id ht;obtain⟨⟨cls2,dd2,data2,sl2⟩,ho2,hc2,n2,hd2⟩:=id hb;simp only at hc hd hc2 hd2;subst hc hd hc2 hd2;have e:vs.toArray++ws.toArray=(vs++ws).toArray:=by simp
 by_cases hw:ws= []
 · exact concat_meets ⟨_,ho,rfl⟩ ⟨_,ho2,rfl⟩ noFill_tuple_add seq_tuple_add PySem.F.slot_tuple_add PySem.F.entry_tuple_add (PySem.F.args_tuple_add_2 _ _)
    (tuple_addW1 t b vs.toArray ws.toArray n n2 dd dd2 sl sl2 (by simpa using hv) (by simp[hw])) ⟨ho,ho2,h1 hw⟩
 · refine concat_meets ⟨_,ho,rfl⟩ ⟨_,ho2,rfl⟩ noFill_tuple_add seq_tuple_add PySem.F.slot_tuple_add PySem.F.entry_tuple_add (PySem.F.args_tuple_add_2 _ _)
    (tuple_addW2 t b vs.toArray ws.toArray n n2 dd dd2 sl sl2 (by simpa using hv) (by simpa using hw) (by rw[wak,wak];exact hsz)) ⟨ho,ho2,?_⟩
   rw[e];exact h2 hw
def sIx(n d:Nat):Option Int->Nat
 |none=>d
 |some v=>if v<0 then(v+(n:Int)).toNat else min v.toNat n
theorem sIx_none(n d:Nat):sIx n d none=d:=rfl
theorem sIx_nat(n d k:Nat):sIx n d (some (k:Int))=min k n:=by
 show(if(k:Int)<0 then((k:Int)+(n:Int)).toNat else min (k:Int).toNat n)=min k n
 rw[if_neg (by omega),Int.toNat_natCast]
theorem qs2(n d:Nat)(hd:d<=n)(o:Option Int):sIx n d o<=n:=by
 cases o with
 |none=>exact hd
 |some v=>
  show(if v<0 then(v+(n:Int)).toNat else min v.toNat n)<=n
  by_cases hv:v<0
  · rw[if_pos hv];omega
  · rw[if_neg hv];exact Nat.min_le_right _ _
theorem qm8(v:Int)(n d:Nat):(if v<0 then max (v+(n:Int)) 0 else min v (n:Int))=((sIx n d (some v):Nat):Int):=by
 show(if v<0 then max (v+(n:Int)) 0 else min v (n:Int))=(((if v<0 then(v+(n:Int)).toNat else min v.toNat n):Nat):Int)
 by_cases hv:v<0
 · simp only[if_pos hv];omega
 · simp only[if_neg hv];omega
theorem qkV(lo hi:Option Int)(n:Nat):Builtin.Slice.sliceAdjust lo hi 1 (n:Int)=(((sIx n 0 lo:Nat):Int),((sIx n n hi:Nat):Int)):=by
 have h1:¬((1:Int)<0):=by omega
 unfold Builtin.Slice.sliceAdjust;simp only[h1,if_false];refine Prod.ext ?_ ?_
 · cases lo with
   |none=>rfl
   |some v=>exact qm8 v n 0
 · cases hi with
   |none=>rfl
   |some v=>exact qm8 v n n
theorem qkm(i j:Nat):Builtin.Slice.slicePlaces (i:Int) (j:Int) 1=j-i:=by
 unfold Builtin.Slice.slicePlaces;have h1:(1:Int) > 0:=by omega
 simp only[h1,if_true,Int.ediv_one];split<;>omega
theorem qfo{v:Value}{o:Option Int}{Q:Option Int->Shared->Prop}(p:IsPart v o)(h:Q o s):wpAny (model prog w) A (Builtin.Slice.slicePartIndex v) Q E s:=by
 cases p with
 |none=>exact slicePart_none h
 |int i t=>exact slicePart_int h
theorem qbR{sl:Addr}{vl vu:Value}{lo hi:Option Int}{n:Nat}{Q:Int×Int×Nat->Shared->Prop}(hs:s.heap.IsSliceOf sl vl vu .none)(pl:IsPart vl lo)(pu:IsPart vu hi)
 (h:Q (((sIx n 0 lo:Nat):Int),1,sIx n n hi-sIx n 0 lo) s):wpAny (model prog w) A (Builtin.Slice.sliceApplied (.ref sl) (pure (n:Int))) Q E s:=by
 obtain⟨os,hos,hcs,hds⟩:=id hs;unfold Builtin.Slice.sliceApplied Builtin.Slice.sliceFields;refine wpAny_bind (wpAny_bind (wpAny_field hos hds (x:=vl) rfl (wpAny_bind (wpAny_field hos hds (x:=vu) rfl (wpAny_bind (wpAny_field hos hds (x:=.none) rfl (wpAny_pure ?_)))))));refine wpAny_bind (slicePart_none ?_);show wpAny _ _ (if((1:Int)==0)=true then _ else _) _ _ s
 rw[if_neg (by decide)]
 refine wpAny_bind (qfo pl (wpAny_bind (qfo pu (wpAny_bind (wpAny_pure ?_)))));show wpAny _ _ (match Builtin.Slice.sliceAdjust lo hi 1 (n:Int)with|(lo,hi)=>pure (lo,(1:Int),Builtin.Slice.slicePlaces lo hi 1)) _ _ s
 rw[qkV lo hi n];show wpAny _ _ (pure (((sIx n 0 lo:Nat):Int),(1:Int),Builtin.Slice.slicePlaces ((sIx n 0 lo:Nat):Int) ((sIx n n hi:Nat):Int) 1)) _ _ s;rw[qkm];exact wpAny_pure h
theorem qn9(xs:Array Value)(i k:Nat):((List.range k).filterMap fun(m:Nat)=>xs[((i:Int)+(m:Int)*1).toNat]?).toArray=((xs.toList.drop i).take k).toArray:=by
 have e:(fun(m:Nat)=>xs[((i:Int)+(m:Int)*1).toNat]?)=fun m=>xs[i+m]?:=by
  funext m;have:((i:Int)+(m:Int)*1).toNat=i+m:=by omega
  rw[this]
 rw[e];have:=pick_run xs i k;rw[List.filterMap_map]at this;have e2:((fun x=>xs[x]?) ∘ fun x=>i+x)=fun m=>xs[i+m]?:=rfl
 rw[e2]at this;rw[this]
theorem getItem_tuple_cut{t sl:Addr}{items:Array Value}{vl vu:Value}{lo hi:Option Int}{Q:VSP}(ht:IsTup s.heap t items)(hs:s.heap.IsSliceOf sl vl vu .none)(pl:IsPart vl lo)(pu:IsPart vu hi)
 (hw:¬(sIx items.size 0 lo=0/\sIx items.size items.size hi=items.size))
 (h:Q (.ref s.heap.objs.size) { s with heap:=s.heap.push { cls:=.type "tuple",data:=.seq ((items.toList.drop (sIx items.size 0 lo)).take (sIx items.size items.size hi-sIx items.size 0 lo)).toArray } })
 (hsz:items.size<=sizeLine):wpAny (model prog w) A (getItem (.ref t) (.ref sl)) Q E s:=by
 have htake:sizeOk (.seq ((items.toList.drop (sIx items.size 0 lo)).take (sIx items.size items.size hi-sIx items.size 0 lo)).toArray):=by
  show((items.toList.drop (sIx items.size 0 lo)).take (sIx items.size items.size hi-sIx items.size 0 lo)).toArray.size<=sizeLine;rw[wak,List.length_take,List.length_drop,Array.length_toList];omega
 have hj:sIx items.size items.size hi<=items.size:=qs2 _ _ (wac _) hi;obtain⟨os,hos,hcs,hds⟩:=id hs;have hTs:s.TypeIs (.ref sl) "slice":=⟨os,hos,hcs⟩;unfold getItem
 try with_reducible refine wpAny_holding ?_
 first|refine wpAny_bind (wpAny_pure ?_)|skip
 refine wpAny_bind (wpAny_sequenceKey ht.typeIs (by decide) ?_)
 refine wpAny_bind (wpAny_callSpecial?_slot (name:=Str.ofString "__getitem__") ht.typeIs waA
  (wpAny_call_entry waA ht.typeIs entry_tuple_getitem ?_ (args_tuple_getitem _ _)))
 show wpAny _ _ (Builtin.Tuple.tupleItemsOf (.ref t) >>= _) _ _ s;refine wpAny_bind (tupleItemsOf_ ht ?_);refine wpAny_bind (wpAny_typeOf hTs ?_);rw[if_pos (by decide)]
 refine wpAny_bind (qbR hs pl pu ?_);have hno:¬((((sIx items.size 0 lo:Nat):Int)==0&&(1:Int)==1&&(sIx items.size items.size hi-sIx items.size 0 lo)==items.size)=true):=by
  intro q;rw[waa,waa]at q;have q1:((sIx items.size 0 lo:Nat):Int)=0:=eq_of_beq q.1.1;have q2:sIx items.size items.size hi-sIx items.size 0 lo=items.size:=eq_of_beq q.2;exact hw ⟨by omega,by omega⟩
 show wpAny _ _ (if(((sIx items.size 0 lo:Nat):Int)==0&&(1:Int)==1&&(sIx items.size items.size hi-sIx items.size 0 lo)==items.size)=true then _ else _) _ _ s
 rw[if_neg hno,qn9]
 first
  |exact wpAny_bind (m:=Builtin.Tuple.tupleExact _) (wpAny_newObj_type (wpAny_pure ⟨_,rfl,wpAny_pure h⟩) htake)
  |exact wpAny_bind (m:=Builtin.Tuple.tupleExact _) (wpAny_newObj_type (wpAny_bind (wpAny_pure (wpAny_pure ⟨_,rfl,wpAny_pure h⟩))) htake)
  |exact wpAny_bind (wpAny_bind (m:=Builtin.Tuple.tupleExact _) (wpAny_newObj_type (wpAny_pure (wpAny_pure ⟨_,rfl,wpAny_pure h⟩)) htake))
  |exact wpAny_bind (wpAny_bind (m:=Builtin.Tuple.tupleExact _) (wpAny_newObj_type (wpAny_pure ⟨_,rfl,wpAny_pure h⟩) htake))
end
end HT
namespace L2
open PySem PySem.Spec PyProof.Rows
abbrev TO:=St->Hp->(Option Int->Hp->Prop)->Prop
def PO(X:Cx)(e:Option Expr)(t:TO):Prop:=
 ∀ (pins:LAO) (s:Shared) (σ:St) (H:Hp) (Q:Option Int->Hp->Prop),Inv X pins σ H s->t σ H Q->
  wpAny (model X.prog X.w) X.A (evalPart e X.env) (fun u s'=>∃ o H',Inv X pins σ H' s'/\IsPart u o/\Q o H') X.xe s
def qqk:TO:=fun _ H Q=>Q none H
def qvT(t:TE):TO:=fun σ H Q=>t σ H fun x H1=>∃ i,x= .int i/\Q (some i) H1
section
variable {X:Cx}{e:Expr}{te:TE}{lo hi:Option Expr}{tl th:TO}{pos p2:Pos}
theorem qqR:PO X none qqk:=by
 intro pins s σ H Q I h;rw[evalPart_none];exact wpAny_pure ⟨none,H,I,.none,h⟩
theorem qqQ(h:PE X e te):PO X (some e) (qvT te):=by
 intro pins s σ H Q I hw;rw[evalPart_some];refine thn (h pins s σ H _ I hw) fun u s1 ⟨x,H1,I1,r1,q1⟩=>?_
 obtain⟨i,rfl,q⟩:=q1;obtain⟨t,rfl⟩:=r1;exact⟨some i,H1,I1,.int i t,q⟩
def SlR(X:Cx)(r:V->Option Int->Option Int->Hp->VK->Prop):Prop:=
 ∀ (pins:LAO) (s:Shared) (σ:St) (H:Hp) (x:V) (v vl vu:Value) (lo hi:Option Int) (sl:Addr) (Q:VK),Inv X pins σ H s->RelV x v->s.heap.IsSliceOf sl vl vu .none->IsPart vl lo->IsPart vu hi->r x lo hi H Q->
  ∃ T id,typeLookup (.type T) "__getitem__" =pure (some (.builtin id))/\s.TypeIs v T/\wpAny (model X.prog X.w) X.A (getItem v (.ref sl)) (EP X pins σ Q) X.xe s
def tSl(r:V->Option Int->Option Int->Hp->VK->Prop)(te:TE)(tl th:TO):TE:=fun σ H Q=>te σ H fun x H1=>tl σ H1 fun l H2=>th σ H2 fun u H3=>r x l u H3 Q
theorem qoa{r:V->Option Int->Option Int->Hp->VK->Prop}(hr:SlR X r)(he:PE X e te)(hl:PO X lo tl)(hu:PO X hi th):PE X (.Subscript e (.Slice lo hi none p2) pos) (tSl r te tl th):=by
 intro pins s σ H Q I h;refine Subscript_ (thn (he pins s σ H _ I h) fun v s1 ⟨x,H1,I1,r1,q1⟩=>?_)
 refine wpAny_Slice (thn (hl pins s1 σ H1 _ I1 q1) fun vl s2 ⟨l,H2,I2,pl,q2⟩=>thn (hu pins s2 σ H2 _ I2 q2) fun vu s3 ⟨u,H3,I3,pu,q3⟩=>?_)
 rw[evalPart_none];refine wpAny_pure ?_;have I4:Inv X pins σ H3 { s3 with heap:=s3.heap.push { cls:=.type "slice",data:=.fields #[vl,vu,.none] } }:=I3.kept (t':=s3.toks) fun b ob q=>Heap.get?_push_of_some _ q
 obtain⟨T,id,hT,ht,hg⟩:=hr pins { s3 with heap:=s3.heap.push { cls:=.type "slice",data:=.fields #[vl,vu,.none] } } σ H3 x v vl vu l u s3.heap.objs.size Q I4 r1 (Heap.IsSliceOf.new ..) pl pu q3
 show wpAny (model X.prog X.w) X.A (subscriptTail e (.Slice lo hi none p2) v (.ref s3.heap.objs.size)) (EP X pins σ Q) X.xe { s3 with heap:=s3.heap.push { cls:=.type "slice",data:=.fields #[vl,vu,.none] } }
 exact tail_any (ops:=[.ref s3.heap.objs.size,v]) ht hT hg (by with_unfolding_all rfl)
def qpV(xs:LV)(lo hi:Option Int):LV:=(xs.drop (HT.sIx xs.length 0 lo)).take (HT.sIx xs.length xs.length hi-HT.sIx xs.length 0 lo)
theorem qeX(xs:LV)(lo hi:Option Int):(qpV xs lo hi).length<=xs.length:=by
 unfold qpV;rw[List.length_take,List.length_drop];omega
def qDr(K:Frg):V->Option Int->Option Int->Hp->VK->Prop:=fun x lo hi H Q=>∃ a xs,x= .ref a/\SqT K H a xs/\
 ¬(HT.sIx xs.length 0 lo=0/\HT.sIx xs.length xs.length hi=xs.length)/\∀ p,H p=none->Q (.ref p) (upd H p (.tup (qpV xs lo hi)))
theorem qsV:SlR X (qDr X.K):=by
 intro pins s σ H x v vl vu lo hi sl Q I rx hs pl pu h;obtain⟨a,xs,rfl,hx,hw,q⟩:=h;cases rx;obtain⟨its,r,ht,hz⟩:=I.tuple hx;have hlen:its.toArray.size=xs.length:=by rw[wak];exact r.length.symm
 refine⟨"tuple",_,PyProof.Rows.slot_tuple_getitem.lookup,ht.typeIs,?_⟩;refine HT.getItem_tuple_cut ht hs pl pu (by rw[hlen];exact hw) ?_ (by rw[hlen];exact hz)
 rw[hlen];refine⟨.ref s.heap.objs.size,_,I.laid (t':=s.toks) (o:=.tup (qpV xs lo hi)) (fun b ob q=>Heap.get?_push_of_some _ q) (wac _) ?_,rfl,q _ (I.hok.fresh (wac _))⟩
 exact⟨waw (qeX xs lo hi) hz,_,(r.drop (HT.sIx xs.length 0 lo)).take (HT.sIx xs.length xs.length hi-HT.sIx xs.length 0 lo),IsTup.new _ _⟩
def qwS(K:Frg):R2:=fun x y H Q=>∃ a b xs ys,x= .ref a/\y= .ref b/\SqT K H a xs/\SqT K H b ys/\xs≠[]/\xs.length+ys.length<=sizeLine/\
 (ys= []->Q (.ref a) H)/\(ys≠[]->∀ p,H p=none->Q (.ref p) (upd H p (.tup (xs++ys))))
theorem Vals.nil_iff{xs:LV}{us:LVl}(r:Vals xs us):us= []↔xs= []:=by
 cases r with
 |nil=>simp
 |cons _ _=>simp
theorem qq5:OpR X (binaryOp .Add) (qwS X.K):=by
 intro pins s σ H x y v u Q I rx ry h;obtain⟨a,b,xs,ys,rfl,rfl,ha,hb,hx,hz,q1,q2⟩:=h;cases rx;cases ry;obtain⟨its,r1,p1,_⟩:=I.tuple ha;obtain⟨its2,r2,p2,_⟩:=I.tuple hb;refine HT.cat_tup p1 p2 (fun z=>hx (r1.nil_iff.mp z)) (fun z=>⟨.ref a,H,I,rfl,q1 (r2.nil_iff.mp z)⟩) (fun z=>?_) (by rw[<-r1.length,<-r2.length];exact hz)
 refine⟨.ref s.heap.objs.size,_,I.laid (t':=s.toks) (o:=.tup (xs++ys)) (fun b ob q=>Heap.get?_push_of_some _ q) (wac _) ?_,rfl,q2 (fun w=>z (r2.nil_iff.mpr w)) _ (I.hok.fresh (wac _))⟩
 exact⟨by rw[wad];exact hz,_,r1.append r2,IsTup.new _ _⟩
end
def ixN(n:Nat)(i:Int):Option Nat:=if 0<=i then(if i<n then some i.toNat else none)else if -(n:Int)<=i then some (i+n).toNat else none
def atI{α:Type}(xs:List α)(i:Int):Option α:=(ixN xs.length i).bind fun j=>xs[j]?
theorem qmm{n:Nat}{i:Int}{j:Nat}(h:ixN n i=some j):seqIndex? i n=some j/\j<n/\-(n:Int)<=i/\i<n:=by
 unfold ixN at h
 by_cases h0:0<=i
 · rw[if_pos h0]at h
   by_cases h1:i<n
   · rw[if_pos h1]at h
     have e:i.toNat=j:=Option.some.inj h;exact⟨by rw[seqIndex_of h0 h1,e],by omega,by omega,h1⟩
   · rw[if_neg h1]at h;cases h
 · rw[if_neg h0]at h
   by_cases h1:-(n:Int)<=i
   · rw[if_pos h1]at h
     have e:(i+n).toNat=j:=Option.some.inj h;exact⟨by rw[seqIndex_neg (by omega) h1,e],by omega,h1,by omega⟩
   · rw[if_neg h1]at h;cases h
theorem qji{α:Type}{xs:List α}{i:Int}{v:α}(h:atI xs i=some v):∃ j,seqIndex? i xs.length=some j/\xs[j]? =some v/\j<xs.length/\-(xs.length:Int)<=i/\i<xs.length:=by
 unfold atI at h;cases e:ixN xs.length i with
 |none=>rw[e]at h;cases h
 |some j=>
  rw[e]at h;obtain⟨h1,h2,h3,h4⟩:=qmm e;exact⟨j,h1,h,h2,h3,h4⟩
def qnk(b:Expr):Prop:=∀ o i,subscripted b false o i=operate [o,i] (getItem o i)
def IxR(X:Cx)(r:R2):Prop:=
 ∀ (value slice:Expr) (pins:LAO) (s:Shared) (σ:St) (H:Hp) (x y:V) (v u:Value) (Q:VK),Inv X pins σ H s->RelV x v->RelV y u->r x y H Q->
  subscripted slice false v u=operate [v,u] (getItem v u)->wpAny (model X.prog X.w) X.A (subscriptTail value slice v u) (EP X pins σ Q) X.xe s
def MtR(X:Cx)(id:String)(r:V->LV->Hp->VK->Prop):Prop:=
 ∀ (pins:LAO) (s:Shared) (σ:St) (H:Hp) (x:V) (xs:LV) (v:Value) (us:LVl) (Q:VK),Inv X pins σ H s->RelV x v->Vals xs us->r x xs H Q->
  wpAny (model X.prog X.w) X.A (call (.builtin id) (v::us)) (EP X pins σ Q) X.xe s
section
variable {X:Cx}{a b:Expr}{ta tb:TE}{pos:Pos}
theorem qw5{r:R2}(hr:IxR X r)(ha:PE X a ta)(hb:PE X b tb)(hs:qnk b):PE X (.Subscript a b pos) (tOp r ta tb):=by
 intro pins s σ H Q I h;exact Subscript_ (qyd ha hb I h fun v u s2 x y H2 I2 rx ry q=>hr a b pins s2 σ H2 x y v u Q I2 rx ry q (hs _ _))
def qDw(K:Frg):R2:=fun x y H Q=>∃ p xs i v,x= .ref p/\y= .int i/\SqL K H p xs/\atI xs i=some v/\Q v H
def qDu(K:Frg):R2:=fun x y H Q=>∃ p xs i v,x= .ref p/\y= .int i/\SqT K H p xs/\atI xs i=some v/\Q v H
def qDv:R2:=fun x y H Q=>∃ z i c,x= .str z/\y= .int i/\z.length<=sizeLine/\atI z.cps.toList i=some c/\Q (.str ⟨#[c]⟩) H
theorem qml:IxR X (qDw X.K):=by
 intro value slice pins s σ H x y v u Q I rx ry h hs;obtain⟨p,xs,i,z,rfl,rfl,hq,he,q⟩:=h;cases rx;obtain⟨t,rfl⟩:=ry;obtain⟨its,r,pl,hz⟩:=I.list hq;obtain⟨j,h1,h2,h3,h4,h5⟩:=qji he;obtain⟨w,ew,rw'⟩:=r.get h2;have hl:=r.length;have hn:=qfx;have fin:EP X pins σ Q w s:=⟨z,H,I,rw',q⟩
 by_cases h0:0<=i
 · have hj:i.toNat=j:=by
    rw[seqIndex_of h0 h5]at h1;exact Option.some.inj h1
   exact item_listR pl.isList h0 (by omega) (by rw[hj];simpa using ew) fin hs
 · have hj:(i+(its.toArray.size:Int)).toNat=j:=by
    rw[seqIndex_neg (by omega) h4]at h1
    rw[wak,<-hl];exact Option.some.inj h1
   exact subscriptTail_builtinR (x:=w) pl.isList.typeIs slot_list_getitem.lookup
    (wpAny_getItem_list_neg (Q:=fun r s'=>r=w/\EP X pins σ Q r s') pl.isList (by omega) (by rw[wak]<;>omega) (by omega) (by rw[hj];simpa using ew) ⟨rfl,fin⟩) hs
theorem quu:IxR X (qDu X.K):=by
 intro value slice pins s σ H x y v u Q I rx ry h hs;obtain⟨p,xs,i,z,rfl,rfl,hq,he,q⟩:=h;cases rx;obtain⟨t,rfl⟩:=ry;obtain⟨its,r,pl,hz⟩:=I.tuple hq;obtain⟨j,h1,h2,h3,h4,h5⟩:=qji he;obtain⟨w,ew,rw'⟩:=r.get h2;have hl:=r.length;have hn:=qfx;have fin:EP X pins σ Q w s:=⟨z,H,I,rw',q⟩;exact subscriptTail_builtinR (x:=w) pl.typeIs slot_tuple_getitem.lookup
  (getItem_tuple (j:=j) (Q:=fun r s'=>r=w/\EP X pins σ Q r s') pl (by omega) (by omega) (by rw[wak,<-hl];exact h1) (by simpa using ew) ⟨rfl,fin⟩) hs
theorem quv:IxR X qDv:=by
 intro value slice pins s σ H x y v u Q I rx ry h hs;obtain⟨z,i,c,rfl,rfl,hz,he,q⟩:=h;obtain⟨t,rfl⟩:=rx;obtain⟨t',rfl⟩:=ry;obtain⟨j,h1,h2,h3,h4,h5⟩:=qji he;have hl:z.cps.toList.length=z.length:=by simp[Str.length]
 rw[hl]at h1 h4 h5;have hn:=qfx;exact tail_any (typeIs_str s z t) slot_str_getitem.lookup (getItem_str (c:=c) (by
  have e1:decide (i< -(2 ^ 63:Int))=false:=decide_eq_false (by omega)
  have e2:decide (i ≥ 2 ^ 63)=false:=decide_eq_false (by omega)
  rw[e1,e2,Bool.or_false]) (by rw[h1];simpa using h2) ⟨.str ⟨#[c]⟩,H,I.tok _,⟨_,rfl⟩,q⟩) hs
theorem qko(its:LVl)(n j:Nat)(u:Value):Obj.mapSeq (·.setIfInBounds j u) { cls:=.type "list",data:=.seq its.toArray n }= { cls:=.type "list",data:=.seq (its.set j u).toArray n }:=by
 simp[Obj.mapSeq]
theorem Inv.lst{pins:LAO}{σ:St}{H:Hp}{s:Shared}{p:Addr}{xs:LV}(I:Inv X pins σ H s)(h:H p=some (.lst xs)):
 ∃ (its:LVl) (n:Nat),Vals xs its/\s.heap.get? p=some { cls:=.type "list",data:=.seq its.toArray n }/\xs.length<=sizeLine:=by
 obtain⟨z,its,n,r,e⟩:=I.hok p _ h;exact⟨its,n,r,e,z⟩
theorem Inv.lstUpd{pins:LAO}{σ:St}{H:Hp}{s:Shared}{p:Addr}{xs ys:LV}{its its':LVl}{n n':Nat}{f:Obj->Obj}(I:Inv X pins σ H s)(h:H p=some (.lst xs))
 (ho:s.heap.get? p=some { cls:=.type "list",data:=.seq its.toArray n }) (hf:f { cls:=.type "list",data:=.seq its.toArray n }= { cls:=.type "list",data:=.seq its'.toArray n' }) (r:Vals ys its') (hz:ys.length<=sizeLine) (t:Nat):
 Inv X pins σ (upd H p (.lst ys)) { s with heap:=s.heap.update p f,toks:=t }:=by
 have e:(s.heap.update p f).get? p=some { cls:=.type "list",data:=.seq its'.toArray n' }:=by
  rw[Heap.get?_update_self f ho (by rw[hf]<;>rfl),hf]
 refine I.write (x:=p) (e:=p) (by rw[h];trivial) (.inl rfl) (fun b u hb q=>(Heap.get?_update_other _ _ (Ne.symm hb)).trans q) ⟨_,e⟩ ?_
 exact⟨hz,its',n',r,e⟩
def qiE:V->V->V->Hp->(Hp->Prop)->Prop:=fun o i v H Q=>∃ p xs k j,o= .ref p/\i= .int k/\H p=some (.lst xs)/\ixN xs.length k=some j/\Q (upd H p (.lst (xs.set j v)))
theorem set_list:qvE X qiE:=by
 intro pins s σ H o i v ov iv u Q I ro ri rv h;obtain⟨p,xs,k,j,rfl,rfl,hp,hj,q⟩:=h;cases ro;obtain⟨t,rfl⟩:=ri;obtain⟨its,n,r,ho,hz⟩:=I.lst hp;obtain⟨h1,h2,h3,h4⟩:=qmm hj;have hl:=r.length;have hn:=qfx;have I':Inv X pins σ (upd H p (.lst (xs.set j v))) { s with heap:=s.heap.update p (Obj.mapSeq (·.setIfInBounds j u)) }:=
  I.lstUpd hp ho (qko its n j u) (r.set rv j) (by rw[List.length_set];exact hz) s.toks
 by_cases h0:0<=k
 · have hk:k.toNat=j:=by
    rw[seqIndex_of h0 h4]at h1;exact Option.some.inj h1
   exact PySem.W.ki_setAt ho h0 (by omega) (by rw[wak,<-hl];exact h4) (by rw[hk];exact⟨_,I',q⟩)
 · have hk:(k+(its.toArray.size:Int)).toNat=j:=by
    rw[seqIndex_neg (by omega) h3]at h1
    rw[wak,<-hl];exact Option.some.inj h1
   exact PySem.W.ki_setBack ho (by omega) (by rw[wak,<-hl];exact h3) (by omega) (by rw[hk];exact⟨_,I',q⟩)
theorem qgF(lo hi:Option Int)(n:Nat):(sliceBounds lo hi none n).1=((HT.sIx n 0 lo:Nat):Int)/\(sliceBounds lo hi none n).2.1=((HT.sIx n n hi:Nat):Int)/\(sliceBounds lo hi none n).2.2=1:=by
 refine⟨?_,?_,rfl⟩
 · cases lo with
   |none=>simp[sliceBounds,HT.sIx]
   |some i=>
    simp only[sliceBounds,HT.sIx,Option.getD_none,show(1:Int) > 0 by decide,if_true]
    by_cases h:i<0
    · simp only[h,if_true]<;>omega
    · simp only[h,if_false]<;>omega
 · cases hi with
   |none=>simp[sliceBounds,HT.sIx]
   |some i=>
    simp only[sliceBounds,HT.sIx,Option.getD_none,show(1:Int) > 0 by decide,if_true]
    by_cases h:i<0
    · simp only[h,if_true]<;>omega
    · simp only[h,if_false]<;>omega
theorem qfO(its:LVl)(lo hi:Option Int):slicePick its.toArray lo hi none=((its.drop (HT.sIx its.length 0 lo)).take (HT.sIx its.length its.length hi-HT.sIx its.length 0 lo)).toArray:=by
 obtain⟨h1,h2,h3⟩:=qgF lo hi its.toArray.size;unfold slicePick;rw[h1,h2,h3];simp only[sliceRange_one,pick_run,wak]<;>rfl
def qDs(K:Frg):V->Option Int->Option Int->Hp->VK->Prop:=fun x lo hi H Q=>∃ a xs,x= .ref a/\SqL K H a xs/\∀ p,H p=none->Q (.ref p) (upd H p (.lst (qpV xs lo hi)))
theorem qqo:SlR X (qDs X.K):=by
 intro pins s σ H x v vl vu lo hi sl Q I rx hs pl pu h;obtain⟨a,xs,rfl,hx,q⟩:=h;cases rx;obtain⟨its,r,ht,hz⟩:=I.list hx;have hlen:=r.length;refine⟨"list",_,slot_list_getitem.lookup,ht.isList.typeIs,?_⟩;refine wpAny_getItem_list_slice ht.isList hs pl pu .none (by simp) ?_ (by rw[wak]<;>omega)
 rw[qfO,<-hlen];refine⟨.ref s.heap.objs.size,_,I.laid (t':=s.toks) (o:=.lst (qpV xs lo hi)) (fun b ob q=>Heap.get?_push_of_some _ q) (wac _) ?_,rfl,q _ (I.hok.fresh (wac _))⟩
 exact⟨waw (qeX xs lo hi) hz,_,0,(r.drop (HT.sIx xs.length 0 lo)).take (HT.sIx xs.length xs.length hi-HT.sIx xs.length 0 lo),Heap.get?_push_size _ rfl⟩
theorem qb7:qbe X (.builtin "len") (fun xs H Q=>∃ p ys,xs= [.ref p]/\(SqL X.K H p ys∨SqT X.K H p ys)/\Q (.int ys.length) H):=by
 intro pins s σ H xs us Q I r h;obtain⟨p,ys,rfl,hq,q⟩:=h;obtain⟨u,rfl,rx⟩:=vals1 r;cases rx;have hn:=qfx;rcases hq with hq|hq
 · obtain⟨its,r',pl,hz⟩:=I.list hq
   have hlen:=r'.length;exact Calls.call_len_list pl.isList (by simp only[wak]<;>omega) ⟨.int ys.length,H,I.tok _,⟨s.toks+1,by rw[wak,hlen]⟩,q⟩
 · obtain⟨its,r',pl,hz⟩:=I.tuple hq
   have hlen:=r'.length;exact len_tuple pl (by simp only[wak]<;>omega) ⟨.int ys.length,H,I.tok _,⟨s.toks+1,by rw[wak,hlen]⟩,q⟩
theorem qhY:qbe X (.builtin "len") (fun xs H Q=>∃ z,xs= [.str z]/\z.length<=sizeLine/\Q (.int z.length) H):=by
 intro pins s σ H xs us Q I r h;obtain⟨z,rfl,hz,q⟩:=h;obtain⟨u,rfl,t,rfl⟩:=vals1 r;have hn:=qfx;exact len_str (by omega) ⟨.int z.length,H,I.tok _,⟨_,rfl⟩,q⟩
theorem qbQ:qbe X (.type "tuple") (fun xs H Q=>∃ p ys,xs= [.ref p]/\((SqL X.K H p ys/\∀ l,H l=none->Q (.ref l) (upd H l (.tup ys)))∨(SqT X.K H p ys/\Q (.ref p) H))):=by
 intro pins s σ H xs us Q I r h;obtain⟨p,ys,rfl,h⟩:=h;obtain⟨u,rfl,rx⟩:=vals1 r;cases rx;rcases h with⟨hq,q⟩|⟨hq,q⟩
 · obtain⟨its,r',pl,hz⟩:=I.list hq
   have hlen:=r'.length;refine call_tuple_list pl.isList (fun h' kp=>?_) (by simp only[wak]<;>omega)
   have I1:Inv X pins σ H { s with heap:=h' }:=I.kept (t':=s.toks) kp
   have I2:Inv X pins σ (upd H h'.objs.size (.tup ys)) { s with heap:=h'.push { cls:=.type "tuple",data:=.seq its.toArray } }:=
    I1.laid (t':=s.toks) (fun b o e=>Heap.get?_push_of_some _ e) (wac _) (show ObjOk X.prog X.w _ _ _ (.tup ys)from⟨hz,its,r',IsTup.new _ _⟩)
   exact⟨.ref h'.objs.size,_,I2,rfl,q _ (I1.hok.fresh (wac _))⟩
 · obtain⟨its,r',pl,hz⟩:=I.tuple hq
   exact call_tuple_same pl ⟨.ref p,H,I,rfl,q⟩
def tyV(K:Frg)(T:String)(x:V)(H:Hp):Prop:=match x with
 | .str _=>T= "str"
 | .int _=>T= "int"
 | .ref p=>(T= "list"/\∃ xs,SqL K H p xs)∨(T= "tuple"/\∃ o,K.lookup p=some o/\o.cls= .type "tuple"/\o.dict=none)∨
  (T= "dict"/\((∃ kvs,H p=some (.dK kvs))∨∃ kvs,H p=some (.dT kvs)))∨(T= "set"/\∃ S n,H p=some (.set S n))
 |_=>False
theorem qsG{pins:LAO}{σ:St}{H:Hp}{s:Shared}{T:String}{x:V}{v:Value}(I:Inv X pins σ H s)(r:RelV x v)(ty:tyV X.K T x H):
 s.TypeIs v T/\∀ a,v= .ref a->∃ ob,s.heap.get? a=some ob/\ob.dict=none:=by
 cases x with
 |str z=>
  obtain⟨t,rfl⟩:=r;cases(show T= "str" from ty)
  exact⟨typeIs_str s z t,fun _ e=>nomatch e⟩
 |int i=>
  obtain⟨t,rfl⟩:=r;cases(show T= "int" from ty)
  exact⟨typeIs_int s i t,fun _ e=>nomatch e⟩
 |ref p=>
  cases r;rcases ty with⟨rfl,xs,hq⟩|⟨rfl,o,hk,hc,hd⟩|⟨rfl,hk⟩|⟨rfl,S,n,hk⟩
  · obtain⟨its,_,pl,_⟩:=I.list hq
    refine⟨pl.isList.typeIs,fun a e=>?_⟩
    cases e;obtain⟨o,n,e,c,hd,_⟩:=pl;exact⟨o,e,hd⟩
  · refine⟨⟨o,I.kIn p o hk,hc⟩,fun a e=>?_⟩
    cases e;exact⟨o,I.kIn _ o hk,hd⟩
  · have z:∃ o,s.heap.get? p=some o/\o.ExactDict:=by
     rcases hk with⟨kvs,hk⟩|⟨kvs,hk⟩
     · obtain⟨_,_,_,_,o,_,_,e,ex,_⟩:=I.hok p _ hk
       exact⟨o,e,ex⟩
     · obtain⟨_,_,_,_,o,_,_,e,ex,_⟩:=I.hok p _ hk
       exact⟨o,e,ex⟩
    obtain⟨o,e,ex⟩:=z;refine⟨⟨o,e,ex.1⟩,fun a e2=>?_⟩
    cases e2;exact⟨o,e,ex.2.1⟩
  · obtain⟨o,_,_,_,e,ex,_⟩:=I.hok p _ hk
    refine⟨⟨o,e,ex.1⟩,fun a e2=>?_⟩
    cases e2;exact⟨o,e,ex.2.1⟩
 |_=>exact False.elim ty
def tBM(K:Frg)(T:String)(r:V->LV->Hp->VK->Prop)(to:TE)(t:TA):TE:=fun σ H Q=>to σ H fun x H1=>tyV K T x H1/\t σ H1 fun xs H2=>r x xs H2 Q
variable {o e:Expr}{es:LEx}{to:TE}{t:TA}{name:Str}{apos cpos:Pos}{T id:String}{r:V->LV->Hp->VK->Prop}
theorem qw6(pa:PlainAttrs T)(slot:Slot T name id)(hty:typeOf (.builtin id)=pure (.type "method_descriptor"))(hm:MtR X id r)(ho:PE X o to)(ha:PA X (e::es) t)
 (hbase:attributeBase o name X.env (eval o X.env)=eval o X.env:=by rfl)
 (hfew:((backTo cpos (starEach (e::es) X.env)).all (fun x=>!x.1)&&(backToKw cpos (keywordEach [] X.env)).all (fun x=>x.1.isSome)
  &&decide ((e::es).length+([]:List Keyword).length+(if([]:List Keyword).isEmpty then 0 else 1)<30))=true:=by rfl)
 (hline:(apos.endLine==cpos.line)=true:=by rfl) (hs:starEach (e::es) X.env=(false,eval e X.env)::starEach es X.env:=by rfl) (hplain:(backTo cpos (starEach es X.env)).any (·.1)=false:=by rfl):
 PE X (.Call (.Attribute o name apos) (e::es) [] cpos) (tBM X.K T r to t):=by
 intro pins s σ H Q I h;refine wpAny_Call_method_late hbase hfew hline rfl (thn (ho pins s σ H _ I h) fun v s1 ⟨x,H1,I1,r1,ty,q1⟩=>?_)
 obtain⟨h1,h2⟩:=qsG I1 r1 ty;refine⟨T,id,pa,slot,hty,h1,h2,?_⟩;have hA:=ha cpos pins s1 σ H1 _ I1 q1;rw[hs]at hA ⊢;refine Calls.callWith_builtin (by show(false||(backTo cpos (starEach es X.env)).any (·.1))=false;rw[hplain]<;>rfl) (Calls.evalArgs_plain ?_)
 exact thn hA fun us s2 ⟨vs,H2,I2,r2,q2⟩=>hm pins s2 σ H2 x vs v us Q I2 r1 r2 q2
end
def MtM(X:Cx)(id:String)(r:V->LV->Hp->VK->Prop):Prop:=
 ∀ (pins:LAO) (s:Shared) (σ:St) (H:Hp) (x:V) (xs:LV) (v:Value) (us:LVl) (Q:VK),Inv X pins σ H s->RelV x v->Vals xs us->r x xs H Q->
  wpAny (model X.prog X.w) X.A (call (.builtin id) (v::us)) (EP X pins σ Q) X.xe s
theorem Vals.one:∀ {x:V} {us:LVl},Vals [x] us->∃ u,us= [u]/\RelV x u
 |_,_,.cons r .nil=>⟨_,rfl,r⟩
theorem Vals.rep{xs:LV}{us:LVl}(h:Vals xs us):∀ k:Nat,Vals (List.replicate k xs).flatten (List.replicate k us).flatten
 |0=>.nil
 |k+1=>by
  rw[waJ,waJ,waT,waT];exact Vals.append h (Vals.rep h k)
theorem foldl_rep(its:LVl):∀ (k:Nat) (acc:LVl),
 List.foldl (fun x1 x2=>x1++x2) acc.toArray (List.replicate k its.toArray)=(acc++(List.replicate k its).flatten).toArray
 |0,acc=>by simp
 |k+1,acc=>by
  have e:acc.toArray++its.toArray=(acc++its).toArray:=by simp
  have e2:(acc++its)++(List.replicate k its).flatten=acc++(List.replicate (k+1) its).flatten:=by
   rw[waJ,waT,wa5]
  rw[<-e2,<-foldl_rep its k (acc++its),<-e,waJ,List.foldl_cons]
section
variable {X:Cx}{pins:LAO}{σ:St}{H:Hp}{s:Shared}{l b:Addr}{xs ys zs:LV}
theorem Inv.lset{its its':LVl}{n:Nat}{f:Array Value->Array Value}{t':Nat}(I:Inv X pins σ H s)(hH:H l=some (.lst xs))
 (e:s.heap.get? l=some { cls:=.type "list",data:=.seq its.toArray n }) (hf:f its.toArray=its'.toArray) (hv:Vals ys its') (hz:ys.length<=sizeLine):
 Inv X pins σ (upd H l (.lst ys)) { s with heap:=s.heap.update l (Obj.mapSeq f),toks:=t' }:=by
 have q:=PySem.IsL.update e f;rw[hf]at q;refine I.write (x:=l) (e:=l) (by rw[hH];exact trivial) (.inl rfl) (fun b' u hb hu=>(Heap.get?_update_other s.heap (Obj.mapSeq f) (Ne.symm hb)).trans hu) ⟨_,q⟩ ?_
 exact⟨hz,its',_,hv,q⟩
theorem Inv.lnew{its:LVl}{t':Nat}(I:Inv X pins σ H s)(hv:Vals ys its)(hz:ys.length<=sizeLine):
 Inv X pins σ (upd H s.heap.objs.size (.lst ys)) { s with heap:=s.heap.push { cls:=.type "list",data:=.seq its.toArray },toks:=t' }:=
 I.laid (fun _ _ q=>Heap.get?_push_of_some _ q) (wac _) ⟨hz,its,0,hv,Heap.get?_push_size _ rfl⟩
theorem Inv.fresh(I:Inv X pins σ H s):H s.heap.objs.size=none:=I.hok.fresh (wac _)
theorem Inv.lstM(I:Inv X pins σ H s)(hH:H l=some (.lst xs)):xs.length<=sizeLine/\∃ (its:LVl) (n:Nat),Vals xs its/\xs.length=its.length/\s.heap.get? l=some { cls:=.type "list",data:=.seq its.toArray n }:=by
 obtain⟨z,its,n,r,e⟩:=I.hok l _ hH;exact⟨z,its,n,r,r.length,e⟩
theorem qor{n:Nat}(h:n<=sizeLine):Builtin.List.listTooLong n=false:=by
 unfold Builtin.List.listTooLong;exact decide_eq_false (by omega)
end
section
variable {X:Cx}
def qqJ:V->LV->Hp->VK->Prop:=fun x vs H Q=>∃ l xs y,x= .ref l/\vs= [y]/\H l=some (.lst xs)/\xs.length<sizeLine/\Q .non (upd H l (.lst (xs++ [y])))
theorem ql3:MtM X "list.append" qqJ:=by
 intro pins s σ H x vs v us Q I rx rv h;obtain⟨l,xs,y,rfl,rfl,hH,hz,q⟩:=h;cases rx;obtain⟨u,rfl,ru⟩:=rv.one;obtain⟨z,its,n,r,hl,e⟩:=I.lstM hH;refine call_meets F.slot_list_append ⟨_,e,rfl⟩ F.entry_list_append (F.args_list_append_2 _ _) (PySem.list_append l its.toArray n u (by rw[wak];omega)) ⟨e,?_⟩
 refine⟨.non,_,I.lset (its':=its++ [u]) hH e (by simp) (r.append (.cons ru .nil)) ?_,rfl,q⟩
 rw[wad,List.length_singleton];omega
def qDt:R2:=fun x y H Q=>∃ l k xs,x= .ref l/\y= .int k/\H l=some (.lst xs)/\-(2 ^ 63)<=k/\k<2 ^ 63/\xs.length*k.toNat<=sizeLine/\
 ∀ p,H p=none->Q (.ref p) (upd H p (.lst (List.replicate k.toNat xs).flatten))
theorem len_rep{α:Type}(xs:List α)(k:Nat):(List.replicate k xs).flatten.length=k*xs.length:=by
 induction k with
 |zero=>simp
 |succ k ih=>rw[waJ,waT,wad,ih,Nat.succ_mul,Nat.add_comm]
theorem qtV:OpR X (binaryOp .Mult) qDt:=by
 intro pins s σ H x y v u Q I rx ry h;obtain⟨l,k,xs,rfl,rfl,hH,h1,h2,hz,q⟩:=h;cases rx;obtain⟨t,rfl⟩:=ry;obtain⟨z,its,n,r,hl,e⟩:=I.lstM hH;have hlen:its.toArray.size*k.toNat<=sizeLine:=by rw[wak,<-hl];exact hz
 have hcap:¬its.toArray.size*k.toNat > (2 ^ 63-1) / 8:=by
  have:(sizeLine:Nat)<=(2 ^ 63-1) / 8:=by decide
  omega
 have hfit:¬(!Builtin.List.listFitsIndex k)=true:=by
  rw[fitsIndex_both h1 h2];exact wau
 have hlong:¬Builtin.List.listTooLong (its.toArray.size*k.toNat)=true:=by
  rw[qor hlen];exact wau
 have hnew:List.foldl (fun x1 x2=>x1++x2) #[] (List.replicate (if its.toArray.isEmpty=true then 0 else k.toNat) its.toArray)=(List.replicate k.toNat its).flatten.toArray:=by
  have f0:∀ m:Nat,List.foldl (fun x1 x2=>x1++x2) #[] (List.replicate m its.toArray)=(List.replicate m its).flatten.toArray:=fun m=>by
   have:=foldl_rep its m [];rw[waI]at this;exact this
  rw[f0];cases its with
  |nil=>simp
  |cons a r'=>rw[if_neg (by simp)]
 refine wpAny_binaryOp_repeat_ref (T:="list") (U:="int") (by decide) ⟨_,e,rfl⟩ (fun s'=>typeIs_int s' k t) noFill_list_mul F.fills_int_mul F.slot_int_rmul repeat_list F.slot_int_index.lookup
  (call_meets F.slot_int_rmul (typeIs_int s k t) F.entry_int_rmul (F.args_int_rmul_2 _ _) (int___rmul___int_list k t l its.toArray n)
   ⟨e,rfl,⟨_,e,rfl⟩,call_meets F.slot_list_mul ⟨_,e,rfl⟩ F.entry_list_mul (F.args_list_mul_2 _ _) (AutoListH.list___mul___list_int_3 l its.toArray n k t hfit hcap hlong) ⟨e,?_⟩⟩)
 rw[hnew];exact⟨.ref _,_,I.lnew (t':=s.toks) (r.rep k.toNat) (by rw[len_rep,Nat.mul_comm];exact hz),rfl,q _ I.fresh⟩
end
section
variable {κ:Type}[DecidableEq κ]
def qe0(kvs:List (κ×V))(k:κ):Option V:=(kvs.find? fun kv=>decide (kv.1=k)).map (·.2)
def putK(kvs:List (κ×V))(k:κ)(v:V):List (κ×V):=
 if(kvs.any fun kv=>decide (kv.1=k))=true then kvs.map (fun kv=>if kv.1=k then(kv.1,v)else kv)else kvs++ [(k,v)]
def qhQ(kvs:List (κ×V))(k:κ):List (κ×V):=kvs.filter fun kv=>decide (kv.1≠k)
theorem qcB{p:κ×V}{r:List (κ×V)}{k:κ}(e:p.1=k):qe0 (p::r) k=some p.2:=by simp[qe0,List.find?_cons,e]
theorem qbH{p:κ×V}{r:List (κ×V)}{k:κ}(e:¬p.1=k):qe0 (p::r) k=qe0 r k:=by simp[qe0,List.find?_cons,e]
theorem qd0(k:κ):∀ kvs:List (κ×V),(kvs.any fun kv=>decide (kv.1=k))=(qe0 kvs k).isSome
 | []=>rfl
 |p::r=>by
  rw[waL]
  by_cases e:p.1=k
  · simp only[qcB e,decide_eq_true e,Bool.true_or,Option.isSome_some]
  · rw[qbH e,decide_eq_false e,Bool.false_or];exact qd0 k r
theorem qcu(kvs:List (κ×V))(k:κ)(v:V):(putK kvs k v).length<=kvs.length+1:=by
 unfold putK;split
 · rw[wab];omega
 · rw[wad,wah,List.length_nil];omega
theorem qn5{kvs:List (κ×V)}{k:κ}(v:V)(h:qe0 kvs k=none):putK kvs k v=kvs++ [(k,v)]:=by
 unfold putK;rw[qd0,h];exact if_neg (by decide)
theorem RelO.isSome_eq{o:Option V}{u:OVl}(r:RelO o u):o.isSome=u.isSome:=by
 cases o with
 |none=>cases u with
  |none=>rfl
  |some _=>exact(show False from r).elim
 |some _=>cases u with
  |none=>exact(show False from r).elim
  |some _=>rfl
theorem RelO.getD{o:Option V}{u:OVl}{d:V}{d':Value}(r:RelO o u)(rd:RelV d d'):RelV (o.getD d) (u.getD d'):=by
 cases o with
 |none=>cases u with
  |none=>exact rd
  |some _=>exact(show False from r).elim
 |some _=>cases u with
  |none=>exact(show False from r).elim
  |some _=>exact r
theorem KV.val{kvs:List (κ×V)}{vs:List (κ×Value)}(r:KV kvs vs)(k:κ):RelO (qe0 kvs k) (valueAt vs k):=by
 unfold KV at r
 induction r with
 |nil=>exact True.intro
 | @cons p q ps qs h t ih=>
  obtain⟨h1,h2⟩:=h
  by_cases e:p.1=k
  · have e':q.1=k:=h1.symm.trans e
    have b:valueAt (q::qs) k=some q.2:=by simp[valueAt,List.find?_cons,e']
    rw[qcB e,b];exact h2
  · have e':¬q.1=k:=fun z=>e (h1.trans z)
    have b:valueAt (q::qs) k=valueAt qs k:=by simp[valueAt,List.find?_cons,e']
    rw[qbH e,b];exact ih
theorem KV.any{kvs:List (κ×V)}{vs:List (κ×Value)}(r:KV kvs vs)(k:κ):(kvs.any fun kv=>decide (kv.1=k))=vs.any fun kv=>decide (kv.1=k):=by
 unfold KV at r
 induction r with
 |nil=>rfl
 |cons h t ih=>rw[waL,waL,ih,h.1]
theorem KV.repl{kvs:List (κ×V)}{vs:List (κ×Value)}(r:KV kvs vs)(k:κ){y:V}{u:Value}(ry:RelV y u):
 KV (kvs.map fun kv=>if kv.1=k then(kv.1,y)else kv) (vs.map fun kv=>if kv.1=k then(kv.1,u)else kv):=by
 unfold KV at r ⊢
 induction r with
 |nil=>exact .nil
 | @cons p q ps qs h t ih=>
  rw[wae,wae];refine .cons ?_ ih;obtain⟨h1,h2⟩:=h
  by_cases e:p.1=k
  · rw[if_pos e,if_pos (h1.symm.trans e)];exact⟨h1,ry⟩
  · rw[if_neg e,if_neg (fun z=>e (h1.trans z))];exact⟨h1,h2⟩
theorem KV.put{kvs:List (κ×V)}{vs:List (κ×Value)}(r:KV kvs vs)(k:κ){y:V}{u:Value}(ry:RelV y u):KV (putK kvs k y) (stored vs k u):=by
 unfold putK stored;rw[r.any k]
 by_cases e:(vs.any fun kv=>decide (kv.1=k))=true
 · rw[if_pos e,if_pos e];exact r.repl k ry
 · rw[if_neg e,if_neg e];exact Paired.snoc r ⟨rfl,ry⟩
theorem KV.drop{kvs:List (κ×V)}{vs:List (κ×Value)}(r:KV kvs vs)(k:κ):KV (qhQ kvs k) (without vs k):=by
 unfold KV at r ⊢;unfold qhQ without
 induction r with
 |nil=>exact .nil
 | @cons p q ps qs h t ih=>
  obtain⟨h1,h2⟩:=h;rw[List.filter_cons,List.filter_cons]
  by_cases e:p.1=k
  · have a:¬decide (p.1≠k)=true:=by simp[e]
    have b:¬decide (q.1≠k)=true:=by simp[h1.symm.trans e]
    rw[if_neg a,if_neg b];exact ih
  · have e':¬q.1=k:=fun z=>e (h1.trans z)
    have a:decide (p.1≠k)=true:=by simp[e]
    have b:decide (q.1≠k)=true:=by simp[e']
    rw[if_pos a,if_pos b];exact .cons ⟨h1,h2⟩ ih
theorem KV.length{kvs:List (κ×V)}{vs:List (κ×Value)}(r:KV kvs vs):kvs.length=vs.length:=Paired.length r
theorem qoR(kvs:List (κ×V))(k:κ):(qhQ kvs k).length<=kvs.length:=wa3 _ _
end
theorem qfh{P:Program}{w:World}{k:Key}{u:Value}(r:RelV (kV k) u):(qap P w).is k u=true:=by
 cases k with
 |inl i=>obtain⟨t,e⟩:=(show ∃ t,u=Value.int i t from r);subst e;exact qiL P w i t
 |inr x=>obtain⟨t,e⟩:=(show ∃ t,u=Value.str x t from r);subst e;exact qey P w x t
theorem qxl{P:Program}{w:World}{k:qbW}{u:Value}(r:RelV (oV k) u):(optKind P w).is k u=true:=by
 cases k with
 |none=>cases(show u=Value.none from r);rfl
 |some j=>exact qfh (P:=P) (w:=w) r
theorem qhF{P:Program}{w:World}:∀ {ks:List qbW} {us:LVl},Vals (ks.map oV) us->ItemsAre (optKind P w) ks us
 | [],_,r=>by rw[wa4]at r;cases r;exact .nil
 |k::ks,_,r=>by
  rw[wae]at r;cases r with
  |cons h t=>exact .cons (qxl h) (qhF t)
abbrev KT(H:Hp):List (List qbW×V)->List (List qbW×Addr×Value)->Prop:=Paired fun p q=>p.1=q.1/\H q.2.1=some (.tup (p.1.map oV))/\RelV p.2 q.2.2
theorem KT.val{H:Hp}{kvs:List (List qbW×V)}{xs:List (List qbW×Addr×Value)}(r:KT H kvs xs)(k:List qbW):RelO (qe0 kvs k) ((atKey xs k).map (·.2)):=by
 induction r with
 |nil=>exact True.intro
 | @cons p q ps qs h t ih=>
  obtain⟨h1,_,h2⟩:=h
  by_cases e:p.1=k
  · have e':q.1=k:=h1.symm.trans e
    have b:atKey (q::qs) k=some q.2:=by simp[atKey,List.find?_cons,e']
    rw[qcB e,b];exact h2
  · have e':¬q.1=k:=fun z=>e (h1.trans z)
    have b:atKey (q::qs) k=atKey qs k:=by simp[atKey,List.find?_cons,e']
    rw[qbH e,b];exact ih
theorem KT.repl{H:Hp}{kvs:List (List qbW×V)}{xs:List (List qbW×Addr×Value)}(r:KT H kvs xs)(k:List qbW){y:V}{u:Value}(ry:RelV y u):
 KT H (kvs.map fun kv=>if kv.1=k then(kv.1,y)else kv) (xs.map (putAt k u)):=by
 induction r with
 |nil=>exact .nil
 | @cons p q ps qs h t ih=>
  rw[wae,wae];refine .cons ?_ ih;obtain⟨h1,h2,h3⟩:=h;unfold putAt
  by_cases e:p.1=k
  · rw[if_pos e,if_pos (h1.symm.trans e)];exact⟨h1,h2,ry⟩
  · rw[if_neg e,if_neg (fun z=>e (h1.trans z))];exact⟨h1,h2,h3⟩
theorem KT.put{H:Hp}{kvs:List (List qbW×V)}{xs:List (List qbW×Addr×Value)}(r:KT H kvs xs)(k:List qbW){b:Addr}{y:V}{u:Value}(hb:H b=some (.tup (k.map oV)))(ry:RelV y u):
 KT H (putK kvs k y) (storedH xs k b u):=by
 have e:(kvs.any fun kv=>decide (kv.1=k))=(atKey xs k).isSome:=by
  rw[qd0,(r.val k).isSome_eq,Option.isSome_map]
 unfold putK storedH;rw[e]
 by_cases q:(atKey xs k).isSome=true
 · rw[if_pos q,if_pos q];exact r.repl k ry
 · rw[if_neg q,if_neg q];exact Paired.snoc r ⟨rfl,hb,ry⟩
theorem KT.keeps{H H':Hp}{kvs:List (List qbW×V)}{xs:List (List qbW×Addr×Value)}(r:KT H kvs xs)(ht:∀ b ys,H b=some (.tup ys)->H' b=some (.tup ys)):KT H' kvs xs:=
 Paired.mapP r fun _ _ z=>⟨z.1,ht _ _ z.2.1,z.2.2⟩
section
variable {P:Program}{w:World}{H:Hp}{h:Heap}{a:Addr}
theorem qtc{u:HO}(ok:HOk P w H h)(e:Rd H a u):ObjOk P w H h a u:=e.ok ok
theorem qhR{kvs:List (Key×V)}(ok:HOk P w H h)(e:Rd H a (.dK kvs)):kvs.length<=sizeLine/\(a==sysModules)=false/\∃ vs,KV kvs vs/\h.DictOf (qap P w) a vs:=
 show ObjOk P w H h a (.dK kvs)from qtc ok e
theorem qrK{kvs:List (Key×V)}(ok:HOk P w H h)(e:H a=some (.dK kvs)):kvs.length<=sizeLine/\(a==sysModules)=false/\∃ vs,KV kvs vs/\h.DictOf (qap P w) a vs:=qhR ok (.inl e)
theorem qfz{ks:List qbW}(ok:HOk P w H h)(e:H a=some (.tup (ks.map oV))):(tupleKind (optKind P w)).is h ks a:=by
 obtain⟨_,its,r,o,h1,h2,n,h3⟩:=(show ObjOk P w H h a (.tup (ks.map oV))from ok a _ e)
 exact⟨o,its.toArray,n,h1,h2,h3,by simpa using qhF r⟩
theorem qje{kvs:List (List qbW×V)}(ok:HOk P w H h)(e:Rd H a (.dT kvs)):kvs.length<=sizeLine/\(a==sysModules)=false/\
 ∃ xs,KT H kvs xs/\h.DictOfH (tupleKind (optKind P w)) a xs:=by
 obtain⟨z,y,xs,r,o,es,ep,h1,h2,h3,h4,h5⟩:=(show ObjOk P w H h a (.dT kvs)from qtc ok e)
 refine⟨z,y,xs,r,o,es,ep,h1,h2,h3,h4,fun x hx=>?_,h5⟩
 have all:∀ {l:List (List qbW×V)} {m:List (List qbW×Addr×Value)},KT H l m->∀ x∈m,(tupleKind (optKind P w)).is h x.1 x.2.1:=by
  intro l m q
  induction q with
  |nil=>intro x hx;exact nomatch hx
  | @cons p q ps qs hq t ih=>
   intro x hx;rcases waf.mp hx with e|hx
   · subst e
     exact qfz ok (by rw[<-hq.1];exact hq.2.1)
   · exact ih x hx
 exact all r x hx
theorem qxX{kvs:List (List qbW×V)}(ok:HOk P w H h)(e:H a=some (.dT kvs)):kvs.length<=sizeLine/\(a==sysModules)=false/\
 ∃ xs,KT H kvs xs/\h.DictOfH (tupleKind (optKind P w)) a xs:=qje ok (.inl e)
end
def DGet(H:Hp)(a:Addr)(y:V)(r:Option V):Prop:=
 (∃ kvs k,Rd H a (.dK kvs)/\y=kV k/\r=qe0 kvs k)∨∃ kvs k b,Rd H a (.dT kvs)/\y= .ref b/\H b=some (.tup (k.map oV))/\r=qe0 kvs k
def DPut(H:Hp)(a:Addr)(y v:V)(H':Hp):Prop:=
 (∃ kvs k,H a=some (.dK kvs)/\y=kV k/\kvs.length<sizeLine/\H'=upd H a (.dK (putK kvs k v)))∨
 ∃ kvs k b,H a=some (.dT kvs)/\y= .ref b/\H b=some (.tup (k.map oV))/\kvs.length<sizeLine/\H'=upd H a (.dT (putK kvs k v))
theorem DGet.k{H:Hp}{a:Addr}{kvs:List (Key×V)}{k:Key}(e:H a=some (.dK kvs)):DGet H a (kV k) (qe0 kvs k):=.inl ⟨kvs,k,.inl e,rfl,rfl⟩
theorem DGet.t{H:Hp}{a b:Addr}{kvs:List (List qbW×V)}{k:List qbW}(e:H a=some (.dT kvs))(eb:H b=some (.tup (k.map oV))):DGet H a (.ref b) (qe0 kvs k):=.inr ⟨kvs,k,b,.inl e,rfl,eb,rfl⟩
theorem DPut.k{H:Hp}{a:Addr}{kvs:List (Key×V)}{k:Key}{v:V}(e:H a=some (.dK kvs))(hl:kvs.length<sizeLine):DPut H a (kV k) v (upd H a (.dK (putK kvs k v))):=.inl ⟨kvs,k,e,rfl,hl,rfl⟩
theorem DPut.t{H:Hp}{a b:Addr}{kvs:List (List qbW×V)}{k:List qbW}{v:V}(e:H a=some (.dT kvs))(eb:H b=some (.tup (k.map oV)))(hl:kvs.length<sizeLine):
 DPut H a (.ref b) v (upd H a (.dT (putK kvs k v))):=.inr ⟨kvs,k,b,e,rfl,eb,hl,rfl⟩
section
variable {X:Cx}{pins:LAO}{σ:St}{H:Hp}{s:Shared}{a:Addr}{y v:V}{u r:Value}{o:Option V}{A:Around}{E:VSP}
theorem Inv.big(I:Inv X pins σ H s):sysModules<s.heap.objs.size:=by
 have h:mainGlobals<s.heap.objs.size:=(I.mod.glob.keeps I.bk).lt;exact waB (by decide) h
theorem qm0{Q:VSP}(hu:A.units+1<cLine)(I:Inv X pins σ H s)(g:DGet H a y (some v))(ry:RelV y u)(h:∀ w' s',Inv X pins σ H s'->RelV v w'->Q w' s'):
 wpAny (model X.prog X.w) A (getItem (.ref a) u) Q E s:=by
 rcases g with⟨kvs,k,e,ey,l⟩|⟨kvs,k,b,e,ey,eb,l⟩
 · subst ey
   obtain⟨z,hd,vs,rel,dd⟩:=qhR I.hok e;obtain⟨w',hw,rw'⟩:=RelO.some_of (v:=v) (o:=valueAt vs k) (by rw[l];exact rel.val k)
   exact wpAny_getItem_of (qfh ry) dd.mapOf hw (h w' _ (I.tok _) rw')
 · subst ey
   cases(show u=Value.ref b from ry)
   obtain⟨z,hd,xs,rel,dd⟩:=qje I.hok e;obtain⟨w',hw,rw'⟩:=RelO.some_of (v:=v) (o:=(atKey xs k).map (·.2)) (by rw[l];exact rel.val k)
   obtain⟨p,hp,hp2⟩:=Option.map_eq_some_iff.mp hw;refine wpAny_getItem_heap (tupleKind_room_in1 hu) (qfz I.hok eb) dd hp ?_;rw[hp2];exact h w' _ (I.tok _) rw'
theorem qDX{Q:VSP}(hu:A.units+1<cLine)(I:Inv X pins σ H s)(g:DGet H a y o)(ry:RelV y u)(h:∀ s',Inv X pins σ H s'->Q (.bool o.isSome) s'):
 wpAny (model X.prog X.w) A (compareOp .In u (.ref a)) Q E s:=by
 rcases g with⟨kvs,k,e,ey,l⟩|⟨kvs,k,b,e,ey,eb,l⟩
 · subst ey
   obtain⟨z,hd,vs,rel,dd⟩:=qhR I.hok e;refine wpAny_in_of (qfh ry) hd dd.mapOf ?_;rw[<-(rel.val k).isSome_eq,<-l];exact h _ (I.tok _)
 · subst ey
   cases(show u=Value.ref b from ry)
   obtain⟨z,hd,xs,rel,dd⟩:=qje I.hok e;refine wpAny_in_heap (tupleKind_room_in1 hu) (qfz I.hok eb) hd dd ?_;have q:=(rel.val k).isSome_eq;rw[Option.isSome_map]at q;rw[<-q,<-l];exact h _ (I.tok _)
theorem qrL{Q:VSP}(hu:A.units+1<cLine)(I:Inv X pins σ H s)(g:DGet H a y o)(ry:RelV y u)(h:∀ s',Inv X pins σ H s'->Q (.bool (!o.isSome)) s'):
 wpAny (model X.prog X.w) A (compareOp .NotIn u (.ref a)) Q E s:=by
 rcases g with⟨kvs,k,e,ey,l⟩|⟨kvs,k,b,e,ey,eb,l⟩
 · subst ey
   obtain⟨z,hd,vs,rel,dd⟩:=qhR I.hok e;refine wpAny_notIn_of (qfh ry) hd dd.mapOf ?_;rw[<-(rel.val k).isSome_eq,<-l];exact h _ (I.tok _)
 · subst ey
   cases(show u=Value.ref b from ry)
   obtain⟨z,hd,xs,rel,dd⟩:=qje I.hok e;refine wpAny_notIn_heap (tupleKind_room_in1 hu) (qfz I.hok eb) hd dd ?_;have q:=(rel.val k).isSome_eq;rw[Option.isSome_map]at q;rw[<-q,<-l];exact h _ (I.tok _)
theorem qgp{h':Heap}{t':Nat}{ob:HO}(I:Inv X pins σ H s)(mu:Mut (H a))(hs:Heap.SameBut a s.heap h')(he:∃ q,h'.get? a=some q)(new:ObjOk X.prog X.w (upd H a ob) h' a ob):
 Inv X pins σ (upd H a ob) { s with heap:=h',toks:=t' }:=
 I.write (x:=a) (e:=a) mu (.inl rfl) (fun b q hb z=>(hs.2 b hb).trans z) he new
theorem qmV{P:Program}{w:World}{H':Hp}{h':Heap}{kvs:List (Key×V)}{vs:List (Key×Value)}(z:kvs.length<=sizeLine)(hd:(a==sysModules)=false)(rel:KV kvs vs)(dd:h'.DictOf (qap P w) a vs):
 ObjOk P w H' h' a (.dK kvs):=⟨z,hd,vs,rel,dd⟩
theorem qmZ{H':Hp}{Q:Unit->Shared->Prop}(hu:A.units+1<cLine)(I:Inv X pins σ H s)(g:DPut H a y v H')(ry:RelV y u)(rv:RelV v r)(h:∀ s',Inv X pins σ H' s'->Q () s'):
 wpAny (model X.prog X.w) A (setItem (.ref a) u r) Q E s:=by
 rcases g with⟨kvs,k,e,ey,l,eH⟩|⟨kvs,k,b,e,ey,eb,l,eH⟩
 · subst ey eH
   obtain⟨z,hd,vs,rel,dd⟩:=qrK I.hok e;have hz:vs.length<=sizeLine:=by rw[<-rel.length];exact z
   have hl:(putK kvs k v).length<=sizeLine:=by have:=qcu kvs k v;omega
   refine wpAny_setItem_pairs (hsz:=hz) (qfh ry) dd fun h' dd' hs=>h _ ?_
   have he:∃ q,h'.get? a=some q:=let⟨q,_,_,hq,_⟩:=dd';⟨q,hq⟩;exact qgp I (by rw[e];exact True.intro) hs he (qmV hl hd (rel.put k rv) dd')
 · subst ey eH
   cases(show u=Value.ref b from ry)
   obtain⟨z,hd,xs,rel,dd⟩:=qxX I.hok e;have hz:xs.length<=sizeLine:=by rw[<-Paired.length rel];exact z
   have hl:(putK kvs k v).length<=sizeLine:=by have:=qcu kvs k v;omega
   refine wpAny_setItem_heap (hsz:=hz) (tupleKind_room_in1 hu) (qfz I.hok eb) dd fun h' dd' hs=>h _ ?_
   obtain⟨q,es,ep,hq,h2,h3,h4,_,h5⟩:=dd';refine qgp I (by rw[e];exact True.intro) hs ⟨q,hq⟩ ⟨hl,hd,_,(rel.put k eb rv).keeps fun c ys ec=>?_,q,es,ep,hq,h2,h3,h4,h5⟩
   rw[qaa (qfb ec e (fun z=>nomatch z))]
   exact ec
end
section
variable {X:Cx}{pins:LAO}{σ:St}{H:Hp}{s:Shared}{a:Addr}{kvs:List (Key×V)}{k:Key}{u:Value}{A:Around}{E:VSP}
theorem qm1{Q:Unit->Shared->Prop}(I:Inv X pins σ H s)(e:H a=some (.dK kvs))(ry:RelV (kV k) u)(l:(qe0 kvs k).isSome=true)(h:∀ s',Inv X pins σ (upd H a (.dK (qhQ kvs k))) s'->Q () s'):
 wpAny (model X.prog X.w) A (delItem (.ref a) u) Q E s:=by
 obtain⟨z,hd,vs,rel,dd⟩:=qrK I.hok e;refine wpAny_delItem_slot dd.typeIs (by decide) PySem.F.slot_dict_delitem
  (call_meetsIn PySem.F.slot_dict_delitem dd.typeIs PySem.F.entry_dict_delitem (PySem.F.args_dict_delitem_2 _ _) (meets_dict_delitem_pairs (qap X.prog X.w) a (qfh ry)) ⟨vs,dd,by rw[<-rel.length];exact z,by rw[<-(rel.val k).isSome_eq];exact l,fun h' dd' hs=>h _ ?_⟩)
 have he:∃ q,h'.get? a=some q:=let⟨q,_,_,hq,_⟩:=dd';⟨q,hq⟩;exact qgp I (by rw[e];exact True.intro) hs he (qmV (waw (qoR kvs k) z) hd (rel.drop k) dd')
theorem qx0{Q:VSP}(I:Inv X pins σ H s)(e:Rd H a (.dK kvs))(h:∀ t s',Inv X pins σ H s'->Q (.int kvs.length t) s'):wpAny (model X.prog X.w) A (call (.builtin "len") [.ref a]) Q E s:=by
 obtain⟨z,hd,vs,rel,dd⟩:=qhR I.hok e;refine call_len_dict hd dd (by rw[<-rel.length];rw[sizeLine_eq]at z;omega) ?_
 rw[<-rel.length];exact h _ _ (I.tok _)
end
def qvG(i:Expr):Prop:=∀ ov iv,subscripted i false ov iv=operate [ov,iv] (getItem ov iv)
theorem qk9{prog:Program}{w:World}{A:Around}{E:VSP}{s:Shared}{env:Env}{value slice:Expr}{pos:Pos}{T id:String}{Q:VSP}
 (hl:typeLookup (.type T) "__getitem__" =pure (some (.builtin id))) (hs:qvG slice)
 (h:wpAny (model prog w) A (eval value env) (fun o s₁=>wpAny (model prog w) A (eval slice env) (fun i s₂=>s₂.TypeIs o T/\wpAny (model prog w) A (getItem o i) Q E s₂) E s₁) E s):
 wpAny (model prog w) A (eval (.Subscript value slice pos) env) Q E s:=by
 refine Subscript_ (wpAny_mono h (fun o s₁ h₁=>wpAny_mono h₁ (fun i s₂ h₂=>?_) fun _ _ x=>x) fun _ _ x=>x)
 obtain⟨hT,h₂⟩:=h₂;unfold subscriptTail;refine wpAny_bind ?_;rw[getitemInPython_of_ne hT.not_modules];refine wpAny_bind (wpAny_specialOf hT hl ?_);have fin:wpAny (model prog w) A (subscripted slice false o i) (fun r s₃=>wpAny (model prog w) A (letTemporaryGo value o r >>= fun _=>pure r) Q E s₃) E s₂:=by
  rw[hs o i];exact wpAny_operating (wpAny_mono h₂ (fun r s₃ h₃=>wpAny_bind (wpAny_letTemporaryGo (wpAny_pure h₃))) fun _ _ x=>x)
 first
  |exact wpAny_pure (wpAny_bind fin)
  |exact wpAny_bind (wpAny_pure (wpAny_bind fin))
  |exact wpAny_bind fin
theorem qjf{X:Cx}{pins:LAO}{σ:St}{H:Hp}{s:Shared}{a:Addr}{y:V}{o:Option V}(I:Inv X pins σ H s)(g:DGet H a y o):s.TypeIs (.ref a) "dict":=by
 rcases g with⟨kvs,k,e,_,_⟩|⟨kvs,k,b,e,_,_,_⟩
 · obtain⟨_,_,vs,_,dd⟩:=qhR I.hok e
   exact dd.typeIs
 · obtain⟨_,_,xs,_,dd⟩:=qje I.hok e
   exact dd.typeIs
def qv2(td ty:TE):TE:=fun σ H Q=>td σ H fun x H1=>ty σ H1 fun y H2=>∃ a v,x= .ref a/\DGet H2 a y (some v)/\Q v H2
def qCN(ty td:TE):TE:=fun σ H Q=>ty σ H fun y H1=>td σ H1 fun x H2=>∃ a o,x= .ref a/\DGet H2 a y o/\Q (.bl o.isSome) H2
def qqm(ty td:TE):TE:=fun σ H Q=>ty σ H fun y H1=>td σ H1 fun x H2=>∃ a o,x= .ref a/\DGet H2 a y o/\Q (.bl (!o.isSome)) H2
def qwg(td ty tv:TE):TS:=fun D σ H=>tv σ H fun v H1=>td σ H1 fun x H2=>ty σ H2 fun y H3=>∃ a H4,x= .ref a/\DPut H3 a y v H4/\D.nx σ H4
def qwh(td ty:TE):TS:=fun D σ H=>td σ H fun x H1=>ty σ H1 fun y H2=>∃ a kvs k,x= .ref a/\H2 a=some (.dK kvs)/\y=kV k/\(qe0 kvs k).isSome=true/\D.nx σ (upd H2 a (.dK (qhQ kvs k)))
section
variable {X:Cx}{o i e value:Expr}{pos pos' tpos:Pos}{td ty tv:TE}
theorem qqW(hu:X.A.units+1<cLine)(ho:PE X o td)(hi:PE X i ty)(hs:qvG i):PE X (.Subscript o i pos) (qv2 td ty):=by
 intro pins s σ H Q I h;refine qk9 PySem.F.slot_dict_getitem.lookup hs (thn (ho pins s σ H _ I h) fun u s1 ⟨x,H1,I1,rx,q1⟩=>thn (hi pins s1 σ H1 _ I1 q1) fun iv s2 ⟨y,H2,I2,ry,a,v,ex,g,q2⟩=>?_)
 subst ex;obtain rfl:u=Value.ref a:=rx;exact⟨qjf I2 g,qm0 hu I2 g ry fun w' s3 I3 rw'=>⟨v,H2,I3,rw',q2⟩⟩
theorem qpv(hu:X.A.units+1<cLine)(hi:PE X i ty)(ho:PE X o td):PC X .In i o (qCN ty td):=by
 intro pins s σ H Q I h;refine thn (hi pins s σ H _ I h) fun iv s1 ⟨y,H1,I1,ry,q1⟩=>thn (ho pins s1 σ H1 _ I1 q1) fun u s2 ⟨x,H2,I2,rx,a,ov,ex,g,q2⟩=>?_
 subst ex;obtain rfl:u=Value.ref a:=rx;exact qDX hu I2 g ry fun s3 I3=>⟨.bl ov.isSome,H2,I3,rfl,q2⟩
theorem qg6(hu:X.A.units+1<cLine)(hi:PE X i ty)(ho:PE X o td):PC X .NotIn i o (qqm ty td):=by
 intro pins s σ H Q I h;refine thn (hi pins s σ H _ I h) fun iv s1 ⟨y,H1,I1,ry,q1⟩=>thn (ho pins s1 σ H1 _ I1 q1) fun u s2 ⟨x,H2,I2,rx,a,ov,ex,g,q2⟩=>?_
 subst ex;obtain rfl:u=Value.ref a:=rx;exact qrL hu I2 g ry fun s3 I3=>⟨.bl (!ov.isSome),H2,I3,rfl,q2⟩
theorem qqN(hu:X.A.units+1<cLine)(ho:PE X o td)(hi:PE X i ty)(hv:PE X value tv)(hs:swapsWith value (some (.Subscript o i pos')) pos.line X.env=pure false):
 PS X (.Assign [.Subscript o i pos'] value pos) (qwg td ty tv):=by
 intro pins s σ H D I h;refine wpAny_Assign_Subscript (thn (hv pins s σ H _ I h) fun r s1 ⟨v,H1,I1,rv,q1⟩=>thn (ho pins s1 σ H1 _ I1 q1) fun u s2 ⟨x,H2,I2,rx,q2⟩=>thn (hi pins s2 σ H2 _ I2 q2) fun iv s3 ⟨y,H3,I3,ry,a,H4,ex,g,q3⟩=>?_) hs
 subst ex;obtain rfl:u=Value.ref a:=rx;exact qmZ hu I3 g ry rv fun s4 I4=>⟨σ,H4,I4,q3⟩
theorem qqO(ho:PE X o td)(hi:PE X i ty):PS X (.Delete [.Subscript o i tpos] pos) (qwh td ty):=by
 intro pins s σ H D I h;refine wpAny_Delete (wpAny_deleteEach_cons (wpAny_delete_Subscript (thn (ho pins s σ H _ I h) fun u s1 ⟨x,H1,I1,rx,q1⟩=>thn (hi pins s1 σ H1 _ I1 q1) fun iv s2 ⟨y,H2,I2,ry,a,kvs,k,ex,e,ey,l,q2⟩=>?_)))
 subst ex ey;obtain rfl:u=Value.ref a:=rx;exact qm1 I2 e ry l fun s3 I3=>wpAny_deleteEach_nil ⟨σ,_,I3,q2⟩
end
theorem qjK{P:Program}{w:World}{H:Hp}(h:Heap)(hb:sysModules<h.objs.size):ObjOk P w H (h.push { cls:=.type "dict",data:=.dict #[] }) h.objs.size (.dK []):=
 ⟨Nat.zero_le _,beq_eq_false_iff_ne.mpr (Ne.symm (wat hb)),[],.nil,Heap.DictOf.new h⟩
theorem qoP{P:Program}{w:World}{H:Hp}(h:Heap)(hb:sysModules<h.objs.size):ObjOk P w H (h.push { cls:=.type "dict",data:=.dict #[] }) h.objs.size (.dT []):=
 ⟨Nat.zero_le _,beq_eq_false_iff_ne.mpr (Ne.symm (wat hb)),[],.nil,_,#[],0,Heap.get?_push_size _ rfl,⟨rfl,rfl,rfl⟩,rfl,rfl,waN⟩
def qsQ:TE:=fun _ H Q=>∀ p,H p=none->Q (.ref p) (upd H p (.dK []))
def qsP:TE:=fun _ H Q=>∀ p,H p=none->Q (.ref p) (upd H p (.dT []))
section
variable {X:Cx}{pos:Pos}
theorem qof:PE X (.Dict [] [] pos) qsQ:=fun pins s σ H Q I h=>
 wpAny_Dict_empty ⟨.ref s.heap.objs.size,_,I.laid (a:=s.heap.objs.size) (o:=.dK []) (t':=s.toks) (fun _ _ q=>Heap.get?_push_of_some _ q) (wac _) (qjK s.heap I.big),rfl,h _ (I.hok.fresh (wac _))⟩
theorem qoe:PE X (.Dict [] [] pos) qsP:=fun pins s σ H Q I h=>
 wpAny_Dict_empty ⟨.ref s.heap.objs.size,_,I.laid (a:=s.heap.objs.size) (o:=.dT []) (t':=s.toks) (fun _ _ q=>Heap.get?_push_of_some _ q) (wac _) (qoP s.heap I.big),rfl,h _ (I.hok.fresh (wac _))⟩
end
def qjm:List (TE×TE)->St->Hp->(List (V×V)->Hp->Prop)->Prop
 | [],_,H,Q=>Q [] H
 |(tk,tv)::r,σ,H,Q=>tk σ H fun x H1=>tv σ H1 fun y H2=>qjm r σ H2 fun ps H3=>Q ((x,y)::ps) H3
abbrev VV:List (V×V)->List (Value×Value)->Prop:=Paired fun p q=>RelV p.1 q.1/\RelV p.2 q.2
def PPs(X:Cx)(pos:Pos)(keys:List (Option Expr))(values:LEx)(trs:List (TE×TE)):Prop:=
 ∀ (pins:LAO) (s:Shared) (σ:St) (H:Hp) (Q:List (V×V)->Hp->Prop),Inv X pins σ H s->qjm trs σ H Q->
  wpAny (model X.prog X.w) X.A (evalPairs (pairTrees keys values X.env pos)) (fun vs s'=>∃ ps H',Inv X pins σ H' s'/\VV ps vs/\Q ps H') X.xe s
theorem qqP{X:Cx}{pos:Pos}:PPs X pos [] [] []:=fun pins s σ H Q I h=>pairTrees_nil_walk ⟨[],H,I,.nil,h⟩
theorem qn8{X:Cx}{pos:Pos}{k v:Expr}{ks:List (Option Expr)}{vs:LEx}{tk tv:TE}{trs:List (TE×TE)}(hk:PE X k tk)(hv:PE X v tv)(hr:PPs X pos ks vs trs):
 PPs X pos (some k::ks) (v::vs) ((tk,tv)::trs):=fun pins s σ H Q I h=>
 pairTrees_cons_walk (thn (hk pins s σ H _ I h) fun u s1 ⟨x,H1,I1,rx,q1⟩=>thn (hv pins s1 σ H1 _ I1 q1) fun w2 s2 ⟨y,H2,I2,ry,q2⟩=>
  thn (hr pins s2 σ H2 _ I2 q2) fun ws s3 ⟨ps,H3,I3,rel,q3⟩=>⟨(x,y)::ps,H3,I3,.cons ⟨rx,ry⟩ rel,q3⟩)
def qcK(kvs more:List (Key×V)):List (Key×V):=more.foldl (fun acc kv=>putK acc kv.1 kv.2) kvs
theorem KV.merge:∀ {more:List (Key×V)} {rs:List (Key×Value)} {kvs:List (Key×V)} {vs:List (Key×Value)},KV more rs->KV kvs vs->KV (qcK kvs more) (merged vs rs):=by
 intro more rs kvs vs r;unfold KV at r
 induction r generalizing kvs vs with
 |nil=>intro q;exact q
 | @cons p q ps qs h t ih=>
  intro r0;have e:KV (putK kvs p.1 p.2) (stored vs q.1 q.2):=by
   have:=r0.put p.1 h.2;rw[<-h.1];exact this
  exact ih e
theorem qcP:∀ (more kvs:List (Key×V)),(qcK kvs more).length<=kvs.length+more.length
 | [],kvs=>by show kvs.length<=kvs.length+0;omega
 |p::r,kvs=>by
  have h1:=qcP r (putK kvs p.1 p.2);have h2:=qcu kvs p.1 p.2;show(qcK (putK kvs p.1 p.2) r).length<=_;rw[wah];omega
theorem qfH{P:Program}{w:World}:∀ {kvs:List (Key×V)} {ws:List (Value×Value)},VV (kvs.map fun kv=>(kV kv.1,kv.2)) ws->∃ rs,Carries (qap P w) ws rs/\KV kvs rs
 | [],_,r=>by rw[wa4]at r;cases r;exact⟨[],True.intro,.nil⟩
 |p::kvs,_,r=>by
  rw[wae]at r;cases r with
  | @cons a b as bs h t=>
   obtain⟨rs,c,q⟩:=qfH (P:=P) (w:=w) t;obtain⟨b1,b2⟩:=b;exact⟨(p.1,b2)::rs,⟨qfh h.1,rfl,c⟩,.cons ⟨rfl,h.2⟩ q⟩
def qv0(trs:List (TE×TE)):TE:=fun σ H Q=>∀ p,H p=none->qjm trs σ (upd H p (.dK [])) fun ps H2=>H2 p=some (.dK [])/\∃ kvs:List (Key×V),ps=kvs.map (fun kv=>(kV kv.1,kv.2))/\kvs.length<=15/\Q (.ref p) (upd H2 p (.dK (qcK [] kvs)))
theorem qqV{X:Cx}{pos:Pos}{keys:List (Option Expr)}{values:LEx}{trs:List (TE×TE)}(h:PPs X pos keys values trs)(hall:keys.all (·.isSome)=true)(hl:keys.length=values.length)(h0:keys≠[])
 (h15:keys.length<=15):PE X (.Dict keys values pos) (qv0 trs):=by
 intro pins s σ H Q I q;have hn:=I.hok.fresh (wac s.heap.objs.size);have I1:=I.laid (a:=s.heap.objs.size) (o:=.dK []) (h':=s.heap.push { cls:=.type "dict",data:=.dict #[] }) (t':=s.toks) (fun _ _ q=>Heap.get?_push_of_some _ q) (wac _) (qjK s.heap I.big)
 refine wpAny_Dict_walk (knd:=qap X.prog X.w) hall hl h0 h15 (thn (h pins _ σ _ _ I1 (q _ hn)) fun ws s2 ⟨ps,H2,I2,rel,e,kvs,ep,lk,q2⟩=>?_)
 subst ep;obtain⟨rs,c,rk⟩:=qfH (P:=X.prog) (w:=X.w) rel;obtain⟨z,hd,vs0,r0,dd⟩:=qrK I2.hok e;cases r0;refine⟨rs,c,dd,fun h' dd' hs=>⟨.ref s.heap.objs.size,_,?_,rfl,q2⟩⟩
 have hz:(qcK [] kvs).length<=sizeLine:=by
  have h1:=qcP kvs [];rw[List.length_nil]at h1;rw[sizeLine_eq];omega
 have he:∃ q,h'.get? s.heap.objs.size=some q:=let⟨q,_,_,hq,_⟩:=dd';⟨q,hq⟩;exact qgp I2 (by rw[e];exact True.intro) hs he (qmV hz hd (rk.merge .nil) dd')
structure M1(X:Cx)(o:Expr)(m:Str)(apos:Pos)(e:Expr)(cpos:Pos):Prop where
 base:attributeBase o m X.env (eval o X.env)=eval o X.env
 few:((backTo cpos (starEach [e] X.env)).all (fun x=>!x.1)&&(backToKw cpos (keywordEach [] X.env)).all (fun x=>x.1.isSome)
  &&decide (([e]:LEx).length+([]:List Keyword).length+(if([]:List Keyword).isEmpty then 0 else 1)<30))=true
 line:(apos.endLine==cpos.line)=true
 trees:backTo cpos (starEach [e] X.env)= [(false,eval e X.env)]
structure M2(X:Cx)(o:Expr)(m:Str)(apos:Pos)(e f:Expr)(cpos:Pos):Prop where
 base:attributeBase o m X.env (eval o X.env)=eval o X.env
 few:((backTo cpos (starEach [e,f] X.env)).all (fun x=>!x.1)&&(backToKw cpos (keywordEach [] X.env)).all (fun x=>x.1.isSome)
  &&decide (([e,f]:LEx).length+([]:List Keyword).length+(if([]:List Keyword).isEmpty then 0 else 1)<30))=true
 line:(apos.endLine==cpos.line)=true
 trees:backTo cpos (starEach [e,f] X.env)= [(false,eval e X.env),(false,eval f X.env)]
def IsD(H:Hp)(a:Addr):Prop:=(∃ kvs,Rd H a (.dK kvs))∨∃ kvs,Rd H a (.dT kvs)
theorem quz{X:Cx}{pins:LAO}{σ:St}{H:Hp}{s:Shared}{a:Addr}(I:Inv X pins σ H s)(d:IsD H a):
 s.TypeIs (.ref a) "dict"/\(∀ b,Value.ref a= .ref b->∃ ob,s.heap.get? b=some ob/\ob.dict=none)/\(a==sysModules)=false:=by
 rcases d with⟨kvs,e⟩|⟨kvs,e⟩
 · obtain⟨_,hd,vs,_,dd⟩:=qhR I.hok e
   refine⟨dd.typeIs,fun b q=>?_,hd⟩
   cases q;obtain⟨ob,_,_,h1,h2,_⟩:=dd;exact⟨ob,h1,h2.2.1⟩
 · obtain⟨_,hd,xs,_,dd⟩:=qje I.hok e
   refine⟨dd.typeIs,fun b q=>?_,hd⟩
   cases q;obtain⟨ob,_,_,h1,h2,_⟩:=dd;exact⟨ob,h1,h2.2.1⟩
section
variable {X:Cx}{pins:LAO}{σ:St}{H:Hp}{s:Shared}{a:Addr}{y d:V}{u r:Value}{o:Option V}{A:Around}{E:VSP}
theorem quN{Q:VSP}(hu:A.units+1<cLine)(I:Inv X pins σ H s)(g:DGet H a y o)(ry:RelV y u)(h:∀ w' s',Inv X pins σ H s'->RelV (o.getD .non) w'->Q w' s'):
 wpAny (model X.prog X.w) A (call (.builtin "dict.get") [.ref a,u]) Q E s:=by
 rcases g with⟨kvs,k,e,ey,l⟩|⟨kvs,k,b,e,ey,eb,l⟩
 · subst ey
   obtain⟨z,hd,vs,rel,dd⟩:=qhR I.hok e;refine call_meetsIn PySem.F.slot_dict_get dd.typeIs PySem.F.entry_dict_get (PySem.F.args_dict_get_2 _ _) (meets_dict_get (qap X.prog X.w) a (qfh ry) hd) ⟨_,dd.mapOf,h _ _ (I.tok _) ?_⟩;rw[l];exact(rel.val k).getD rfl
 · subst ey
   cases(show u=Value.ref b from ry)
   obtain⟨z,hd,xs,rel,dd⟩:=qje I.hok e;refine call_meetsIn PySem.F.slot_dict_get dd.typeIs PySem.F.entry_dict_get (PySem.F.args_dict_get_2 _ _) (meetsH_dict_get (tupleKind (optKind X.prog X.w)) a b hd) ⟨tupleKind_room_in1 hu,k,xs,qfz I.hok eb,dd,h _ _ (I.tok _) ?_⟩;rw[l];exact(rel.val k).getD rfl
end
def qsR(td ty:TE):TE:=fun σ H Q=>td σ H fun x H1=>∃ a,x= .ref a/\IsD H1 a/\ty σ H1 fun y H2=>∃ o,DGet H2 a y o/\Q (o.getD .non) H2
section
variable {X:Cx}{o e f:Expr}{apos cpos:Pos}{td ty tx:TE}
theorem qog(hu:X.A.units+1<cLine)(ho:PE X o td)(he:PE X e ty)(m:M1 X o "get" apos e cpos):PE X (.Call (.Attribute o "get" apos) [e] [] cpos) (qsR td ty):=by
 intro pins s σ H Q I h;refine wpAny_Call_method m.base m.few m.line PySem.F.plainAttrs_dict PySem.F.slot_dict_get PySem.F.type_dict_get (thn (ho pins s σ H _ I h) fun u s1 ⟨x,H1,I1,rx,a,ex,d,q1⟩=>?_)
 subst ex;obtain rfl:u=Value.ref a:=rx;obtain⟨t1,t2,_⟩:=quz I1 d;refine⟨t1,t2,?_⟩;rw[m.trees];refine Calls.callWith_builtin rfl (Calls.evalArgs_plain (Calls.spliced_cons (thn (he pins s1 σ H1 _ I1 q1) fun iv s2 ⟨y,H2,I2,ry,ov,g,q2⟩=>Calls.spliced_nil ?_)))
 exact quN hu I2 g ry fun w' s3 I3 rw'=>⟨_,H2,I3,rw',q2⟩
end
end L2
namespace Att
open PySem PySem.W PySem.Calls PyProof.Rows
theorem qeM{P:Params}{h:Heap}:∀ (ns:List Int) (vs:LVl),WellAll P h vs (ns.map WData.int)->IntsAre vs ns:=by
 intro ns
 induction ns with
 |nil=>
  intro vs w;rw[wa4]at w;cases w;exact .nil
 |cons n ns ih=>
  intro vs w;rw[wae]at w;cases w with
  |cons a b=>
   cases a;exact .cons _ _ (ih _ b)
theorem qle{l:OpenLaw}{n:Nat}(hn:l.most=some n){P:Params}{h:Heap}{args:List WData}{vals:LVl}
 (hpre:l.row.toRowW.claim.pre args=true) (hwl:WellAll P h vals args):
 ∃ a vs ns,vals= [Value.ref a]/\args= [WData.list (ns.map WData.int)]/\h.get? a=some { cls:=.type "list",data:=.seq vs.toArray }/\IntsAre vs ns/\ns.length<=n:=by
 have hsh:WShape.hasAll [] args [.list .int]=true:=(pre_splitW hpre).1;have hc:l.pre.holds [] { args:=args }=true:=(pre_splitW hpre).2;obtain⟨d,r,rfl,h1,h2⟩:=hasAllW_cons hsh;obtain rfl:=hasAllW_nil h2;obtain⟨xs,rfl,h3⟩:=hasW_list h1;obtain⟨ns,rfl⟩:=items_int h3;have hlen:ns.length<=n:=by
  unfold OpenLaw.pre at hc;have h4:(WTm.not (.lt (.lit (.int (n:Int))) (.len (.arg 0)))).holds [] { args:=[.list (ns.map .int)] }=true:=by
   have h4:=(holds_andW hc).1;rw[hn]at h4;exact h4
  have h5:=condW_of h4 (w_not (w_lt w_lit (w_len_list (w_arg rfl))));rw[wab]at h5;refine Nat.le_of_not_lt fun q=>?_
  have q':(n:Int)<((ns.length:Nat):Int):=by omega
  first
   |(rw[decide_eq_true q']at h5;exact absurd h5 (by decide))
   |(simp at h5;omega)
 cases hwl with
 |cons w1 w2=>
  cases w2;cases w1 with
  |list ho hall=>exact⟨_,_,ns,rfl,rfl,ho,qeM ns _ hall,hlen⟩
theorem qlO(l:OpenLaw)(args:List WData):l.row.toRowW.claim.post args (.bool true) args=true:=
 postW_of (r:=l.row.toRowW) (X:=(true==true))
  (show WShape.has [] (.bool true) .bool=true by first|rfl|decide|simp[WShape.has,WShape.arms,WShape.armsAll])
  (show(WTm.eq .res (.lit (.bool true))).value [] { args:=args,res:=some (.bool true),after:=args }=some (.bool (true==true))from w_eq_bool (w_res rfl) w_lit) rfl
theorem attach_call{l:OpenLaw}{n:Nat}{q:Program}{loose:LSt}{XP:(SOV)->Heap->Prop}{YP:World->Heap->Prop}{d:DefRec}
 (hn:l.most=some n) (hdf:d.params.defaults= [])
 (call:∀ (w:World) (s₀ s₁:Shared) (mg mb:SOV) (fa:Addr) (o:Obj) (pm cd doc:Value) (a:Addr) (vs:LVl) (ns:List Int),
  Ground q loose [] XP w s₀ mg mb s₁.heap->YP w s₁.heap->
  s₁.heap.get? fa=some o->o.data= .func (docDef d.name d.params d.body d.scope pm cd doc)->s₁.heap.CodeRec cd d.name->mg d.name=some (.ref fa)->
  s₁.heap.get? a=some { cls:=.type "list",data:=.seq vs.toArray }->IntsAre vs ns->ns.length<=n->s₁.gens= #[]->
  codeAny (model l.prog w) callerA (.call (.ref fa) ⟨[.ref a],[]⟩) (fun r s'=>r= .ok (.ret (.bool true))/\OldK s₁.heap s'.heap/\s'.os=s₁.os/\AllBare s'.gens) s₁):
 WalkO q loose XP YP l.row.toRowW d [] (fun f vs=>PySem.call f vs):=by
 intro w s₀ s₁ mg mb G Y fa o pm cd doc dV kV ho hd hcd hD hmg hg args vals as hpre hlay hrd hwl hlo;obtain rfl:dV= .none:=Dflts.none hD hdf;obtain rfl:kV= .none:=Dflts.noKw hD;obtain⟨a,vs,ns,rfl,rfl,hobj,hints,hlen⟩:=qle hn hpre hwl;refine enter_call (codeAny_mono (call w s₀ s₁ mg mb fa o pm cd doc a vs ns G Y ho (fd_plain hd) hcd hmg hobj hints hlen hg) fun r s' hq=>?_)
 obtain⟨rfl,h2,h3,h4⟩:=hq;exact⟨.inl ⟨.bool true,.bool true,[],rfl,fun _=>rfl,.bool true,qlO l _,fun _=>⟨List.Pairwise.nil,fun _ hm=>(nomatch hm)⟩⟩,h2,h3,h4⟩
section
variable {prog:Program}{w:World}{A:Around}{E:VSP}{s:Shared}{K:Frag}
def ledger(h:Heap)(L d:Addr):LAO:=(List.range h.objs.size).filterMap fun a=>if a=L∨a=d then none else(h.get? a).map fun o=>(a,o)
end
end Att
namespace L2
open PySem PySem.Spec PyProof.Rows
theorem qgw:∀ {vs:LVl} {ns:List Int},IntsAre vs ns->Vals (ns.map V.int) vs
 |_,_,.nil=>.nil
 |_,_,.cons n t h=>.cons ⟨t,rfl⟩ (qgw h)
def qvF(H:Hp):Prop:=∀ b,H b=none∨∃ o xs,H b=some (.frz o (.lst xs))
theorem qoz{P:Program}{w:World}{K:Frg}{mg mb:SOV}{CX:CXT}{k:Nat}{fa a:Addr}{fd:FuncData}{x:Str}{sp:Sp}{s₁:Shared}{vs:LVl}{ns:List Int}
 (KX:K.In s₁.heap) (hns:s₁.heap.Ns mainGlobals mg) (hb:s₁.heap.Ns builtinsNs mb) (hbb:∀ x:Str,x≠"__name__"->mb x=bootBuiltins x) (hlim:s₁.heap.NoLimit) (hg:s₁.gens= #[])
 (ha:s₁.heap.get? a=some { cls:=.type "list",data:=.seq vs.toArray }) (hi:IntsAre vs ns) (hl:ns.length<=sizeLine) (hr:Room k callerA)
 (F:∀ base:Heap,K.In base->base.Ns mainGlobals mg->qdC P w K mg base CX k fa fd [x] sp) (hbind:∀ (s:Shared) (u:Value),BindsTo s fd ⟨[u],[]⟩ [(x,u)])
 (hsp:∀ H:Hp,qvF H->SqL K H a (ns.map V.int)->sp [.ref a] H (fun v _=>v= .bl true) fun _ _ _=>False)
 (hCX:∀ H e s',CX [] H s₁ (fun _ _ _=>False) e s'->False):
 codeAny (model P w) callerA (.call (.ref fa) ⟨[.ref a],[]⟩) (fun r s'=>r= .ok (.ret (.bool true))/\OldK s₁.heap s'.heap/\s'.os=s₁.os/\AllBare s'.gens) s₁:=by
 have rv:=qgw hi;have lenV:=hi.length;have core:∀ H:Hp,qvF H->SqL K H a (ns.map V.int)->HOk P w H s₁.heap->(∀ b,H b≠none->b=a)->(H a≠none->K.lookup a=none)->
  codeAny (model P w) callerA (.call (.ref fa) ⟨[.ref a],[]⟩) (fun r s'=>r= .ok (.ret (.bool true))/\OldK s₁.heap s'.heap/\s'.os=s₁.os/\AllBare s'.gens) s₁:=by
  intro H hO hS hok hA hK;have base_of:∀ {b:Addr} {o:Obj},s₁.heap.get? b=some o->H b=none->(qoH s₁.heap H).get? b=some o:=fun e n=>qoG e n
  have noA:∀ {b:Addr} {o:Obj} {es:Array DictEntry} {ep:Nat},s₁.heap.get? b=some o->o.data= .dict es ep->H b=none:=fun {b o es ep} e d=>by
   cases q:H b with
   |none=>rfl
   |some u=>
    have e':b=a:=hA b (by rw[q];simp)
    subst e';rw[ha]at e;cases e;have d':Data.seq vs.toArray _=Data.dict es ep:=d;cases d'
  have nsK:∀ {b:Addr} {m:SOV},s₁.heap.Ns b m->(qoH s₁.heap H).Ns b m:=fun {b m} ⟨o,es,ep,e,d,r⟩=>⟨o,es,ep,base_of e (noA e d),d,r⟩
  have hKb:K.In (qoH s₁.heap H):=fun b o e=>base_of (KX b o e) (by
   cases q:H b with
   |none=>rfl
   |some u=>
    have e':b=a:=hA b (by rw[q];simp)
    subst e';rw[hK (by rw[q];simp)]at e;cases e)
  have hM:Mod K mg (qoH s₁.heap H):=⟨hKb,nsK hns,⟨mb,nsK hb,hbb⟩,let⟨mc,h1,h2⟩:=hlim;⟨mc,nsK h1,h2⟩⟩;have e0:Env0 P w K mg (qoH s₁.heap H) callerA [] s₁ H:=⟨rfl,hM,fun b o e=>qq8 e,Nat.le_of_eq (qmO _ _),trivial,fun b hb=>absurd (show b∈([]:List Addr)from hb) (by simp),hok,.of_eq hg⟩
  refine codeAny_mono ((F _ hKb (nsK hns)).run callerA [] s₁ H ⟨[.ref a],[]⟩ [.ref a] [.ref a] _ _ hr e0 (hbind s₁ (.ref a)) (.cons rfl .nil) (hsp H hO hS)) fun r s' h=>?_
  cases r with
  |error e=>exact(hCX H e s' h).elim
  |ok fl=>
   cases fl with
   |next=>exact False.elim h
   |brk=>exact False.elim h
   |cont=>exact False.elim h
   |ret u=>
    obtain⟨v,H',os,bare,un,hok',r',q⟩:=h;have q':v= .bl true:=q;subst q';obtain rfl:u=Value.bool true:=r';refine⟨rfl,OldK.of_keep fun b o e=>?_,os,bare⟩
    cases q:H b with
    |none=>exact un.keep b o e q (by intro z;exact absurd (show b∈([]:List Addr)from z) (by simp)) (by simp)
    |some u=>
     rcases hO b with z|⟨ob,xs,z⟩
     · rw[q]at z;cases z
     · have z2:=un.frzs b ob _ z
       obtain⟨e1,_⟩:=hok b _ z;obtain⟨e2,_⟩:=hok' b _ z2;rw[e]at e1;cases e1;exact e2
 cases hk:K.lookup a with
 |some o=>
  have e:=KX a o hk;rw[ha]at e;cases e;refine core (fun _=>none) (fun _=>.inl rfl) (.inr ⟨_,vs.toArray,_,hk,rfl,rfl,rfl,by rw[wak,lenV];exact hl,by simpa using rv⟩) (fun b u z=>by have z':(none:Option HO)=some u:=z;cases z') (fun b z=>absurd rfl z) fun z=>absurd rfl z
 |none=>
  refine core (fun b=>if b=a then some (.frz { cls:=.type "list",data:=.seq vs.toArray } (.lst (ns.map V.int)))else none) (fun b=>?_) (.inl (.inr ⟨{ cls:=.type "list",data:=.seq vs.toArray },if_pos rfl⟩)) (fun b u z=>?_) (fun b z=>?_) fun _=>hk
  · by_cases hb:b=a
    · exact .inr ⟨_,_,if_pos hb⟩
    · exact .inl (if_neg hb)
  · by_cases hb:b=a
    · have z':=(if_pos hb).symm.trans z
      cases z';subst hb;exact⟨ha,by rw[wab];exact hl,vs,_,rv,ha⟩
    · have z':=(if_neg hb).symm.trans z
      cases z'
  · by_cases hb:b=a
    · exact hb
    · exact absurd (if_neg hb) z
abbrev KOf{K:Frg}{h:Heap}(_:K.In h):Frg:=K
theorem walk_of{l:PySem.W.OpenLaw}{n k:Nat}{q:Program}{loose:LSt}{XP:(SOV)->Heap->Prop}{YP:World->Heap->Prop}{d:DefRec}{K:Params->Frg}{CX:World->CXT}{sp:World->Sp}{x:Str}
 (hn:l.most=some n) (hn2:n<=sizeLine) (hdf:d.params.defaults= []) (hr:Room k callerA)
 (hY:∀ (w:World) (h:Heap),YP w h->(K w.params).In h)
 (F:∀ (w:World) (mg:SOV) (fa:Addr) (h:Heap),(K w.params).In h->h.Ns mainGlobals mg->mg d.name=some (.ref fa)->
  ∃ fd:FuncData,(∀ (s:Shared) (u:Value),BindsTo s fd ⟨[u],[]⟩ [(x,u)])/\
   ∀ base:Heap,(K w.params).In base->base.Ns mainGlobals mg->qdC l.prog w (K w.params) mg base (CX w) k fa fd [x] (sp w))
 (hsp:∀ (w:World) (H:Hp) (a:Addr) (ns:List Int),ns.length<=n->qvF H->SqL (K w.params) H a (ns.map V.int)->sp w [.ref a] H (fun v _=>v= .bl true) fun _ _ _=>False)
 (hCX:∀ (w:World) (H:Hp) (s:Shared) (e:Value) (s':Shared),CX w [] H s (fun _ _ _=>False) e s'->False):
 PySem.W.WalkO q loose XP YP l.row.toRowW d [] (fun f vs=>PySem.call f vs):=by
 refine Att.attach_call hn hdf fun w s₀ s₁ mg mb fa o pm cd doc a vs ns G Y ho hd hcd hmg hobj hints hlen hg=>?_
 have KX:=hY w _ Y;obtain⟨fd,hb,hF⟩:=F w mg fa _ KX G.T.g hmg;exact qoz KX G.T.g G.T.b G.T.builtins G.T.nolimit hg hobj hints (waw hlen hn2) hr hF hb (fun H hO hS=>hsp w H a ns hlen hO hS) fun H e s'=>hCX w H s₁ e s'
def inClass(s:Stmt)(j:Nat):Stmt:=match s with
 | .ClassDef _ _ _ body _ _ _ _ _ _ _=>body.getD j (.Pass ⟨0,0,0,0⟩)
 |_=>.Pass ⟨0,0,0,0⟩
def qmY(s:Stmt):Arguments:=match s with
 | .FunctionDef _ a _ _ _ _ _ _ _ _=>a
 |_=>{ posonlyargs:=[],args:=[],vararg:=none,kwonlyargs:=[],kw_defaults:=[],kwarg:=none,defaults:=[] }
def qcA(s:Stmt):List Stmt:=match s with
 | .FunctionDef _ _ b _ _ _ _ _ _ _=>b
 |_=>[]
def qax(s:Stmt):Scope:=match s with
 | .FunctionDef _ _ _ _ _ _ sc _ _ _=>sc
 |_=>{ kind:=.function,names:=[],isGenerator:=false,isCoroutine:=false }
abbrev CX0:CXT:=fun _ _ _ _ _ _=>False
abbrev E0:XK:=fun _ _ _=>False
theorem qiG{X:Cx}:Passes CX0 X E0:=fun _ _ _ _ _ _ _ h=>h.elim
structure Fun(K:Frg)(x qual:Str)(st:Stmt)(f:Addr)(fd:FuncData):Prop where
 ex:∃ (oc:Value) (od:Option Addr) (kV doc pm:Value) (an:Option Addr) (cdv ct:Value) (osl:Array (OVl)),
  fd=PySem.W.fnOf x qual (qmY st) (qcA st) (qax st) .none kV doc pm an cdv ct/\K.lookup f=some ⟨oc,od,.func fd,osl⟩/\PySem.W.codeIn K cdv qual=true
 kp:PySem.W.keepIn K (.ref f)=true
section
variable {P:Program}{w:World}{K:Frg}{mg:SOV}{base:Heap}
theorem Fun.ok{x qual:Str}{st:Stmt}{f:Addr}{fd:FuncData}{N ps:LSt}{k:Nat}{sp:Sp}(F:Fun K x qual st f fd)(S:qds N ps (qax st))(len:∀ vs H Q E,sp vs H Q E->vs.length=ps.length)
 (hbody:∀ (cdv:Value) (A:Around) (outer:List Env) (s:Shared) (H:Hp) (vs:LV) (Q:VK) (E:XK),Room k (A.deeper (envOfC qual (qax st) s.heap.objs.size f cdv))->sp vs H Q E->
  ∃ t,PSs (qpU CX0 P w K mg base N qual (qax st) f cdv A outer s H E).nox (qcA st) t/\t { nx:=fun _ H'=>Q .non H',rt:=Q } (start N vs) H):qdC P w K mg base CX0 (k+1) f fd ps sp:=by
 obtain⟨oc,od,kV,doc,pm,an,cdv,ct,osl,rfl,lk,hcd⟩:=F.ex;refine qxS lk hcd S len fun A outer s H vs Q E hr hsp=>?_
 obtain⟨t,h,q⟩:=hbody cdv A outer s H vs Q E hr hsp;exact⟨t,h.nox,q⟩
end
theorem qi7{A:Around}{k:Nat}(hr:Room k A):A.units+1<cLine:=wa8 (Nat.add_le_add_left (by decide:1<=64) _) hr.units
theorem qrp{A B:Prop}(h:B):if false=true then A else B:=by
 rw[if_neg wau];exact h
theorem qro{A B:Prop}(h:A):if true=true then A else B:=by
 rw[if_pos rfl];exact h
section
variable {X:Cx}
theorem qnb:qbe X (.builtin "len") (fun xs H Q=>∃ a kvs,xs= [V.ref a]/\H a=some (.dK kvs)/\Q (.int kvs.length) H):=by
 intro pins s σ H xs us Q I r h;obtain⟨a,kvs,rfl,ha,q⟩:=h;obtain⟨u,rfl,ru⟩:=vals1 r;cases ru;exact qx0 I (.inl ha) fun t s' I'=>⟨.int kvs.length,H,I',⟨t,rfl⟩,q⟩
end
section
variable {κ:Type}[DecidableEq κ]
theorem qqc{kvs:List (κ×V)}{k:κ}{v:V}(h:qe0 kvs k=some v):k∈kvs.map (·.1):=by
 have q:(kvs.any fun kv=>decide (kv.1=k))=true:=by
  rw[qd0,h]
  all_goals rfl
 obtain⟨p,hp,e⟩:=List.any_eq_true.mp q;exact wan.mpr ⟨p,hp,of_decide_eq_true e⟩
end
end L2
namespace R
open PySem PySem.Spec PyProof.Rows L2
inductive RV where
 |non|bl (b:Bool)|int (i:Int)|str (x:Str)|ref (a:Addr)|ty (n:String)
 |tup (xs:List RV)|ls (xs:List RV)
abbrev LR:=List RV
abbrev LKR:=List (Key×RV)
def Fz(K:Frg)(H:Hp)(a:Addr)(vs:LV):Prop:=
 (∃ o,H a=some (.frz o (.lst vs)))∨
  ∃ (o:Obj) (its:Array Value) (n:Nat),K.lookup a=some o/\o.cls= .type "list"/\o.dict=Option.none/\o.data= .seq its n/\its.size<=sizeLine/\Vals vs its.toList
theorem Fz.sq{K:Frg}{H:Hp}{a:Addr}{vs:LV}(h:Fz K H a vs):SqL K H a vs:=by
 rcases h with⟨o,h⟩|h
 · exact .inl (.inr ⟨o,h⟩)
 · exact .inr h
instance {K:Frg} {H:Hp} {a:Addr} {xs:LV}:Coe (H a=some (HO.tup xs)) (SqT K H a xs):=⟨SqT.of⟩
mutual
def Rep(K:Frg)(H:Hp):RV->V->Prop
 | .non,v=>v= .non
 | .bl b,v=>v= .bl b
 | .int i,v=>v= .int i
 | .str x,v=>v= .str x
 | .ref a,v=>v= .ref a
 | .ty n,v=>v= .ty n
 | .tup xs,v=>∃ a vs,v= .ref a/\H a=some (.tup vs)/\Reps K H xs vs
 | .ls xs,v=>∃ a vs,v= .ref a/\Fz K H a vs/\Reps K H xs vs
def Reps(K:Frg)(H:Hp):LR->LV->Prop
 | [],vs=>vs= []
 |x::xs,vs=>∃ v r,vs=v::r/\Rep K H x v/\Reps K H xs r
end
def qnD:HO->Bool
 | .dK _=>true
 | .dT _=>true
 |_=>false
structure ExtW(H H':Hp):Prop where
 tups:∀ b xs,H b=some (.tup xs)->H' b=some (.tup xs)
 frzs:∀ b o u,qnD u=false->H b=some (.frz o u)->H' b=some (.frz o u)
structure Ext(H H':Hp):Prop where
 tups:∀ b xs,H b=some (.tup xs)->H' b=some (.tup xs)
 frzs:∀ b o u,H b=some (.frz o u)->H' b=some (.frz o u)
theorem Ext.w{H H':Hp}(e:Ext H H'):ExtW H H':=⟨e.tups,fun b o u _ h=>e.frzs b o u h⟩
theorem Ext.refl(H:Hp):Ext H H:=⟨fun _ _ h=>h,fun _ _ _ h=>h⟩
theorem Ext.trans{H H1 H2:Hp}(a:Ext H H1)(b:Ext H1 H2):Ext H H2:=⟨fun c x h=>b.tups c x (a.tups c x h),fun c o x h=>b.frzs c o x (a.frzs c o x h)⟩
theorem ExtW.trans{H H1 H2:Hp}(a:ExtW H H1)(b:ExtW H1 H2):ExtW H H2:=⟨fun c x h=>b.tups c x (a.tups c x h),fun c o x n h=>b.frzs c o x n (a.frzs c o x n h)⟩
theorem Ext.new{H:Hp}{p:Addr}{o:HO}(h:H p=none):Ext H (upd H p o):=
 ⟨fun b xs e=>by rw[qaa (qao e h)];exact e,fun b o xs e=>by rw[qaa (qao e h)];exact e⟩
def qEw:HO->Bool
 | .tup _=>false
 | .frz _ _=>false
 |_=>true
theorem ExtW.thaw{H:Hp}{p:Addr}{o:Obj}{u:HO}(h:H p=some (.frz o u))(s:qnD u=true){v:HO}:ExtW H (upd H p v):=by
 refine⟨fun b xs e=>?_,fun b ob xs nd e=>?_⟩
 · have n:b≠p:=by rintro rfl;rw[h]at e;cases e
   rw[qaa n];exact e
 · have n:b≠p:=by rintro rfl;rw[h]at e;cases e;rw[s]at nd;cases nd
   rw[qaa n];exact e
theorem Ext.write{H:Hp}{p:Addr}{o o':HO}(h:H p=some o)(s:qEw o=true):Ext H (upd H p o'):=by
 refine⟨fun b xs e=>?_,fun b ob xs e=>?_⟩
 · have n:b≠p:=by rintro rfl;rw[h]at e;cases e;cases s
   rw[qaa n];exact e
 · have n:b≠p:=by rintro rfl;rw[h]at e;cases e;cases s
   rw[qaa n];exact e
theorem SqT.extw{K:Frg}{H H':Hp}{a:Addr}{vs:LV}(e:ExtW H H')(h:SqT K H a vs):SqT K H' a vs:=by
 rcases h with(h|⟨o,h⟩)|h
 · exact .inl (.inl (e.tups _ _ h))
 · exact .inl (.inr ⟨o,e.frzs _ _ _ rfl h⟩)
 · exact .inr h
theorem Fz.extw{K:Frg}{H H':Hp}{a:Addr}{vs:LV}(e:ExtW H H')(h:Fz K H a vs):Fz K H' a vs:=by
 rcases h with⟨o,h⟩|h
 · exact .inl ⟨o,e.frzs _ _ _ rfl h⟩
 · exact .inr h
mutual
theorem Rep.extw{K:Frg}{H H':Hp}(e:ExtW H H'):∀ (r:RV) (v:V),Rep K H r v->Rep K H' r v
 | .non,v,h=>by simpa only[Rep]using h
 | .bl _,v,h=>by simpa only[Rep]using h
 | .int _,v,h=>by simpa only[Rep]using h
 | .str _,v,h=>by simpa only[Rep]using h
 | .ref _,v,h=>by simpa only[Rep]using h
 | .ty _,v,h=>by simpa only[Rep]using h
 | .tup xs,v,h=>by
  simp only[Rep]at h ⊢;obtain⟨a,vs,e1,h1,h2⟩:=h;exact⟨a,vs,e1,e.tups _ _ h1,Reps.extw e xs vs h2⟩
 | .ls xs,v,h=>by
  simp only[Rep]at h ⊢;obtain⟨a,vs,e1,h1,h2⟩:=h;exact⟨a,vs,e1,h1.extw e,Reps.extw e xs vs h2⟩
theorem Reps.extw{K:Frg}{H H':Hp}(e:ExtW H H'):∀ (rs:LR) (vs:LV),Reps K H rs vs->Reps K H' rs vs
 | [],vs,h=>by simpa only[Reps]using h
 |x::xs,vs,h=>by
  simp only[Reps]at h ⊢;obtain⟨v,r,e1,h1,h2⟩:=h;exact⟨v,r,e1,Rep.extw e x v h1,Reps.extw e xs r h2⟩
end
section
variable {K:Frg}{H:Hp}
theorem Reps.cons{x:RV}{xs:LR}{v:V}{vs:LV}(h:Rep K H x v)(t:Reps K H xs vs):Reps K H (x::xs) (v::vs):=by
 simp only[Reps];exact⟨v,vs,rfl,h,t⟩
theorem Reps.nil:Reps K H [] []:=by simp only[Reps]
theorem Reps.length:∀ {xs:LR} {vs:LV},Reps K H xs vs->xs.length=vs.length
 | [],vs,h=>by simp only[Reps]at h;subst h;rfl
 |x::xs,vs,h=>by
  simp only[Reps]at h;obtain⟨v,r,rfl,_,t⟩:=h;simp[Reps.length t]
theorem Reps.get:∀ {xs:LR} {vs:LV} {i:Nat} {x:RV},Reps K H xs vs->xs[i]? =some x->∃ v,vs[i]? =some v/\Rep K H x v
 | [],_,_,_,_,e=>by simp at e
 |y::xs,vs,0,x,h,e=>by
  simp only[Reps]at h;obtain⟨v,r,rfl,h1,_⟩:=h;simp at e;subst e;exact⟨v,by simp,h1⟩
 |y::xs,vs,i+1,x,h,e=>by
  simp only[Reps]at h;obtain⟨v,r,rfl,_,t⟩:=h;obtain⟨u,h1,h2⟩:=Reps.get (i:=i) t (by simpa using e)
  exact⟨u,by simpa using h1,h2⟩
theorem Reps.append:∀ {xs ys:LR} {vs ws:LV},Reps K H xs vs->Reps K H ys ws->Reps K H (xs++ys) (vs++ws)
 | [],_,vs,_,h,t=>by simp only[Reps]at h;subst h;simpa using t
 |x::xs,ys,vs,ws,h,t=>by
  simp only[Reps]at h;obtain⟨v,r,rfl,h1,h2⟩:=h;exact Reps.cons h1 (Reps.append h2 t)
theorem Reps.take:∀ {xs:LR} {vs:LV} (n:Nat),Reps K H xs vs->Reps K H (xs.take n) (vs.take n)
 |_,_,0,_=>by simpa using Reps.nil
 | [],vs,n+1,h=>by simp only[Reps]at h;subst h;simpa using Reps.nil
 |x::xs,vs,n+1,h=>by
  simp only[Reps]at h;obtain⟨v,r,rfl,h1,h2⟩:=h;exact Reps.cons h1 (Reps.take n h2)
theorem Reps.drop:∀ {xs:LR} {vs:LV} (n:Nat),Reps K H xs vs->Reps K H (xs.drop n) (vs.drop n)
 |_,_,0,h=>by simpa using h
 | [],vs,n+1,h=>by simp only[Reps]at h;subst h;simpa using Reps.nil
 |x::xs,vs,n+1,h=>by
  simp only[Reps]at h;obtain⟨v,r,rfl,h1,h2⟩:=h;exact Reps.drop n h2
theorem Reps.set{x:RV}{v:V}(hx:Rep K H x v):∀ {xs:LR} {vs:LV} (i:Nat),Reps K H xs vs->Reps K H (xs.set i x) (vs.set i v)
 | [],vs,i,h=>by simp only[Reps]at h;subst h;simpa using Reps.nil
 |y::xs,vs,0,h=>by
  simp only[Reps]at h;obtain⟨w,r,rfl,h1,h2⟩:=h;exact Reps.cons hx h2
 |y::xs,vs,i+1,h=>by
  simp only[Reps]at h;obtain⟨w,r,rfl,h1,h2⟩:=h;exact Reps.cons h1 (Reps.set hx i h2)
theorem Reps.atI{xs:LR}{vs:LV}{i:Int}{x:RV}(h:Reps K H xs vs)(e:L2.atI xs i=some x):∃ v,L2.atI vs i=some v/\Rep K H x v:=by
 unfold L2.atI at e ⊢;rw[<-h.length];cases q:ixN xs.length i with
 |none=>rw[q]at e;cases e
 |some j=>rw[q]at e;exact h.get (by simpa using e)
end
inductive RO where
 |lst (xs:LR)
 |dk (kvs:LKR)
 |dt (kvs:List (List qbW×RV))
 |ins (C:Addr) (fs:List (Str×RV))
 |fk (kvs:LKR)
 |ft (kvs:List (List qbW×RV))
abbrev RM:=Addr->Option RO
def put(M:RM)(a:Addr)(o:RO):RM:=fun b=>if b=a then some o else M b
theorem qad{M:RM}{a:Addr}{o:RO}:put M a o a=some o:=by unfold put;rw[if_pos rfl]
theorem qac{M:RM}{a b:Addr}{o:RO}(h:b≠a):put M a o b=M b:=by unfold put;rw[if_neg h]
theorem qbi{M:RM}{a:Addr}{o o':RO}:put (put M a o) a o'=put M a o':=by
 funext b;unfold put;split<;>rfl
def RepP{κ:Type}(K:Frg)(H:Hp):List (κ×RV)->List (κ×V)->Prop
 | [],ws=>ws= []
 |(k,x)::r,ws=>∃ v t,ws=(k,v)::t/\Rep K H x v/\RepP K H r t
theorem RepP.extw{κ:Type}{K:Frg}{H H':Hp}(e:ExtW H H'):∀ {xs:List (κ×RV)} {ws:List (κ×V)},RepP K H xs ws->RepP K H' xs ws
 | [],_,h=>h
 |(k,x)::r,ws,h=>by
  obtain⟨v,t,e1,h1,h2⟩:=h;exact⟨v,t,e1,Rep.extw e x v h1,RepP.extw e h2⟩
def RepO(K:Frg)(H:Hp):RO->HO->Prop
 | .lst xs,o=>∃ vs,o= .lst vs/\Reps K H xs vs
 | .dk kvs,o=>∃ ws,o= .dK ws/\RepP K H kvs ws
 | .dt kvs,o=>∃ ws,o= .dT ws/\RepP K H kvs ws
 | .ins C fs,o=>∃ dx gs,o= .ins C dx gs/\RepP K H fs gs
 | .fk kvs,o=>∃ ob ws,o= .frz ob (.dK ws)/\RepP K H kvs ws
 | .ft kvs,o=>∃ ob ws,o= .frz ob (.dT ws)/\RepP K H kvs ws
theorem RepO.extw{K:Frg}{H H':Hp}(e:ExtW H H'):∀ {o:RO} {ho:HO},RepO K H o ho->RepO K H' o ho
 | .lst xs,_,h=>by obtain⟨vs,e1,h1⟩:=h;exact⟨vs,e1,Reps.extw e xs vs h1⟩
 | .dk _,_,h=>by obtain⟨ws,e1,h1⟩:=h;exact⟨ws,e1,h1.extw e⟩
 | .dt _,_,h=>by obtain⟨ws,e1,h1⟩:=h;exact⟨ws,e1,h1.extw e⟩
 | .ins _ _,_,h=>by obtain⟨dx,gs,e1,h1⟩:=h;exact⟨dx,gs,e1,h1.extw e⟩
 | .fk _,_,h=>by obtain⟨dx,gs,e1,h1⟩:=h;exact⟨dx,gs,e1,h1.extw e⟩
 | .ft _,_,h=>by obtain⟨dx,gs,e1,h1⟩:=h;exact⟨dx,gs,e1,h1.extw e⟩
theorem RepO.extW{K:Frg}{H:Hp}{p:Addr}{v:HO}:∀ {o:RO} {ho:HO},RepO K H o ho->H p=some ho->ExtW H (upd H p v)
 | .lst _,_,h,e=>by obtain⟨_,rfl,_⟩:=h;exact(Ext.write e rfl).w
 | .dk _,_,h,e=>by obtain⟨_,rfl,_⟩:=h;exact(Ext.write e rfl).w
 | .dt _,_,h,e=>by obtain⟨_,rfl,_⟩:=h;exact(Ext.write e rfl).w
 | .ins _ _,_,h,e=>by obtain⟨_,_,rfl,_⟩:=h;exact(Ext.write e rfl).w
 | .fk _,_,h,e=>by obtain⟨_,_,rfl,_⟩:=h;exact ExtW.thaw e rfl
 | .ft _,_,h,e=>by obtain⟨_,_,rfl,_⟩:=h;exact ExtW.thaw e rfl
section
variable {K:Frg}{H H':Hp}
theorem SqT.ext{a:Addr}{vs:LV}(e:Ext H H')(h:SqT K H a vs):SqT K H' a vs:=SqT.extw e.w h
theorem Fz.ext{a:Addr}{vs:LV}(h:Fz K H a vs)(e:Ext H H'):Fz K H' a vs:=h.extw e.w
theorem Rep.ext(e:Ext H H')(r:RV)(v:V)(h:Rep K H r v):Rep K H' r v:=Rep.extw e.w r v h
theorem Reps.ext(e:Ext H H')(r:LR)(v:LV)(h:Reps K H r v):Reps K H' r v:=Reps.extw e.w r v h
theorem RepP.ext{κ:Type}{xs:List (κ×RV)}{ws:List (κ×V)}(h:RepP K H xs ws)(e:Ext H H'):RepP K H' xs ws:=RepP.extw e.w h
theorem RepO.ext{o:RO}{ho:HO}(h:RepO K H o ho)(e:Ext H H'):RepO K H' o ho:=RepO.extw e.w h
end
def View(K:Frg)(H:Hp)(M:RM):Prop:=∀ a o,M a=some o->∃ ho,H a=some ho/\RepO K H o ho
section
variable {K:Frg}{H H':Hp}{M:RM}{p:Addr}{ho:HO}{o:RO}
theorem View.free(w:View K H M)(h:H p=none):M p=none:=by
 cases q:M p with
 |none=>rfl
 |some o=>obtain⟨ho,e,_⟩:=w p o q;rw[h]at e;cases e
theorem View.new(w:View K H M)(h:H p=none):View K (upd H p ho) M:=fun a o e=>by
 obtain⟨ho',e1,r⟩:=w a o e;exact⟨ho',by rw[qaa (qao e1 h)];exact e1,r.ext (Ext.new h)⟩
theorem View.newPut(w:View K H M)(h:H p=none)(r:RepO K (upd H p ho) o ho):View K (upd H p ho) (put M p o):=fun a o' e=>by
 by_cases ha:a=p
 · subst ha;rw[qad]at e;cases e;exact⟨ho,qah,r⟩
 · rw[qac ha]at e;exact w.new h a o' e
theorem View.write{o':RO}(w:View K H M)(h:M p=some o')(r:RepO K (upd H p ho) o ho):View K (upd H p ho) (put M p o):=fun a o'' e=>by
 by_cases ha:a=p
 · subst ha;rw[qad]at e;cases e;exact⟨ho,qah,r⟩
 · rw[qac ha]at e
   obtain⟨ho',e1,r1⟩:=w a o'' e;obtain⟨hp,e2,r2⟩:=w p o' h;exact⟨ho',by rw[qaa ha];exact e1,RepO.extw (r2.extW e2) r1⟩
end
abbrev RSt:=List (Option RV)
abbrev RVK:=RV->RM->Prop
abbrev RTE:=RSt->RM->RVK->Prop
abbrev RTT:=RSt->RM->(Bool->RM->Prop)->Prop
abbrev RTA:=RSt->RM->(LR->RM->Prop)->Prop
def RepSt(K:Frg)(H:Hp)(σ:RSt)(σ0:L2.St):Prop:=σ.length=σ0.length/\∀ (i:Nat) r,σ[i]? =some (some r)->∃ v,σ0[i]? =some (some v)/\Rep K H r v
theorem RepSt.extw{K:Frg}{H H':Hp}{σ:RSt}{σ0:L2.St}(h:RepSt K H σ σ0)(e:ExtW H H'):RepSt K H' σ σ0:=
 ⟨h.1,fun i r q=>by obtain⟨v,e1,h1⟩:=h.2 i r q;exact⟨v,e1,Rep.extw e r v h1⟩⟩
theorem RepSt.ext{K:Frg}{H H':Hp}{σ:RSt}{σ0:L2.St}(h:RepSt K H σ σ0)(e:Ext H H'):RepSt K H' σ σ0:=h.extw e.w
theorem RepSt.set{K:Frg}{H:Hp}{σ:RSt}{σ0:L2.St}{r:RV}{v:V}(h:RepSt K H σ σ0)(hr:Rep K H r v)(i:Nat):RepSt K H (σ.set i (some r)) (σ0.set i (some v)):=by
 refine⟨by simp[h.1],fun j r' q=>?_⟩
 by_cases hj:i=j
 · subst hj
   rw[List.getElem?_set]at q;split at q
   · split at q
     · cases q;rename_i hl _ ;exact⟨v,by rw[List.getElem?_set_self (by rw[<-h.1];assumption)],hr⟩
     · cases q
   · rename_i z;exact absurd rfl z
 · rw[List.getElem?_set_ne hj]at q
   obtain⟨w,e1,h1⟩:=h.2 j r' q;exact⟨w,by rw[List.getElem?_set_ne hj];exact e1,h1⟩
def UpK(K:Frg)(H:Hp)(Q:RVK)(Q0:VK):Prop:=∀ rv M' v H',Q rv M'->Ext H H'->View K H' M'->Rep K H' rv v->Q0 v H'
theorem UpK.ext{K:Frg}{H H':Hp}{Q:RVK}{Q0:VK}(h:UpK K H Q Q0)(e:Ext H H'):UpK K H' Q Q0:=fun rv M' v H2 q e2 w r=>h rv M' v H2 q (e.trans e2) w r
def up(K:Frg)(t:RTE):TE:=fun σ0 H Q0=>∃ σ M Q,RepSt K H σ σ0/\View K H M/\t σ M Q/\UpK K H Q Q0
def upT(K:Frg)(t:RTT):TT:=fun σ0 H Q0=>∃ σ M Q,RepSt K H σ σ0/\View K H M/\t σ M Q/\∀ b M' H',Q b M'->Ext H H'->View K H' M'->Q0 b H'
def upA(K:Frg)(t:RTA):TA:=fun σ0 H Q0=>∃ σ M Q,RepSt K H σ σ0/\View K H M/\t σ M Q/\∀ rs M' vs H',Q rs M'->Ext H H'->View K H' M'->Reps K H' rs vs->Q0 vs H'
structure RD where
 nx:RSt->RM->Prop
 rt:RVK
 bk:RSt->RM->Prop:=fun _ _=>False
 ct:RSt->RM->Prop:=fun _ _=>False
abbrev RTS:=RD->RSt->RM->Prop
def UpS(K:Frg)(H:Hp)(q:RSt->RM->Prop)(q0:L2.St->Hp->Prop):Prop:=∀ σ M σ0 H',q σ M->Ext H H'->View K H' M->RepSt K H' σ σ0->q0 σ0 H'
theorem UpS.ext{K:Frg}{H H':Hp}{Q:RSt->RM->Prop}{Q0:L2.St->Hp->Prop}(h:UpS K H Q Q0)(e:Ext H H'):UpS K H' Q Q0:=fun σ M σ0 H2 q e2 w r=>h σ M σ0 H2 q (e.trans e2) w r
structure UpD(K:Frg)(H:Hp)(D:RD)(D0:Ends):Prop where
 nx:UpS K H D.nx D0.nx
 rt:UpK K H D.rt D0.rt
 bk:UpS K H D.bk D0.bk
 ct:UpS K H D.ct D0.ct
theorem UpD.ext{K:Frg}{H H':Hp}{D:RD}{D0:Ends}(h:UpD K H D D0)(e:Ext H H'):UpD K H' D D0:=⟨h.nx.ext e,h.rt.ext e,h.bk.ext e,h.ct.ext e⟩
def upS(K:Frg)(t:RTS):TS:=fun D0 σ0 H=>∃ σ M D,RepSt K H σ σ0/\View K H M/\t D σ M/\UpD K H D D0
def RPE(X:Cx)(e:Expr)(t:RTE):Prop:=PE X e (up X.K t)
def RPT(X:Cx)(e:Expr)(t:RTT):Prop:=PT X e (upT X.K t)
def RPW(X:Cx)(e:Expr)(t:RTT):Prop:=PW X e (upT X.K t)
def RPA(X:Cx)(es:LEx)(t:RTA):Prop:=PA X es (upA X.K t)
def RPS(X:Cx)(s:Stmt)(t:RTS):Prop:=PS X s (upS X.K t)
def qnF(X:Cx)(s:List Stmt)(t:RTS):Prop:=PSs X s (upS X.K t)
section
variable {X:Cx}
theorem PE.imp{e:Expr}{t t':TE}(h:PE X e t)(i:∀ σ H Q,t' σ H Q->t σ H Q):PE X e t':=fun pins s σ H Q I w=>h pins s σ H Q I (i σ H Q w)
theorem PT.imp{e:Expr}{t t':TT}(h:PT X e t)(i:∀ σ H Q,t' σ H Q->t σ H Q):PT X e t':=fun pins s σ H Q I w=>h pins s σ H Q I (i σ H Q w)
theorem PW.imp{e:Expr}{t t':TT}(h:PW X e t)(i:∀ σ H Q,t' σ H Q->t σ H Q):PW X e t':=fun wh pins s σ H Q I w=>h wh pins s σ H Q I (i σ H Q w)
theorem PA.imp{e:LEx}{t t':TA}(h:PA X e t)(i:∀ σ H Q,t' σ H Q->t σ H Q):PA X e t':=fun pos pins s σ H Q I w=>h pos pins s σ H Q I (i σ H Q w)
theorem PS.imp{e:Stmt}{t t':TS}(h:PS X e t)(i:∀ D σ H,t' D σ H->t D σ H):PS X e t':=fun pins s σ H D I w=>h pins s σ H D I (i D σ H w)
theorem PSs.imp{e:List Stmt}{t t':TS}(h:PSs X e t)(i:∀ D σ H,t' D σ H->t D σ H):PSs X e t':=fun pins s σ H D I w=>h pins s σ H D I (i D σ H w)
end
section
variable {X:Cx}{a b c:Expr}{ta tb tc:RTE}{tA tB:RTT}{pos:Pos}{rest:LEx}
def qqH(i:Nat):RTE:=fun σ M Q=>match σ[i]? with|some (some v)=>Q v M|_=>False
def rC(v:RV):RTE:=fun _ M Q=>Q v M
theorem rv(i:Nat){x:Str}{pos:Pos}(hN:X.N[i]? =some x:=by rfl)(hv:Vis X.env.scope x:=by first|exact Or.inl rfl|exact Or.inr (Or.inl rfl)|exact Or.inr (Or.inr rfl))(hd:(x==("__debug__":Str))=false:=by decide)
 (hcd:(x==("__classdict__":Str))=false:=by decide):RPE X (.Name x pos) (qqH i):=PE.imp (qtI hN hv hd hcd) fun σ0 H Q h=>by
 obtain⟨σ,M,Qr,hs,hv,ht,hk⟩:=h;unfold qqH at ht;split at ht
 · rename_i r e
   obtain⟨v,e1,h1⟩:=hs.2 i r e;exact⟨v,e1,hk r M v H ht (.refl H) hv h1⟩
 · exact ht.elim
theorem qfr{e:Expr}{v:V}{r:RV}(h:PE X e (tC v))(hr:∀ H,Rep X.K H r v):RPE X e (rC r):=PE.imp h fun σ0 H Q h=>by
 obtain⟨σ,M,Qr,hs,hv,ht,hk⟩:=h;exact hk r M v H ht (.refl H) hv (hr H)
theorem ri{i j pos}:RPE X (.Constant (.int i) j pos) (rC (.int i)):=qfr qtN fun H=>by simp only[Rep]
theorem rb{b j pos}:RPE X (.Constant (.bool b) j pos) (rC (.bl b)):=qfr qw7 fun H=>by simp only[Rep]
theorem rn{j pos}:RPE X (.Constant .none j pos) (rC .non):=qfr qtM fun H=>by simp only[Rep]
theorem rs{x j pos}:RPE X (.Constant (.str x) j pos) (rC (.str x)):=qfr qps fun H=>by simp only[Rep]
theorem qs7{x:Str}{v:V}{r:RV}{u:Value}{pos:Pos}(hm:X.mg x=some u)(rl:RelV v u)(hr:∀ H,Rep X.K H r v)(hg:Gl X x:=by rfl)(hd:(x==("__debug__":Str))=false:=by decide):RPE X (.Name x pos) (rC r):=
 qfr (qlT hg hm rl hd) hr
theorem qlB{x:Str}{v:V}{r:RV}{u:Value}{pos:Pos}(hm:X.mg x=none)(hv:bootBuiltins x=some u)(rl:RelV v u)(hr:∀ H,Rep X.K H r v)(hg:Gl X x:=by rfl)(hn:x≠"__name__":=by decide)(hd:(x==("__debug__":Str))=false:=by decide):RPE X (.Name x pos) (rC r):=
 qfr (qqY hg hm hv rl hn hd) hr
abbrev RR2:=RV->RV->RM->RVK->Prop
def upO(K:Frg)(rr:RR2):R2:=fun x y H Q0=>∃ rx ry M Q,Rep K H rx x/\Rep K H ry y/\View K H M/\rr rx ry M Q/\UpK K H Q Q0
def ROp(X:Cx)(f:Value->Value->Sem Value)(rr:RR2):Prop:=OpR X f (upO X.K rr)
def rOp(rr:RR2)(ta tb:RTE):RTE:=fun σ M Q=>ta σ M fun x M1=>tb σ M1 fun y M2=>rr x y M2 Q
theorem qfV{K:Frg}{rr:RR2}{σ0:L2.St}{H:Hp}{Q0:VK}(h:up K (rOp rr ta tb) σ0 H Q0):tOp (upO K rr) (up K ta) (up K tb) σ0 H Q0:=by
 obtain⟨σ,M,Q,hs,hv,ht,hk⟩:=h;refine⟨σ,M,_,hs,hv,ht,fun rx M1 x H1 hb e1 v1 r1=>?_⟩
 refine⟨σ,M1,_,hs.ext e1,v1,hb,fun ry M2 y H2 hr e2 v2 r2=>?_⟩
 exact⟨rx,ry,M2,Q,Rep.ext e2 rx x r1,r2,v2,hr,hk.ext (e1.trans e2)⟩
theorem rop{op:Operator}{rr:RR2}(ho:ROp X (binaryOp op) rr)(ha:RPE X a ta)(hb:RPE X b tb):RPE X (.BinOp a op b pos) (rOp rr ta tb):=PE.imp (qw4 ho ha hb) fun _ _ _ h=>qfV h
theorem qDp{op:CmpOp}{rr:RR2}(ho:ROp X (compareOp op) rr)(ha:RPE X a ta)(hb:RPE X b tb)(hm:behindInMarks op b=false:=by first|exact qpx _|(with_unfolding_all rfl)):RPE X (.Compare a [op] [b] pos) (rOp rr ta tb):=
 PE.imp (qlU ho ha hb hm) fun _ _ _ h=>qfV h
def qfZ(t:RTE):RTT:=fun σ M Q=>t σ M fun v M'=>match v with| .bl k=>Q k M'|_=>False
theorem qcn{K:Frg}{H:Hp}{Q:Bool->RM->Prop}{Q0:Bool->Hp->Prop}(hk:∀ b M' H',Q b M'->Ext H H'->View K H' M'->Q0 b H'):
 UpK K H (fun v M'=>match v with| .bl k=>Q k M'|_=>False) (fun x H'=>∃ k,x= .bl k/\Q0 k H'):=fun rv M' v H' q e w r=>by
 cases rv with
 |bl k=>simp only[Rep]at r;exact⟨k,r,hk k M' H' q e w⟩
 |_=>exact q.elim
theorem qww{op:CmpOp}{rr:RR2}(ho:ROp X (compareOp op) rr)(ha:RPE X a ta)(hb:RPE X b tb)(hm:behindInMarks op b=false:=by first|exact qpx _|(with_unfolding_all rfl)):RPT X (.Compare a [op] [b] pos) (qfZ (rOp rr ta tb)):=
 PT.imp (qlM ho ha hb hm) fun σ0 H Q0 h=>by
  obtain⟨σ,M,Q,hs,hv,ht,hk⟩:=h;exact qfV ⟨σ,M,_,hs,hv,ht,qcn hk⟩
theorem qwu{e:Expr}{t:RTE}(h:RPE X e t)(he:∀ whole,isTrue e X.env whole=(do let v<-whole;standAt e.pos;holding [v] (truthy v)):=by intro _;rfl):RPT X e (qfZ t):=
 PT.imp (qtx h he) fun σ0 H Q0 h=>by
  obtain⟨σ,M,Q,hs,hv,ht,hk⟩:=h;exact⟨σ,M,_,hs,hv,ht,qcn hk⟩
def qfu(rr rr':RR2)(ta tb tc:RTE):RTE:=fun σ M Q=>ta σ M fun x M1=>tb σ M1 fun y M2=>rr x y M2 fun z M3=>match z with
 | .bl k=>(k=true->tc σ M3 fun w M4=>rr' y w M4 Q)/\(k=false->Q (.bl false) M3)
 |_=>False
theorem qhX{K:Frg}{rr rr':RR2}{σ0:L2.St}{H:Hp}{Q0:VK}(h:up K (qfu rr rr' ta tb tc) σ0 H Q0):qk8 (upO K rr) (upO K rr') (up K ta) (up K tb) (up K tc) σ0 H Q0:=by
 obtain⟨σ,M,Q,hs,hv,ht,hk⟩:=h;refine⟨σ,M,_,hs,hv,ht,fun rx M1 x H1 hb e1 v1 r1=>?_⟩
 refine⟨σ,M1,_,hs.ext e1,v1,hb,fun ry M2 y H2 hr e2 v2 r2=>?_⟩
 refine⟨rx,ry,M2,_,Rep.ext e2 rx x r1,r2,v2,hr,fun rz M3 z H3 hz e3 v3 r3=>?_⟩
 cases rz with
 |bl k=>
  simp only[Rep]at r3;refine⟨k,r3,?_⟩;have e13:=(e1.trans e2).trans e3;cases k with
  |true=>
   refine qro ?_;refine⟨σ,M3,_,hs.ext e13,v3,hz.1 rfl,fun rw M4 w H4 hw e4 v4 r4=>?_⟩
   exact⟨ry,rw,M4,Q,Rep.ext (e3.trans e4) ry y r2,r4,v4,hw,hk.ext (e13.trans e4)⟩
  |false=>exact qrp (hk _ M3 _ H3 (hz.2 rfl) e13 v3 (by simp only[Rep]))
 |_=>exact hz.elim
theorem qte{op op':CmpOp}{rr rr':RR2}(ho:ROp X (compareOp op) rr)(ho':ROp X (compareOp op') rr')(ha:RPE X a ta)(hb:RPE X b tb)(hc:RPE X c tc)(hm:lastMarks [op,op'] [b,c]=false:=by with_unfolding_all rfl):
 RPE X (.Compare a [op,op'] [b,c] pos) (qfu rr rr' ta tb tc):=PE.imp (qoh ho ho' ha hb hc hm) fun _ _ _ h=>qhX h
theorem qqy{op op':CmpOp}{rr rr':RR2}(ho:ROp X (compareOp op) rr)(ho':ROp X (compareOp op') rr')(ha:RPE X a ta)(hb:RPE X b tb)(hc:RPE X c tc)(hm:lastMarks [op,op'] [b,c]=false:=by with_unfolding_all rfl):
 RPT X (.Compare a [op,op'] [b,c] pos) (qfZ (qfu rr rr' ta tb tc)):=PT.imp (qn6 ho ho' ha hb hc hm) fun σ0 H Q0 h=>by
 obtain⟨σ,M,Q,hs,hv,ht,hk⟩:=h;exact qhX ⟨σ,M,_,hs,hv,ht,qcn hk⟩
def rUn(g:RV->RM->RVK->Prop)(ta:RTE):RTE:=fun σ M Q=>ta σ M fun x M1=>g x M1 Q
def upU(K:Frg)(g:RV->RM->RVK->Prop):V->Hp->VK->Prop:=fun x H Q0=>∃ rx M Q,Rep K H rx x/\View K H M/\g rx M Q/\UpK K H Q Q0
theorem qqv{K:Frg}{g:RV->RM->RVK->Prop}{σ0:L2.St}{H:Hp}{Q0:VK}(h:up K (rUn g ta) σ0 H Q0):tUn (upU K g) (up K ta) σ0 H Q0:=by
 obtain⟨σ,M,Q,hs,hv,ht,hk⟩:=h;exact⟨σ,M,_,hs,hv,ht,fun rx M1 x H1 hb e1 v1 r1=>⟨rx,M1,Q,r1,v1,hb,hk.ext e1⟩⟩
theorem run{op:UnaryOp}{g:RV->RM->RVK->Prop}(ho:UnR X (unaryOp op) (upU X.K g))(ha:RPE X a ta):RPE X (.UnaryOp op a pos) (rUn g ta):=PE.imp (qw2 ho ha) fun _ _ _ h=>qqv h
def qvu(t u:RTT):RTT:=fun σ M Q=>t σ M fun c M1=>(c=true->u σ M1 Q)/\(c=false->Q false M1)
def rOr(t u:RTT):RTT:=fun σ M Q=>t σ M fun c M1=>(c=true->Q true M1)/\(c=false->u σ M1 Q)
def qAK(t:RTT):RTT:=fun σ M Q=>t σ M fun c M1=>Q (!c) M1
theorem qwJ(ha:RPT X a tA):RPW X (.BoolOp .And [a] pos) tA:=qqK ha
theorem qDl(ha:RPT X a tA):RPW X (.BoolOp .Or [a] pos) tA:=qtv ha
theorem rand(ha:RPT X a tA)(hb:RPW X (.BoolOp .And (b::rest) pos) tB):RPW X (.BoolOp .And (a::b::rest) pos) (qvu tA tB):=PW.imp (qtw ha hb) fun σ0 H Q0 h=>by
 obtain⟨σ,M,Q,hs,hv,ht,hk⟩:=h;refine⟨σ,M,_,hs,hv,ht,fun k M1 H1 q e1 v1=>?_⟩
 cases k with
 |true=>exact qro ⟨σ,M1,Q,hs.ext e1,v1,q.1 rfl,fun b M' H' z e2 w=>hk b M' H' z (e1.trans e2) w⟩
 |false=>exact qrp (hk false M1 H1 (q.2 rfl) e1 v1)
theorem ror(ha:RPT X a tA)(hb:RPW X (.BoolOp .Or (b::rest) pos) tB):RPW X (.BoolOp .Or (a::b::rest) pos) (rOr tA tB):=PW.imp (qwW ha hb) fun σ0 H Q0 h=>by
 obtain⟨σ,M,Q,hs,hv,ht,hk⟩:=h;refine⟨σ,M,_,hs,hv,ht,fun k M1 H1 q e1 v1=>?_⟩
 cases k with
 |true=>exact qro (hk true M1 H1 (q.1 rfl) e1 v1)
 |false=>exact qrp ⟨σ,M1,Q,hs.ext e1,v1,q.2 rfl,fun b M' H' z e2 w=>hk b M' H' z (e1.trans e2) w⟩
theorem rtw(h:RPW X a tA):RPT X a tA:=PW.pt h
theorem qwv(ha:RPT X a tA):RPT X (.UnaryOp .Not a pos) (qAK tA):=PT.imp (qty ha) fun σ0 H Q0 h=>by
 obtain⟨σ,M,Q,hs,hv,ht,hk⟩:=h;exact⟨σ,M,_,hs,hv,ht,fun k M1 H1 q e1 v1=>hk (!k) M1 H1 q e1 v1⟩
def qn4(ta tb:RTE):RTE:=fun σ M Q=>ta σ M fun x M1=>match x with| .bl c=>(c=true->tb σ M1 Q)/\(c=false->Q (.bl false) M1)|_=>False
def qvn(ta tb:RTE):RTE:=fun σ M Q=>ta σ M fun x M1=>match x with| .bl c=>(c=true->Q (.bl true) M1)/\(c=false->tb σ M1 Q)|_=>False
def qto(ta:RTE):RTE:=fun σ M Q=>ta σ M fun x M1=>match x with| .bl c=>Q (.bl (!c)) M1|_=>False
theorem qAB{op}{t:RTE}(h:RPE X a t):RPE X (.BoolOp op [a] pos) t:=qtK h
theorem qth(ha:RPE X a ta)(hb:RPE X (.BoolOp .And (b::rest) pos) tb):RPE X (.BoolOp .And (a::b::rest) pos) (qn4 ta tb):=PE.imp (qtP ha hb) fun σ0 H Q0 h=>by
 obtain⟨σ,M,Q,hs,hv,ht,hk⟩:=h;refine⟨σ,M,_,hs,hv,ht,fun rx M1 x H1 q e1 v1 r1=>?_⟩
 cases rx with
 |bl k=>
  simp only[Rep]at r1;refine⟨k,r1,?_⟩;cases k with
  |true=>exact qro ⟨σ,M1,Q,hs.ext e1,v1,q.1 rfl,hk.ext e1⟩
  |false=>exact qrp (hk _ M1 _ H1 (q.2 rfl) e1 v1 (by simp only[Rep]))
 |_=>exact q.elim
theorem qAA(ha:RPE X a ta)(hb:RPE X (.BoolOp .Or (b::rest) pos) tb):RPE X (.BoolOp .Or (a::b::rest) pos) (qvn ta tb):=PE.imp (qw3 ha hb) fun σ0 H Q0 h=>by
 obtain⟨σ,M,Q,hs,hv,ht,hk⟩:=h;refine⟨σ,M,_,hs,hv,ht,fun rx M1 x H1 q e1 v1 r1=>?_⟩
 cases rx with
 |bl k=>
  simp only[Rep]at r1;refine⟨k,r1,?_⟩;cases k with
  |true=>exact qro (hk _ M1 _ H1 (q.1 rfl) e1 v1 (by simp only[Rep]))
  |false=>exact qrp ⟨σ,M1,Q,hs.ext e1,v1,q.2 rfl,hk.ext e1⟩
 |_=>exact q.elim
theorem qwA(ha:RPE X a ta):RPE X (.UnaryOp .Not a pos) (qto ta):=PE.imp (qtL ha) fun σ0 H Q0 h=>by
 obtain⟨σ,M,Q,hs,hv,ht,hk⟩:=h;refine⟨σ,M,_,hs,hv,ht,fun rx M1 x H1 q e1 v1 r1=>?_⟩
 cases rx with
 |bl k=>simp only[Rep]at r1;exact⟨k,r1,hk _ M1 _ H1 q e1 v1 (by simp only[Rep])⟩
 |_=>exact q.elim
def rIf(t:RTT)(ta tb:RTE):RTE:=fun σ M Q=>t σ M fun c M1=>(c=true->ta σ M1 Q)/\(c=false->tb σ M1 Q)
theorem rif{c:Expr}(hc:RPT X c tA)(ha:RPE X a ta)(hb:RPE X b tb):RPE X (.IfExp c a b pos) (rIf tA ta tb):=PE.imp (qod hc ha hb) fun σ0 H Q0 h=>by
 obtain⟨σ,M,Q,hs,hv,ht,hk⟩:=h;refine⟨σ,M,_,hs,hv,ht,fun k M1 H1 q e1 v1=>?_⟩
 cases k with
 |true=>exact qro ⟨σ,M1,Q,hs.ext e1,v1,q.1 rfl,hk.ext e1⟩
 |false=>exact qrp ⟨σ,M1,Q,hs.ext e1,v1,q.2 rfl,hk.ext e1⟩
variable {e:Expr}{es:LEx}{te:RTE}{t:RTA}
def qn3:RTA:=fun _ M Q=>Q [] M
def qkl(ta:RTE)(tr:RTA):RTA:=fun σ M Q=>ta σ M fun x M1=>tr σ M1 fun xs M2=>Q (x::xs) M2
theorem qyi:RPA X [] qn3:=PA.imp qtQ fun σ0 H Q0 h=>by
 obtain⟨σ,M,Q,hs,hv,ht,hk⟩:=h;exact hk [] M [] H ht (.refl H) hv Reps.nil
theorem qo4(ha:RPE X e te)(hr:RPA X es t)(hs:starEach (e::es) X.env=(false,eval e X.env)::starEach es X.env:=by rfl):RPA X (e::es) (qkl te t):=PA.imp (qqZ ha hr hs) fun σ0 H Q0 h=>by
 obtain⟨σ,M,Q,hs,hv,ht,hk⟩:=h;refine⟨σ,M,_,hs,hv,ht,fun rx M1 x H1 q e1 v1 r1=>?_⟩
 refine⟨σ,M1,_,hs.ext e1,v1,q,fun rs M2 vs H2 q2 e2 v2 r2=>?_⟩
 exact hk (rx::rs) M2 (x::vs) H2 q2 (e1.trans e2) v2 (Reps.cons (Rep.ext e2 rx x r1) r2)
def qAC(t:RTA):RTE:=fun σ M Q=>t σ M fun rs M1=>rs.length<=sizeLine/\Q (.tup rs) M1
theorem qcq{K:Frg}{H:Hp}{p:Addr}{rs:LR}{vs:LV}(h:H p=none)(r:Reps K H rs vs):Rep K (upd H p (.tup vs)) (.tup rs) (.ref p):=by
 simp only[Rep];exact⟨p,vs,rfl,qah,Reps.ext (Ext.new h) rs vs r⟩
theorem qfq{K:Frg}{H:Hp}{p:Addr}{o:Obj}{rs:LR}{vs:LV}(h:H p=none)(r:Reps K H rs vs):Rep K (upd H p (.frz o (.lst vs))) (.ls rs) (.ref p):=by
 simp only[Rep];exact⟨p,vs,rfl,.inl ⟨o,qah⟩,Reps.ext (Ext.new h) rs vs r⟩
theorem qDi{x1}(h:RPA X es t):RPE X (.Tuple es x1 pos) (qAC t):=PE.imp (qtJ h) fun σ0 H Q0 h=>by
 obtain⟨σ,M,Q,hs,hv,ht,hk⟩:=h;refine⟨σ,M,_,hs,hv,ht,fun rs M1 vs H1 q e1 v1 r1=>⟨by rw[<-r1.length];exact q.1,fun p hp=>?_⟩⟩
 exact hk _ M1 _ _ q.2 (e1.trans (Ext.new hp)) (v1.new hp) (qcq hp r1)
def qAP(t:RTA):RTE:=fun σ M Q=>t σ M fun rs M1=>rs.length<=sizeLine/\∀ p,M1 p=none->Q (.ref p) (put M1 p (.lst rs))
theorem qDm(h:RPA X es t):RPE X (.List es pos) (qAP t):=PE.imp (qpt h) fun σ0 H Q0 h=>by
 obtain⟨σ,M,Q,hs,hv,ht,hk⟩:=h;refine⟨σ,M,_,hs,hv,ht,fun rs M1 vs H1 q e1 v1 r1=>⟨by rw[<-r1.length];exact q.1,fun p hp=>?_⟩⟩
 exact hk _ _ _ _ (q.2 p (v1.free hp)) (e1.trans (Ext.new hp)) (v1.newPut hp ⟨vs,rfl,Reps.ext (Ext.new hp) rs vs r1⟩) (by simp only[Rep])
end
section
variable {X:Cx}{pins:LAO}{σ:L2.St}{H:Hp}{s:Shared}
theorem freeze{p:Addr}{xs:LV}(I:Inv X pins σ H s)(h:H p=some (.lst xs)):∃ o,Inv X pins σ (upd H p (.frz o (.lst xs))) s:=by
 have hz:xs.length<=sizeLine/\∃ (its:LVl) (n:Nat),Vals xs its/\s.heap.get? p=some { cls:=.type "list",data:=.seq its.toArray n }:=I.hok p _ h;obtain⟨z,its,n,r,e⟩:=id hz;have np:∀ b,H b=none->b≠p:=fun b q w=>by subst w;rw[h]at q;cases q
 refine⟨{ cls:=.type "list",data:=.seq its.toArray n },⟨I.ok,I.os,I.bare,⟨I.base.keep,I.base.slot,fun b o q w x=>?_,I.base.there,fun b xs' q=>?_,fun b o u q=>?_,fun b ps q=>?_⟩,I.loc,I.cell,?_,fun x c q=>?_,fun q hq=>?_,fun b u q=>?_,I.len⟩⟩
 · have:=I.base.free b o q w x
   rw[qaa (np b this)];exact this
 · have e1:=I.base.tups b xs' q
   rw[qaa (qfb e1 h (by intro z;cases z))];exact e1
 · have e1:=I.base.frzs b o u q
   rw[qaa (qfb e1 h (by intro z;cases z))];exact e1
 · obtain⟨more,e1⟩:=I.base.tbls b ps q
   exact⟨more,by rw[qaa (qfb e1 h (by intro z;cases z))];exact e1⟩
 · rw[qaa (np _ I.free)];exact I.free
 · have:=I.freeC x c q
   rw[qaa (np _ this)];exact this
 · obtain⟨a1,a2,a3⟩:=I.pin q hq
   exact⟨a1,by rw[qaa (np _ a2)];exact a2,a3⟩
 · by_cases hb:b=p
   · subst hb
     rw[qah]at q;cases q;exact⟨e,z,its,n,r,e⟩
   · rw[qaa hb]at q
     refine(I.hok b u q).stay (fun _ _ _ q=>q) (fun c q=>?_) fun c ys q=>?_
     · rw[qaa (qfb q h (by intro z;cases z))];exact q
     · rw[qaa (qfb q h (by intro z;cases z))];exact q
theorem frozen{Q:VK}{u:Value}(h:EP X pins σ (fun v H'=>∃ H1 p xs,v= .ref p/\H1 p=none/\H'=upd H1 p (.lst xs)/\∀ o,Q (.ref p) (upd H1 p (.frz o (.lst xs)))) u s):EP X pins σ Q u s:=by
 obtain⟨v,H',I,r,H1,p,xs,rfl,hn,rfl,q⟩:=h;obtain⟨o,I'⟩:=freeze I (p:=p) (xs:=xs) qah;rw[qqd]at I';exact⟨.ref p,_,I',r,q o⟩
end
section
variable {X:Cx}{es:LEx}{t:RTA}{pos:Pos}
def qAQ(t:RTA):RTE:=fun σ M Q=>t σ M fun rs M1=>rs.length<=sizeLine/\Q (.ls rs) M1
theorem qDn(h:RPA X es t):RPE X (.List es pos) (qAQ t):=fun pins s σ0 H Q0 I hw=>by
 obtain⟨σ,M,Q,hs,hv,ht,hk⟩:=hw;refine thn (qpt h pins s σ0 H (fun v H'=>∃ H1 p xs,v= .ref p/\H1 p=none/\H'=upd H1 p (.lst xs)/\∀ o,Q0 (.ref p) (upd H1 p (.frz o (.lst xs)))) I ?_) fun _ _ e=>frozen e
 refine⟨σ,M,_,hs,hv,ht,fun rs M1 vs H1 q e1 v1 r1=>⟨by rw[<-r1.length];exact q.1,fun p hp=>⟨H1,p,vs,rfl,hp,rfl,fun o=>?_⟩⟩⟩
 exact hk _ M1 _ _ q.2 (e1.trans (Ext.new hp)) (v1.new hp) (qfq hp r1)
end
section
variable {X:Cx}{st:Stmt}{rest:List Stmt}{t u:RTS}{e:Expr}{te:RTE}{pos:Pos}
def qtp:RTS:=fun D σ M=>D.nx σ M
def qAE(t u:RTS):RTS:=fun D σ M=>t { D with nx:=u D } σ M
theorem qCS:qnF X [] qtp:=PSs.imp qqL fun D0 σ0 H h=>by
 obtain⟨σ,M,D,hs,hv,ht,hd⟩:=h;exact hd.nx σ M σ0 H ht (.refl H) hv hs
theorem qwf(h1:RPS X st t)(h2:qnF X rest u):qnF X (st::rest) (qAE t u):=PSs.imp (qn7 h1 h2) fun D0 σ0 H h=>by
 obtain⟨σ,M,D,hs,hv,ht,hd⟩:=h;refine⟨σ,M,_,hs,hv,ht,⟨fun σ' M' σ0' H' q e w r=>?_,hd.rt,hd.bk,hd.ct⟩⟩
 exact⟨σ',M',D,r,w,q,hd.ext e⟩
def qts(te:RTE):RTS:=fun D σ M=>te σ M fun _ M1=>D.nx σ M1
theorem qwd(he:RPE X e te)(hs:swapsWith e none pos.line X.env=pure false:=by rfl):RPS X (.Expr e pos) (qts te):=PS.imp (qqM he hs) fun D0 σ0 H h=>by
 obtain⟨σ,M,D,hs,hv,ht,hd⟩:=h;exact⟨σ,M,_,hs,hv,ht,fun rx M1 x H1 q e1 v1 r1=>hd.nx σ M1 σ0 H1 q e1 v1 (hs.ext e1)⟩
def qAG(te:RTE):RTS:=fun D σ M=>te σ M D.rt
theorem qCQ(he:RPE X e te):RPS X (.Return (some e) pos) (qAG te):=PS.imp (qtA he) fun D0 σ0 H h=>by
 obtain⟨σ,M,D,hs,hv,ht,hd⟩:=h;exact⟨σ,M,_,hs,hv,ht,hd.rt⟩
def qvs(c:RTT)(t u:RTS):RTS:=fun D σ M=>c σ M fun b M1=>(b=true->t D σ M1)/\(b=false->u D σ M1)
theorem sif{c:Expr}{a b:List Stmt}{tc:RTT}(hc:RPT X c tc)(ha:qnF X a t)(hb:qnF X b u):RPS X (.If c a b pos) (qvs tc t u):=PS.imp (qwY hc ha hb) fun D0 σ0 H h=>by
 obtain⟨σ,M,D,hs,hv,ht,hd⟩:=h;refine⟨σ,M,_,hs,hv,ht,fun k M1 H1 q e1 v1=>?_⟩
 cases k with
 |true=>exact qro ⟨σ,M1,D,hs.ext e1,v1,q.1 rfl,hd.ext e1⟩
 |false=>exact qrp ⟨σ,M1,D,hs.ext e1,v1,q.2 rfl,hd.ext e1⟩
def qtm(i:Nat)(te:RTE):RTS:=fun D σ M=>te σ M fun x M1=>D.nx (σ.set i (some x)) M1
theorem sset(i:Nat){x:Str}{pos':Pos}(he:RPE X e te)(hN:X.N.Nodup)(hi:X.N[i]? =some x:=by rfl)(hx:Loc X.env.scope x:=by first|exact Or.inl rfl|exact Or.inr rfl)(hs:swapsWith e (some (.Name x pos')) pos.line X.env=pure false:=by rfl)
 (hf:X.fn x=true∨X.env.scope.names.lookup x=some .local:=by first|exact .inl rfl|exact .inr rfl):RPS X (.Assign [.Name x pos'] e pos) (qtm i te):=PS.imp (qtz hN hi hx he hs hf) fun D0 σ0 H h=>by
 obtain⟨σ,M,D,hs,hv,ht,hd⟩:=h;exact⟨σ,M,_,hs,hv,ht,fun rx M1 x H1 q e1 v1 r1=>hd.nx _ M1 _ H1 q e1 v1 ((hs.ext e1).set r1 i)⟩
abbrev RTG:=RV->RSt->RM->(RSt->RM->Prop)->Prop
def upG(K:Frg)(g:RTG):TG:=fun v σ0 H Q0=>∃ rv σ M Q,Rep K H rv v/\RepSt K H σ σ0/\View K H M/\g rv σ M Q/\UpS K H Q Q0
def RPG(X:Cx)(target:Expr)(g:RTG):Prop:=PG X target (upG X.K g)
theorem PG.imp{tg:Expr}{t t':TG}(h:PG X tg t)(i:∀ v σ H Q,t' v σ H Q->t v σ H Q):PG X tg t':=fun pins s σ H v u Q I r w=>h pins s σ H v u Q I r (i v σ H Q w)
def rgN(i:Nat):RTG:=fun x σ M Q=>Q (σ.set i (some x)) M
theorem qxO(i:Nat){x:Str}{pos:Pos}(hN:X.N.Nodup)(hi:X.N[i]? =some x:=by rfl)(hx:Loc X.env.scope x:=by first|exact Or.inl rfl|exact Or.inr rfl)
 (hf:X.fn x=true∨X.env.scope.names.lookup x=some .local:=by first|exact .inl rfl|exact .inr rfl):RPG X (.Name x pos) (rgN i):=PG.imp (qf3 hN hi hx hf) fun v σ0 H Q0 h=>by
 obtain⟨rv,σ,M,Q,hr,hs,hv,hg,hk⟩:=h;exact hk _ M _ H hg (.refl H) hv (hs.set hr i)
def qfp:RSt->List Nat->LR->RSt
 |σ,i::is,x::xs=>qfp (σ.set i (some x)) is xs
 |σ,_,_=>σ
def qoL:List Nat->TGs
 | []=>qA5
 |i::is=>quF (qrE i) (qoL is)
theorem qmS{K:Frg}{H:Hp}{Q0:L2.St->Hp->Prop}:∀ {is:List Nat} {rs:LR} {vs:LV} {σ:RSt} {σ0:L2.St},rs.length=is.length->Reps K H rs vs->RepSt K H σ σ0->
 (∀ σ0',RepSt K H (qfp σ is rs) σ0'->Q0 σ0' H)->qoL is vs σ0 H Q0
 | [],[],vs,σ,σ0,_,r,hs,k=>by
  simp only[Reps]at r;exact⟨r,k σ0 hs⟩
 |i::is,x::rs,vs,σ,σ0,hl,r,hs,k=>by
  simp only[Reps]at r;obtain⟨v,vs',rfl,h1,h2⟩:=r;refine⟨v,vs',rfl,?_⟩;show qoL is vs' (σ0.set i (some v)) H Q0;exact qmS (σ:=σ.set i (some x)) (by simpa using hl) h2 (hs.set h1 i) k
def rgU(is:List Nat):RTG:=fun x σ M Q=>match x with| .tup xs=>xs.length=is.length/\Q (qfp σ is xs) M|_=>False
theorem qDS{es:LEx}{k:Nat}{is:List Nat}{n:Nat}{pos:Pos}(hc:X.calm=true)(h:PGs X es (qoL is))(hl:n=is.length:=by rfl)
 (hn:(assignEach es X.env).length=n:=by rfl) (hst:(assignEach es X.env).findIdx? (·.1)=none:=by rfl):RPG X (.Tuple es k pos) (rgU is):=PG.imp (qpr hc h hn hst) fun v σ0 H Q0 h=>by
 obtain⟨rv,σ,M,Q,hr,hs,hv,hg,hk⟩:=h;cases rv with
 |tup xs=>
  simp only[Rep]at hr;obtain⟨a,vs,rfl,h1,h2⟩:=hr;exact⟨a,vs,rfl,SqT.of h1,by rw[<-h2.length,hl];exact hg.1,qmS hg.1 h2 hs fun σ0' q=>hk _ M σ0' H hg.2 (.refl H) hv q⟩
 |_=>exact hg.elim
def qwT(te:RTE)(g:RTG):RTS:=fun D σ M=>te σ M fun x M1=>g x σ M1 D.nx
theorem qAx{tg e:Expr}{te:RTE}{g:RTG}{pos:Pos}(he:RPE X e te)(hg:RPG X tg g)(hs:swapsWithSole [tg] e pos.line X.env=pure false:=by rfl)(hw:swappedStores [tg] e X.env=pure none:=by rfl)
 (h1:(assignEach [tg] X.env).map (·.2)= [assign tg X.env]:=by rfl):RPS X (.Assign [tg] e pos) (qwT te g):=PS.imp (qtE he hg hs hw h1) fun D0 σ0 H h=>by
 obtain⟨σ,M,D,hs,hv,ht,hd⟩:=h;exact⟨σ,M,_,hs,hv,ht,fun rx M1 x H1 q e1 v1 r1=>⟨rx,σ,M1,D.nx,r1,hs.ext e1,v1,q,hd.nx.ext e1⟩⟩
abbrev qo5:=RV->RV->RV->RM->(RM->Prop)->Prop
def qsB(K:Frg)(g:qo5):qvD:=fun o i v H Q0=>∃ ro ri rx M Q,Rep K H ro o/\Rep K H ri i/\Rep K H rx v/\View K H M/\g ro ri rx M Q/\∀ M' H',Q M'->Ext H H'->View K H' M'->Q0 H'
def qs8(to ti:RTE)(g:qo5):RTG:=fun v σ M Q=>to σ M fun o M1=>ti σ M1 fun i M2=>g o i v M2 fun M3=>Q σ M3
theorem qDT{o i:Expr}{to ti:RTE}{g:qo5}{pos:Pos}(ho:RPE X o to)(hi:RPE X i ti)(hs:qvE X (qsB X.K g))
 (ha:∀ v,assign (.Subscript o i pos) X.env v=(do
  let ov<-holding [v] (eval o X.env)
  let iv<-holding [v,ov] (eval i X.env)
  standAt pos
  holding [v,ov,iv] (setItem ov iv v)
  release [v,ov,iv] []):=by intro _;rfl):RPG X (.Subscript o i pos) (qs8 to ti g):=PG.imp (qtH ho hi hs ha) fun v σ0 H Q0 h=>by
 obtain⟨rv,σ,M,Q,hr,hs,hv,hg,hk⟩:=h;refine⟨σ,M,_,hs,hv,hg,fun ro M1 o H1 q e1 v1 r1=>?_⟩
 refine⟨σ,M1,_,hs.ext e1,v1,q,fun ri M2 i H2 q2 e2 v2 r2=>?_⟩
 refine⟨ro,ri,rv,M2,_,Rep.ext e2 ro o r1,r2,Rep.ext (e1.trans e2) rv v hr,v2,q2,fun M3 H3 q3 e3 v3=>?_⟩
 have e:=(e1.trans e2).trans e3;exact hk σ M3 σ0 H3 q3 e v3 (hs.ext e)
def qeu(g:RTG)(tb:RTS)(D:RD)(ok:RM->Prop)(un:RM->RM):LR->RSt->RM->Prop
 | [],σ,M=>ok M/\D.nx σ (un M)
 |x::r,σ,M=>ok M/\g x σ M fun σ2 M2=>tb { D with nx:=qeu g tb D ok un r,ct:=qeu g tb D ok un r,bk:=fun σ M=>ok M/\D.nx σ (un M),rt:=fun v M=>ok M/\D.rt v (un M) } σ2 M2
end
open PySem.SeqAt (EqAt RcAt RcNeAt)
mutual
def eqR:RV->RV->Bool
 | .non,.non=>true
 | .bl a,.bl b=>a==b
 | .bl a,.int b=>(if a then 1 else 0)==b
 | .int a,.bl b=>a==(if b then 1 else 0)
 | .int a,.int b=>a==b
 | .str a,.str b=>a==b
 | .tup xs,.tup ys=>qkI xs ys
 | .ls xs,.ls ys=>qkI xs ys
 |_,_=>false
def qkI:LR->LR->Bool
 | [],[]=>true
 |x::xs,y::ys=>eqR x y&&qkI xs ys
 |_,_=>false
end
def okR:Nat->RV->Bool
 |_,.non=>true
 |_,.bl _=>true
 |_,.int _=>true
 |_,.str _=>true
 |n+1,.tup xs=>xs.all (okR n)
 |n+1,.ls xs=>xs.all (okR n)
 |_,_=>false
mutual
def Den(h:Heap):RV->Value->Prop
 | .non,u=>u= .none
 | .bl b,u=>u= .bool b
 | .int i,u=>∃ t,u= .int i t
 | .str x,u=>∃ t,u= .str x t
 | .tup xs,u=>∃ a its,u= .ref a/\h.IsTuple a its.toArray/\Dens h xs its
 | .ls xs,u=>∃ a its,u= .ref a/\h.IsList a its.toArray/\Dens h xs its
 | .ref _,_=>False
 | .ty _,_=>False
def Dens(h:Heap):LR->LVl->Prop
 | [],us=>us= []
 |x::xs,us=>∃ u r,us=u::r/\Den h x u/\Dens h xs r
end
theorem Dens.length{h:Heap}:∀ {xs:LR} {us:LVl},Dens h xs us->xs.length=us.length
 | [],us,d=>by simp only[Dens]at d;subst d;rfl
 |x::xs,us,d=>by
  simp only[Dens]at d;obtain⟨u,r,rfl,_,t⟩:=d;simp[Dens.length t]
theorem Dens.get{h:Heap}:∀ {xs:LR} {us:LVl} {j:Nat} {u:Value},Dens h xs us->us[j]? =some u->Den h (xs.getD j .non) u/\xs.getD j .non∈xs
 | [],us,_,_,d,e=>by simp only[Dens]at d;subst d;simp at e
 |x::xs,us,0,u,d,e=>by
  simp only[Dens]at d;obtain⟨v,r,rfl,h1,_⟩:=d;simp at e;subst e;exact⟨by simpa using h1,by simp⟩
 |x::xs,us,j+1,u,d,e=>by
  simp only[Dens]at d;obtain⟨v,r,rfl,_,t⟩:=d;obtain⟨a,b⟩:=Dens.get (j:=j) t (by simpa using e)
  exact⟨by simpa using a,by simp only[List.getD_cons_succ];exact waq _ b⟩
section
variable {X:Cx}{pins:LAO}{σ:L2.St}{H:Hp}{s:Shared}
theorem Vals.cons_inv{v:V}{vs:LV}{us:LVl}(r:Vals (v::vs) us):∃ u us',us=u::us'/\RelV v u/\Vals vs us':=by
 cases r with
 |cons a b=>exact⟨_,_,rfl,a,b⟩
theorem qb5(I:Inv X pins σ H s):∀ (n:Nat),(∀ (r:RV) (v:V) (u:Value),okR n r=true->Rep X.K H r v->RelV v u->Den s.heap r u):=by
 intro n
 induction n with
 |zero=>
  intro r v u o h w;cases r with
  |non=>simp only[Rep]at h;subst h;simp only[Den];exact w
  |bl b=>simp only[Rep]at h;subst h;simp only[Den];exact w
  |int i=>simp only[Rep]at h;subst h;simp only[Den];exact w
  |str x=>simp only[Rep]at h;subst h;simp only[Den];exact w
  |_=>simp[okR]at o
 |succ n ih=>
  have all:∀ (rs:LR) (vs:LV) (us:LVl),rs.all (okR n)=true->Reps X.K H rs vs->Vals vs us->Dens s.heap rs us:=by
   intro rs
   induction rs with
   |nil=>
    intro vs us _ h w;simp only[Reps]at h;subst h;cases w;simp only[Dens]
   |cons x xs ihx=>
    intro vs us o h w;simp only[Reps]at h;obtain⟨v,r,rfl,h1,h2⟩:=h;obtain⟨u,us',rfl,w1,w2⟩:=Vals.cons_inv w;rw[wal,waa]at o;simp only[Dens];exact⟨u,us',rfl,ih x v u o.1 h1 w1,ihx r us' o.2 h2 w2⟩
  intro r v u o h w;cases r with
  |non=>simp only[Rep]at h;subst h;simp only[Den];exact w
  |bl b=>simp only[Rep]at h;subst h;simp only[Den];exact w
  |int i=>simp only[Rep]at h;subst h;simp only[Den];exact w
  |str x=>simp only[Rep]at h;subst h;simp only[Den];exact w
  |tup xs=>
   simp only[Rep]at h;obtain⟨a,vs,rfl,h1,h2⟩:=h;obtain⟨its,rv,ht,_⟩:=I.tuple (SqT.of h1);simp only[Den];exact⟨a,its,w,ht,all xs vs its o h2 rv⟩
  |ls xs=>
   simp only[Rep]at h;obtain⟨a,vs,rfl,h1,h2⟩:=h;obtain⟨its,rv,ht,_⟩:=I.list h1.sq;simp only[Den];exact⟨a,its,w,ht.isList,all xs vs its o h2 rv⟩
  |_=>simp[okR]at o
end
theorem qlc{h:Heap}{a:Addr}{xs ys:LVl}(p:h.IsTuple a xs.toArray)(q:h.IsTuple a ys.toArray):xs=ys:=by
 obtain⟨o,e,_,n,d⟩:=p;obtain⟨o',e',_,n',d'⟩:=q;rw[e]at e';cases e';rw[d]at d';injection d' with d1 _
 simpa using congrArg Array.toList d1
theorem ql9{h:Heap}{a:Addr}{xs ys:LVl}(p:h.IsList a xs.toArray)(q:h.IsList a ys.toArray):xs=ys:=by
 obtain⟨o,e,_,n,d⟩:=p;obtain⟨o',e',_,n',d'⟩:=q;rw[e]at e';cases e';rw[d]at d';injection d' with d1 _
 simpa using congrArg Array.toList d1
theorem qjE{h:Heap}{a:Addr}{xs ys:Array Value}(p:h.IsList a xs)(q:h.IsTuple a ys):False:=by
 obtain⟨o,e,c,_⟩:=p;obtain⟨o',e',c',_⟩:=q;rw[e]at e';cases e';rw[c]at c';exact absurd c' (by decide+kernel)
def isS:RV->Bool
 | .non=>true
 | .bl _=>true
 | .int _=>true
 | .str _=>true
 |_=>false
def qBe:Value->Option RV
 | .none=>some .non
 | .bool b=>some (.bl b)
 | .int i _=>some (.int i)
 | .str x _=>some (.str x)
 |_=>none
theorem quL{h:Heap}{u:Value}:∀ {x:RV},isS x=true->Den h x u->qBe u=some x
 | .non,_,d=>by simp only[Den]at d;subst d;rfl
 | .bl _,_,d=>by simp only[Den]at d;subst d;rfl
 | .int _,_,d=>by simp only[Den]at d;obtain⟨t,rfl⟩:=d;rfl
 | .str _,_,d=>by simp only[Den]at d;obtain⟨t,rfl⟩:=d;rfl
theorem qxZ{h:Heap}{u:Value}:∀ {x:RV},isS x=false->Den h x u->qBe u=none
 | .tup _,_,d=>by simp only[Den]at d;obtain⟨a,its,rfl,_⟩:=d;rfl
 | .ls _,_,d=>by simp only[Den]at d;obtain⟨a,its,rfl,_⟩:=d;rfl
 | .ref _,_,d=>by simp only[Den]at d
 | .ty _,_,d=>by simp only[Den]at d
theorem qjg{h:Heap}:∀ (n:Nat) (x y:RV) (u:Value),okR n x=true->okR n y=true->Den h x u->Den h y u->x=y:=by
 intro n;have sc:∀ (x y:RV) (u:Value),isS x=true->Den h x u->Den h y u->x=y:=by
  intro x y u sx dx dy;have ex:=quL sx dx;cases sy:isS y with
  |true=>
   have ey:=quL sy dy;rw[ex]at ey;exact Option.some.inj ey
  |false=>
   have ey:=qxZ sy dy;rw[ex]at ey;cases ey
 induction n with
 |zero=>
  intro x y u ox oy dx dy;have sx:isS x=true:=by cases x<;>first|rfl|(simp[okR]at ox)
  exact sc x y u sx dx dy
 |succ n ih=>
  have all:∀ (xs ys:LR) (us:LVl),xs.all (okR n)=true->ys.all (okR n)=true->Dens h xs us->Dens h ys us->xs=ys:=by
   intro xs
   induction xs with
   |nil=>
    intro ys us _ _ d e;simp only[Dens]at d;subst d;cases ys with
    |nil=>rfl
    |cons y ys=>simp only[Dens]at e;obtain⟨_,_,z,_⟩:=e;cases z
   |cons x xs ihx=>
    intro ys us ox oy d e;simp only[Dens]at d;obtain⟨u,r,rfl,d1,d2⟩:=d;cases ys with
    |nil=>simp only[Dens]at e;cases e
    |cons y ys=>
     simp only[Dens]at e;obtain⟨u',r',z,e1,e2⟩:=e;cases z;rw[wal,waa]at ox oy;rw[ih x y u ox.1 oy.1 d1 e1,ihx ys r ox.2 oy.2 d2 e2]
  intro x y u ox oy dx dy;cases sx:isS x with
  |true=>exact sc x y u sx dx dy
  |false=>
   cases sy:isS y with
   |true=>exact(sc y x u sy dy dx).symm
   |false=>
    cases x with
    |tup xs=>
     simp only[Den]at dx;obtain⟨a,its,rfl,p,d⟩:=dx;cases y with
     |tup ys=>
      simp only[Den]at dy;obtain⟨a',its',z,p',d'⟩:=dy;cases z;obtain rfl:=qlc p p';rw[all xs ys its ox oy d d']
     |ls ys=>
      simp only[Den]at dy;obtain⟨a',its',z,p',d'⟩:=dy;cases z;exact(qjE p' p).elim
     |ref _=>simp only[Den]at dy
     |ty _=>simp only[Den]at dy
     |_=>cases sy
    |ls xs=>
     simp only[Den]at dx;obtain⟨a,its,rfl,p,d⟩:=dx;cases y with
     |ls ys=>
      simp only[Den]at dy;obtain⟨a',its',z,p',d'⟩:=dy;cases z;obtain rfl:=ql9 p p';rw[all xs ys its ox oy d d']
     |tup ys=>
      simp only[Den]at dy;obtain⟨a',its',z,p',d'⟩:=dy;cases z;exact(qjE p p').elim
     |ref _=>simp only[Den]at dy
     |ty _=>simp only[Den]at dy
     |_=>cases sy
    |ref _=>simp only[Den]at dx
    |ty _=>simp only[Den]at dx
    |_=>cases sx
mutual
theorem qd8:∀ (x:RV),(∃ n,okR n x=true)->eqR x x=true
 | .non,_=>by simp[eqR]
 | .bl _,_=>by simp[eqR]
 | .int _,_=>by simp[eqR]
 | .str _,_=>by simp[eqR]
 | .tup xs,⟨n,o⟩=>by
  rw[eqR];refine qeS xs ?_;cases n with
  |zero=>simp[okR]at o
  |succ n=>exact⟨n,o⟩
 | .ls xs,⟨n,o⟩=>by
  rw[eqR];refine qeS xs ?_;cases n with
  |zero=>simp[okR]at o
  |succ n=>exact⟨n,o⟩
 | .ref _,⟨n,o⟩=>by cases n<;>simp[okR]at o
 | .ty _,⟨n,o⟩=>by cases n<;>simp[okR]at o
theorem qeS:∀ (xs:LR),(∃ n,xs.all (okR n)=true)->qkI xs xs=true
 | [],_=>by simp[qkI]
 |x::xs,⟨n,o⟩=>by
  rw[wal,waa]at o;rw[qkI,qd8 x ⟨n,o.1⟩,qeS xs ⟨n,o.2⟩];rfl
end
abbrev qiH(xs ys:LR)(j:Nat):Bool:=eqR (xs.getD j .non) (ys.getD j .non)
theorem qdq:∀ xs ys:LR,((List.range (min xs.length ys.length)).all (qiH xs ys)&&xs.length==ys.length)=qkI xs ys
 | [],[]=>by simp[qkI]
 | [],_::_=>by simp[qkI]
 |_::_,[]=>by simp[qkI]
 |x::xs,y::ys=>by
  have ih:=qdq xs ys;have e1:min (x::xs).length (y::ys).length=min xs.length ys.length+1:=by simp only[wah];omega
  have e2:((x::xs).length==(y::ys).length)=(xs.length==ys.length):=by simp
  have e3:(List.range (min xs.length ys.length+1)).all (qiH (x::xs) (y::ys))=(eqR x y&&(List.range (min xs.length ys.length)).all (qiH xs ys)):=by
   rw[wa1,wal,List.all_map];rfl
  rw[e1,e2,e3,qkI,<-ih,Bool.and_assoc]
theorem qeR{xs ys:LR}(h:xs.length=ys.length):(List.range xs.length).all (qiH xs ys)=qkI xs ys:=by
 have:=qdq xs ys;rw[<-h,Nat.min_self]at this;simpa using this
theorem qdp{xs ys:LR}(h:xs.length≠ys.length):qkI xs ys=false:=by
 have:=qdq xs ys;rw[<-this];simp[h]
theorem in1_units(A:Around):A.in1.units=A.units+1:=rfl
theorem qgm:∀ (n:Nat) (x y:RV) (A:Around) (s:Shared) (u w:Value),okR n x=true->okR n y=true->Den s.heap x u->Den s.heap y w->A.units+n<cLine->EqAt A s u w (eqR x y):=by
 intro n
 induction n with
 |zero=>
  intro x y A s u w ox oy dx dy hu;cases x<;>cases y<;>first|(simp only[Den]at dx;done)|(simp only[Den]at dy;done)|(simp[okR]at ox;done)|(simp[okR]at oy;done)|(simp only[Den]at dx dy;(first|subst dx|obtain⟨t1,rfl⟩:=dx|obtain⟨a1,its1,rfl,p1,d1⟩:=dx);(first|subst dy|obtain⟨t2,rfl⟩:=dy|obtain⟨a2,its2,rfl,p2,d2⟩:=dy);first|(simp only[eqR,Bool.not_false,Bool.not_true];with_reducible first|exact EqAt.same _|exact EqAt.none_bool _|exact EqAt.none_int _ _|exact EqAt.none_str _ _|exact EqAt.bool_none _|exact EqAt.bool_bool _ _|exact EqAt.bool_int _ _ _|exact EqAt.bool_str _ _ _|exact EqAt.int_none _ _|exact EqAt.int_bool _ _ _|exact EqAt.int_int _ _ _ _|exact EqAt.int_str _ _ _ _|exact EqAt.str_none _ _|exact EqAt.str_bool _ _ _|exact EqAt.str_int _ _ _ _|exact EqAt.str_str _ _ _ _))
 |succ n ih=>
  intro x y A s u w ox oy dx dy hu;have hu0:A.units<cLine:=by omega
  have item:∀ (xs ys:LR) (us ws:LVl),xs.all (okR n)=true->ys.all (okR n)=true->Dens s.heap xs us->Dens s.heap ys ws->
   ∀ j (j1:j<us.toArray.size) (j2:j<ws.toArray.size),EqAt A.in1 s us.toArray[j] ws.toArray[j] (qiH xs ys j):=fun xs ys us ws o1 o2 d1 d2 j j1 j2=>by
   obtain⟨a1,b1⟩:=d1.get (j:=j) (u:=us.toArray[j]) (by simp)
   obtain⟨a2,b2⟩:=d2.get (j:=j) (u:=ws.toArray[j]) (by simp)
   exact ih _ _ A.in1 s _ _ (wav.mp o1 _ b1) (wav.mp o2 _ b2) a1 a2 (by rw[in1_units];omega)
  have same_EqAt_tup:∀ (xs ys:LR) (a a':Addr) (its its':LVl),s.heap.IsTuple a its.toArray->s.heap.IsTuple a' its'.toArray->Dens s.heap xs its->Dens s.heap ys its'->okR (n+1) (.tup xs)=true->okR (n+1) (.tup ys)=true->EqAt A s (.ref a) (.ref a') (eqR (RV.tup xs) (RV.tup ys)):=by
   intro xs ys a a' its its' p p' d d' ox oy
   by_cases ha:a=a'
   · subst ha
     obtain rfl:=qlc p p';have e:RV.tup xs=RV.tup ys:=qjg (n+1) _ _ (.ref a) ox oy (by simp only[Den];exact⟨a,its,rfl,p,d⟩) (by simp only[Den];exact⟨a,its,rfl,p,d'⟩)
     rw[<-e,qd8 _ ⟨_,ox⟩];exact EqAt.same _
   refine EqAt.of_refs ha ?_;rw[eqR,<-qdq,d.length,d'.length];have:=RcAt.tuples p p' hu0 (item xs ys its its' ox oy d d');simpa using this
  have same_EqAt_ls:∀ (xs ys:LR) (a a':Addr) (its its':LVl),s.heap.IsList a its.toArray->s.heap.IsList a' its'.toArray->Dens s.heap xs its->Dens s.heap ys its'->okR (n+1) (.ls xs)=true->okR (n+1) (.ls ys)=true->EqAt A s (.ref a) (.ref a') (eqR (RV.ls xs) (RV.ls ys)):=by
   intro xs ys a a' its its' p p' d d' ox oy
   by_cases ha:a=a'
   · subst ha
     obtain rfl:=ql9 p p';have e:RV.ls xs=RV.ls ys:=qjg (n+1) _ _ (.ref a) ox oy (by simp only[Den];exact⟨a,its,rfl,p,d⟩) (by simp only[Den];exact⟨a,its,rfl,p,d'⟩)
     rw[<-e,qd8 _ ⟨_,ox⟩];exact EqAt.same _
   refine EqAt.of_refs ha ?_;rw[eqR]
   by_cases hz:xs.length=ys.length
   · rw[<-qeR hz,d.length]
     have:=RcAt.lists p p' (by simp[<-d.length,<-d'.length,hz]) hu0 (item xs ys its its' ox oy d d')
     simpa using this
   · rw[qdp hz]
     exact RcAt.lists_lengths p p' (by simp[<-d.length,<-d'.length,hz]) hu0
  cases x<;>cases y<;>first|(simp only[Den]at dx;done)|(simp only[Den]at dy;done)|(simp only[Den]at dx dy;(first|subst dx|obtain⟨t1,rfl⟩:=dx|obtain⟨a1,its1,rfl,p1,d1⟩:=dx);(first|subst dy|obtain⟨t2,rfl⟩:=dy|obtain⟨a2,its2,rfl,p2,d2⟩:=dy);first|with_reducible exact same_EqAt_tup _ _ _ _ _ _ p1 p2 d1 d2 ox oy|with_reducible exact same_EqAt_ls _ _ _ _ _ _ p1 p2 d1 d2 ox oy|(simp only[eqR,Bool.not_false,Bool.not_true];with_reducible first|exact EqAt.same _|exact EqAt.none_bool _|exact EqAt.none_int _ _|exact EqAt.none_str _ _|exact EqAt.bool_none _|exact EqAt.bool_bool _ _|exact EqAt.bool_int _ _ _|exact EqAt.bool_str _ _ _|exact EqAt.int_none _ _|exact EqAt.int_bool _ _ _|exact EqAt.int_int _ _ _ _|exact EqAt.int_str _ _ _ _|exact EqAt.str_none _ _|exact EqAt.str_bool _ _ _|exact EqAt.str_int _ _ _ _|exact EqAt.str_str _ _ _ _|exact EqAt.tuple_none p1 hu0|exact EqAt.tuple_bool _ p1 hu0|exact EqAt.tuple_int _ _ p1 hu0|exact EqAt.tuple_str _ _ p1 hu0|exact EqAt.list_none p1 hu0|exact EqAt.list_bool _ p1 hu0|exact EqAt.list_int _ _ p1 hu0|exact EqAt.list_str _ _ p1 hu0|exact EqAt.none_tuple p2 hu0|exact EqAt.bool_tuple _ p2 hu0|exact EqAt.int_tuple _ _ p2 hu0|exact EqAt.str_tuple _ _ p2 hu0|exact EqAt.none_list p2 hu0|exact EqAt.bool_list _ p2 hu0|exact EqAt.int_list _ _ p2 hu0|exact EqAt.str_list _ _ p2 hu0|exact EqAt.tuple_list p1 p2 hu0|exact EqAt.list_tuple p1 p2 hu0))
theorem qke(n:Nat)(x y:RV)(A:Around)(s:Shared)(u w:Value)(ox:okR (n+1) x=true)(oy:okR (n+1) y=true)(dx:Den s.heap x u)(dy:Den s.heap y w)(hu:A.units+(n+1)<cLine):RcNeAt A s u w (!eqR x y):=by
 have hu0:A.units<cLine:=by omega
 have item:∀ (xs ys:LR) (us ws:LVl),xs.all (okR n)=true->ys.all (okR n)=true->Dens s.heap xs us->Dens s.heap ys ws->
  ∀ j (j1:j<us.toArray.size) (j2:j<ws.toArray.size),EqAt A.in1 s us.toArray[j] ws.toArray[j] (qiH xs ys j):=fun xs ys us ws o1 o2 d1 d2 j j1 j2=>by
  obtain⟨a1,b1⟩:=d1.get (j:=j) (u:=us.toArray[j]) (by simp)
  obtain⟨a2,b2⟩:=d2.get (j:=j) (u:=ws.toArray[j]) (by simp)
  exact qgm n _ _ A.in1 s _ _ (wav.mp o1 _ b1) (wav.mp o2 _ b2) a1 a2 (by rw[in1_units];omega)
 have same_RcNeAt_tup:∀ (xs ys:LR) (a a':Addr) (its its':LVl),s.heap.IsTuple a its.toArray->s.heap.IsTuple a' its'.toArray->Dens s.heap xs its->Dens s.heap ys its'->okR (n+1) (.tup xs)=true->okR (n+1) (.tup ys)=true->RcNeAt A s (.ref a) (.ref a') (!eqR (RV.tup xs) (RV.tup ys)):=by
  intro xs ys a a' its its' p p' d d' ox oy;rw[eqR,<-qdq,d.length,d'.length];have:=RcNeAt.tuples p p' hu0 (item xs ys its its' ox oy d d');simpa using this
 have same_RcNeAt_ls:∀ (xs ys:LR) (a a':Addr) (its its':LVl),s.heap.IsList a its.toArray->s.heap.IsList a' its'.toArray->Dens s.heap xs its->Dens s.heap ys its'->okR (n+1) (.ls xs)=true->okR (n+1) (.ls ys)=true->RcNeAt A s (.ref a) (.ref a') (!eqR (RV.ls xs) (RV.ls ys)):=by
  intro xs ys a a' its its' p p' d d' ox oy;rw[eqR]
  by_cases hz:xs.length=ys.length
  · rw[<-qeR hz,d.length]
    have:=RcNeAt.lists p p' (by simp[<-d.length,<-d'.length,hz]) hu0 (item xs ys its its' ox oy d d')
    simpa using this
  · rw[qdp hz]
    exact RcNeAt.lists_lengths p p' (by simp[<-d.length,<-d'.length,hz]) hu0
 cases x<;>cases y<;>first|(simp only[Den]at dx;done)|(simp only[Den]at dy;done)|(simp only[Den]at dx dy;(first|subst dx|obtain⟨t1,rfl⟩:=dx|obtain⟨a1,its1,rfl,p1,d1⟩:=dx);(first|subst dy|obtain⟨t2,rfl⟩:=dy|obtain⟨a2,its2,rfl,p2,d2⟩:=dy);first|with_reducible exact same_RcNeAt_tup _ _ _ _ _ _ p1 p2 d1 d2 ox oy|with_reducible exact same_RcNeAt_ls _ _ _ _ _ _ p1 p2 d1 d2 ox oy|(simp only[eqR,Bool.not_false,Bool.not_true];with_reducible first|exact RcNeAt.none_none|exact RcNeAt.none_bool _|exact RcNeAt.none_int _ _|exact RcNeAt.none_str _ _|exact RcNeAt.bool_none _|exact RcNeAt.bool_bool _ _|exact RcNeAt.bool_int _ _ _|exact RcNeAt.bool_str _ _ _|exact RcNeAt.int_none _ _|exact RcNeAt.int_bool _ _ _|exact RcNeAt.int_int _ _ _ _|exact RcNeAt.int_str _ _ _ _|exact RcNeAt.str_none _ _|exact RcNeAt.str_bool _ _ _|exact RcNeAt.str_int _ _ _ _|exact RcNeAt.str_str _ _ _ _|exact RcNeAt.tuple_none p1 hu0|exact RcNeAt.tuple_bool _ p1 hu0|exact RcNeAt.tuple_int _ _ p1 hu0|exact RcNeAt.tuple_str _ _ p1 hu0|exact RcNeAt.list_none p1 hu0|exact RcNeAt.list_bool _ p1 hu0|exact RcNeAt.list_int _ _ p1 hu0|exact RcNeAt.list_str _ _ p1 hu0|exact RcNeAt.none_tuple p2 hu0|exact RcNeAt.bool_tuple _ p2 hu0|exact RcNeAt.int_tuple _ _ p2 hu0|exact RcNeAt.str_tuple _ _ p2 hu0|exact RcNeAt.none_list p2 hu0|exact RcNeAt.bool_list _ p2 hu0|exact RcNeAt.int_list _ _ p2 hu0|exact RcNeAt.str_list _ _ p2 hu0|exact RcNeAt.tuple_list p1 p2 hu0|exact RcNeAt.list_tuple p1 p2 hu0))
theorem qnV(n:Nat)(x y:RV)(A:Around)(s:Shared)(u w:Value)(ox:okR (n+1) x=true)(oy:okR (n+1) y=true)(dx:Den s.heap x u)(dy:Den s.heap y w)(hu:A.units+(n+1)<cLine):RcAt A s u w (eqR x y):=by
 have hu0:A.units<cLine:=by omega
 have item:∀ (xs ys:LR) (us ws:LVl),xs.all (okR n)=true->ys.all (okR n)=true->Dens s.heap xs us->Dens s.heap ys ws->
  ∀ j (j1:j<us.toArray.size) (j2:j<ws.toArray.size),EqAt A.in1 s us.toArray[j] ws.toArray[j] (qiH xs ys j):=fun xs ys us ws o1 o2 d1 d2 j j1 j2=>by
  obtain⟨a1,b1⟩:=d1.get (j:=j) (u:=us.toArray[j]) (by simp)
  obtain⟨a2,b2⟩:=d2.get (j:=j) (u:=ws.toArray[j]) (by simp)
  exact qgm n _ _ A.in1 s _ _ (wav.mp o1 _ b1) (wav.mp o2 _ b2) a1 a2 (by rw[in1_units];omega)
 have same_RcAt_tup:∀ (xs ys:LR) (a a':Addr) (its its':LVl),s.heap.IsTuple a its.toArray->s.heap.IsTuple a' its'.toArray->Dens s.heap xs its->Dens s.heap ys its'->okR (n+1) (.tup xs)=true->okR (n+1) (.tup ys)=true->RcAt A s (.ref a) (.ref a') (eqR (RV.tup xs) (RV.tup ys)):=by
  intro xs ys a a' its its' p p' d d' ox oy;rw[eqR,<-qdq,d.length,d'.length];have:=RcAt.tuples p p' hu0 (item xs ys its its' ox oy d d');simpa using this
 have same_RcAt_ls:∀ (xs ys:LR) (a a':Addr) (its its':LVl),s.heap.IsList a its.toArray->s.heap.IsList a' its'.toArray->Dens s.heap xs its->Dens s.heap ys its'->okR (n+1) (.ls xs)=true->okR (n+1) (.ls ys)=true->RcAt A s (.ref a) (.ref a') (eqR (RV.ls xs) (RV.ls ys)):=by
  intro xs ys a a' its its' p p' d d' ox oy;rw[eqR]
  by_cases hz:xs.length=ys.length
  · rw[<-qeR hz,d.length]
    have:=RcAt.lists p p' (by simp[<-d.length,<-d'.length,hz]) hu0 (item xs ys its its' ox oy d d')
    simpa using this
  · rw[qdp hz]
    exact RcAt.lists_lengths p p' (by simp[<-d.length,<-d'.length,hz]) hu0
 cases x<;>cases y<;>first|(simp only[Den]at dx;done)|(simp only[Den]at dy;done)|(simp only[Den]at dx dy;(first|subst dx|obtain⟨t1,rfl⟩:=dx|obtain⟨a1,its1,rfl,p1,d1⟩:=dx);(first|subst dy|obtain⟨t2,rfl⟩:=dy|obtain⟨a2,its2,rfl,p2,d2⟩:=dy);first|with_reducible exact same_RcAt_tup _ _ _ _ _ _ p1 p2 d1 d2 ox oy|with_reducible exact same_RcAt_ls _ _ _ _ _ _ p1 p2 d1 d2 ox oy|(simp only[eqR,Bool.not_false,Bool.not_true];with_reducible first|exact RcAt.none_none|exact RcAt.none_bool _|exact RcAt.none_int _ _|exact RcAt.none_str _ _|exact RcAt.bool_none _|exact RcAt.bool_bool _ _|exact RcAt.bool_int _ _ _|exact RcAt.bool_str _ _ _|exact RcAt.int_none _ _|exact RcAt.int_bool _ _ _|exact RcAt.int_int _ _ _ _|exact RcAt.int_str _ _ _ _|exact RcAt.str_none _ _|exact RcAt.str_bool _ _ _|exact RcAt.str_int _ _ _ _|exact RcAt.str_str _ _ _ _|exact RcAt.tuple_none p1 hu0|exact RcAt.tuple_bool _ p1 hu0|exact RcAt.tuple_int _ _ p1 hu0|exact RcAt.tuple_str _ _ p1 hu0|exact RcAt.list_none p1 hu0|exact RcAt.list_bool _ p1 hu0|exact RcAt.list_int _ _ p1 hu0|exact RcAt.list_str _ _ p1 hu0|exact RcAt.none_tuple p2 hu0|exact RcAt.bool_tuple _ p2 hu0|exact RcAt.int_tuple _ _ p2 hu0|exact RcAt.str_tuple _ _ p2 hu0|exact RcAt.none_list p2 hu0|exact RcAt.bool_list _ p2 hu0|exact RcAt.int_list _ _ p2 hu0|exact RcAt.str_list _ _ p2 hu0|exact RcAt.tuple_list p1 p2 hu0|exact RcAt.list_tuple p1 p2 hu0))
section
variable {X:Cx}
theorem qph{f:Value->Value->Sem Value}{r:R2}{rr:RR2}(h:OpR X f r)(ri:∀ (i j:Int) M Q (H:Hp) (Q0:VK),rr (.int i) (.int j) M Q->(∀ z:RV,Q z M->∀ v,Rep X.K H z v->Q0 v H)->r (.int i) (.int j) H Q0)
 (no:∀ x y M Q,rr x y M Q->∃ i j,x= .int i/\y= .int j):ROp X f rr:=by
 intro pins s σ H x y v u Q0 I rx ry h';obtain⟨a,b,M,Q,ra,rb,hv,hq,hk⟩:=h';obtain⟨i,j,rfl,rfl⟩:=no a b M Q hq;simp only[Rep]at ra rb;subst ra;subst rb;exact h pins s σ H _ _ v u Q0 I rx ry (ri i j M Q H Q0 hq fun z q v' rz=>hk z M v' H q (.refl H) hv rz)
def qlL(C:Int->Int->Prop)(g:Int->Int->RV):RR2:=fun x y M Q=>match x,y with| .int i,.int j=>C i j/\Q (g i j) M|_,_=>False
def qiF(g:Int->Int->RV):RR2:=fun x y M Q=>match x,y with| .int i,.int j=>Q (g i j) M|_,_=>False
theorem qf1{C:Int->Int->Prop}{g:Int->Int->RV}(x y:RV)(M:RM)(Q:RVK)(h:qlL C g x y M Q):∃ i j,x= .int i/\y= .int j:=by
 unfold qlL at h;split at h
 · exact⟨_,_,rfl,rfl⟩
 · exact h.elim
theorem qcF{g:Int->Int->RV}(x y:RV)(M:RM)(Q:RVK)(h:qiF g x y M Q):∃ i j,x= .int i/\y= .int j:=by
 unfold qiF at h;split at h
 · exact⟨_,_,rfl,rfl⟩
 · exact h.elim
abbrev qAD:RR2:=qiF fun i j=>.int (i-j)
theorem qDy:ROp X (binaryOp .Sub) qAD:=qph qtU (fun i j M Q H Q0 h k=>⟨i,j,rfl,rfl,k _ h _ (by simp only[Rep])⟩) qcF
abbrev qAO:RR2:=qlL (fun _ j=>0<j) fun i j=>.int (i % j)
theorem qDE:ROp X (binaryOp .Mod) qAO:=qph qtY (fun i j M Q H Q0 h k=>⟨i,j,rfl,rfl,h.1,k _ h.2 _ (by simp only[Rep])⟩) qf1
abbrev qAX:RR2:=qlL (fun _ j=>0<j/\j<1073741824) fun i j=>.int (i / j)
theorem qDH:ROp X (binaryOp .FloorDiv) qAX:=qph qq4 (fun i j M Q H Q0 h k=>⟨i,j,rfl,rfl,h.1,k _ h.2 _ (by simp only[Rep])⟩) qf1
abbrev qAH:RR2:=qlL (fun i j=>0<=j/\j<=1000000/\i.natAbs<2 ^ 64) fun i j=>.int (i ^ j.toNat)
theorem qDA:ROp X (binaryOp .Pow) qAH:=qph qtW (fun i j M Q H Q0 h k=>⟨i,j,rfl,rfl,h.1,k _ h.2 _ (by simp only[Rep])⟩) qf1
abbrev rLt:RR2:=qiF fun i j=>.bl (decide (i<j))
theorem olt:ROp X (compareOp .Lt) rLt:=qph qxb (fun i j M Q H Q0 h k=>⟨i,j,rfl,rfl,k _ h _ (by simp only[Rep])⟩) qcF
abbrev rLe:RR2:=qiF fun i j=>.bl (decide (i<=j))
theorem ole:ROp X (compareOp .LtE) rLe:=qph qxc (fun i j M Q H Q0 h k=>⟨i,j,rfl,rfl,k _ h _ (by simp only[Rep])⟩) qcF
abbrev rGt:RR2:=qiF fun i j=>.bl (decide (j<i))
theorem ogt:ROp X (compareOp .Gt) rGt:=qph qxd (fun i j M Q H Q0 h k=>⟨i,j,rfl,rfl,k _ h _ (by simp only[Rep])⟩) qcF
abbrev rGe:RR2:=qiF fun i j=>.bl (decide (j<=i))
theorem oge:ROp X (compareOp .GtE) rGe:=qph qxe (fun i j M Q H Q0 h k=>⟨i,j,rfl,rfl,k _ h _ (by simp only[Rep])⟩) qcF
def qs9:RV->RM->RVK->Prop:=fun x M Q=>match x with| .int i=>Q (.int (-i)) M|_=>False
theorem qDB:UnR X (unaryOp .USub) (upU X.K qs9):=by
 intro pins s σ H x v Q0 I rx h;obtain⟨a,M,Q,ra,hv,hq,hk⟩:=h;cases a with
 |int i=>simp only[Rep]at ra;exact qsC pins s σ H x v Q0 I rx ⟨i,ra,hk _ M _ H hq (.refl H) hv (by simp only[Rep])⟩
 |_=>exact(show False from hq).elim
def qAN:RR2:=fun x y M Q=>match x,y with
 | .int i,.int j=>CMul i j/\Q (.int (i*j)) M
 | .ref a,.int k=>∃ xs,M a=some (.lst xs)/\-(2 ^ 63)<=k/\k<2 ^ 63/\xs.length*k.toNat<=sizeLine/\Q (.ls (List.replicate k.toNat xs).flatten) M
 |_,_=>False
theorem qgR{K:Frg}{H:Hp}{xs:LR}{vs:LV}(r:Reps K H xs vs):∀ n:Nat,Reps K H (List.replicate n xs).flatten (List.replicate n vs).flatten
 |0=>by simpa using Reps.nil
 |n+1=>by
  rw[waJ,waT,waJ,waT];exact r.append (qgR r n)
theorem qDD:ROp X (binaryOp .Mult) qAN:=by
 intro pins s σ H x y v u Q0 I rx ry h;obtain⟨a,b,M,Q,ra,rb,hv,hq,hk⟩:=h;cases a with
 |int i=>
  cases b with
  |int j=>simp only[Rep]at ra rb;exact qtX pins s σ H x y v u Q0 I rx ry ⟨i,j,ra,rb,hq.1,hk _ M _ H hq.2 (.refl H) hv (by simp only[Rep])⟩
  |_=>exact(show False from hq).elim
 |ref p=>
  cases b with
  |int k=>
   simp only[Rep]at ra rb;obtain⟨xs,hm,h1,h2,h3,h4⟩:=hq;obtain⟨ho,e,r⟩:=hv p _ hm;obtain⟨vs,rfl,rr⟩:=r;refine thn (qtV pins s σ H x y v u (fun v H'=>∃ H1 p xs,v= .ref p/\H1 p=none/\H'=upd H1 p (.lst xs)/\∀ o,Q0 (.ref p) (upd H1 p (.frz o (.lst xs)))) I rx ry ⟨p,k,vs,ra,rb,e,h1,h2,by rw[<-rr.length];exact h3,fun q hq=>⟨H,q,_,rfl,hq,rfl,fun o=>?_⟩⟩) fun _ _ e=>frozen e
   exact hk _ M _ _ h4 (Ext.new hq) (hv.new hq) (qfq hq (qgR rr _))
  |_=>exact(show False from hq).elim
 |_=>cases b<;>exact(show False from hq).elim
def qA0:RR2:=fun x y M Q=>match x,y with
 | .int i,.int j=>Q (.int (i+j)) M
 | .str i,.str j=>i.length+j.length<=sizeLine/\Q (.str (i++j)) M
 | .tup xs,.tup ys=>xs.length+ys.length<=sizeLine/\Q (.tup (xs++ys)) M
 | .ls xs,.ls ys=>xs.length+ys.length<=sizeLine/\Q (.ls (xs++ys)) M
 |_,_=>False
theorem qoX{prog:Program}{w:World}{A:Around}{E:VSP}{s:Shared}{t b:Addr}{ws:LVl}{Q:VSP}(ht:IsTup s.heap t ([]:LVl).toArray)(hb:IsTup s.heap b ws.toArray)(h:Q (.ref b) s):
 wpAny (model prog w) A (binaryOp .Add (.ref t) (.ref b)) Q E s:=by
 obtain⟨⟨cls,dd,data,sl⟩,ho,hc,n,hd⟩:=id ht;obtain⟨⟨cls2,dd2,data2,sl2⟩,ho2,hc2,n2,hd2⟩:=id hb;simp only at hc hd hc2 hd2;subst hc hd hc2 hd2;exact concat_meets ⟨_,ho,rfl⟩ ⟨_,ho2,rfl⟩ noFill_tuple_add seq_tuple_add PySem.F.slot_tuple_add PySem.F.entry_tuple_add (PySem.F.args_tuple_add_2 _ _)
  (tuple_addW0 t b [].toArray ws.toArray n n2 dd dd2 sl sl2 (by simp)) ⟨ho,ho2,h⟩
theorem qrV{prog:Program}{w:World}{A:Around}{E:VSP}{s:Shared}{l b:Addr}{vs ws:LVl}{Q:VSP}(hl:s.heap.IsList l vs.toArray)(hb:s.heap.IsList b ws.toArray)
 (h:Q (.ref s.heap.objs.size) { s with heap:=s.heap.push { cls:=.type "list",data:=.seq (vs++ws).toArray } }) (hsz:vs.length+ws.length<=sizeLine):
 wpAny (model prog w) A (binaryOp .Add (.ref l) (.ref b)) Q E s:=by
 obtain⟨⟨cls,dd,data,sl⟩,ho,hc,n,hd⟩:=id hl;obtain⟨⟨cls2,dd2,data2,sl2⟩,ho2,hc2,n2,hd2⟩:=id hb;simp only at hc hd hc2 hd2;subst hc hd hc2 hd2;have e:vs.toArray++ws.toArray=(vs++ws).toArray:=by simp
 refine concat_meets ⟨_,ho,rfl⟩ ⟨_,ho2,rfl⟩ noFill_list_add seq_list_add PySem.F.slot_list_add PySem.F.entry_list_add (PySem.F.args_list_add_2 _ _) (list_addW l b vs.toArray ws.toArray n n2 dd dd2 sl sl2 (by simpa using hsz)) ⟨ho,ho2,?_⟩
 rw[e];exact h
theorem qDI:ROp X (binaryOp .Add) qA0:=by
 intro pins s σ H x y v u Q0 I rx ry h;obtain⟨a,b,M,Q,ra,rb,hv,hq,hk⟩:=h;cases a with
 |int i=>
  cases b with
  |int j=>simp only[Rep]at ra rb;exact qt0 pins s σ H x y v u Q0 I rx ry ⟨i,j,ra,rb,hk _ M _ H hq (.refl H) hv (by simp only[Rep])⟩
  |_=>exact(show False from hq).elim
 |str i=>
  cases b with
  |str j=>simp only[Rep]at ra rb;exact qkn pins s σ H x y v u Q0 I rx ry ⟨i,j,ra,rb,hq.1,hk _ M _ H hq.2 (.refl H) hv (by simp only[Rep])⟩
  |_=>exact(show False from hq).elim
 |tup xs=>
  cases b with
  |tup ys=>
   obtain⟨hz,hq⟩:=hq;simp only[Rep]at ra rb;obtain⟨p,vs,rfl,hp,hr⟩:=ra;obtain⟨q,ws,rfl,hp2,hr2⟩:=rb
   by_cases hn:vs= []
   · subst hn
     have hx:xs= []:=by have:=hr.length;simpa using this
     subst hx;cases rx;cases ry;obtain⟨its,r1,p1,_⟩:=I.tuple (SqT.of hp);obtain⟨its2,r2,p2,_⟩:=I.tuple (SqT.of hp2);cases r1;exact qoX p1 p2 ⟨.ref q,H,I,rfl,hk _ M _ H hq (.refl H) hv (by simp only[Rep,waI];exact⟨q,ws,rfl,hp2,hr2⟩)⟩
   · refine qq5 pins s σ H _ _ v u Q0 I rx ry ⟨p,q,vs,ws,rfl,rfl,hp,hp2,hn,by rw[<-hr.length,<-hr2.length];exact hz,fun e=>?_,fun e l hl=>?_⟩
     · subst e
       have hy:ys= []:=by have:=hr2.length;simpa using this
       subst hy;exact hk _ M _ H hq (.refl H) hv (by simp only[Rep,waQ];exact⟨p,vs,rfl,hp,hr⟩)
     · exact hk _ M _ _ hq (Ext.new hl) (hv.new hl) (qcq hl (hr.append hr2))
  |_=>exact(show False from hq).elim
 |ls xs=>
  cases b with
  |ls ys=>
   obtain⟨hz,hq⟩:=hq;simp only[Rep]at ra rb;obtain⟨p,vs,rfl,hp,hr⟩:=ra;obtain⟨q,ws,rfl,hp2,hr2⟩:=rb;cases rx;cases ry;obtain⟨its,r1,p1,z1⟩:=I.list hp.sq;obtain⟨its2,r2,p2,z2⟩:=I.list hp2.sq;have hz':vs.length+ws.length<=sizeLine:=by rw[<-hr.length,<-hr2.length];exact hz
   refine thn (qrV (Q:=EP X pins σ (fun v H'=>∃ H1 p xs,v= .ref p/\H1 p=none/\H'=upd H1 p (.lst xs)/\∀ o,Q0 (.ref p) (upd H1 p (.frz o (.lst xs))))) p1.isList p2.isList ?_ (by rw[<-r1.length,<-r2.length];exact hz')) fun _ _ e=>frozen e
   have hf:=I.hok.fresh (wac s.heap.objs.size);refine⟨.ref s.heap.objs.size,upd H s.heap.objs.size (.lst (vs++ws)),I.laid (t':=s.toks) (fun b ob q=>Heap.get?_push_of_some _ q) (wac _) ?_,rfl,H,_,_,rfl,hf,rfl,fun o=>?_⟩
   · exact⟨by rw[wad];exact hz',_,0,r1.append r2,Heap.get?_push_size _ rfl⟩
   · exact hk _ M _ _ hq (Ext.new hf) (hv.new hf) (qfq hf (hr.append hr2))
  |_=>exact(show False from hq).elim
 |_=>cases b<;>exact(show False from hq).elim
def isN:RV->Bool
 | .non=>true
 |_=>false
theorem qmp{K:Frg}{H:Hp}:∀ {a:RV} {x:V},Rep K H a x->decide (x= .non)=isN a:=by
 intro a x h;cases a with
 |tup xs=>simp only[Rep]at h;obtain⟨p,vs,rfl,_⟩:=h;simp[isN]
 |ls xs=>simp only[Rep]at h;obtain⟨p,vs,rfl,_⟩:=h;simp[isN]
 |_=>simp only[Rep]at h;subst h;simp[isN]
def rIs:RR2:=fun x y M Q=>match y with| .non=>Q (.bl (isN x)) M|_=>False
def qpo:RR2:=fun x y M Q=>match y with| .non=>Q (.bl (!isN x)) M|_=>False
theorem ois:ROp X (compareOp .Is) rIs:=by
 intro pins s σ H x y v u Q0 I rx ry h;obtain⟨a,b,M,Q,ra,rb,hv,hq,hk⟩:=h;cases b with
 |non=>simp only[Rep]at rb;exact qtZ pins s σ H x y v u Q0 I rx ry ⟨rb,by rw[qmp ra];exact hk _ M _ H hq (.refl H) hv (by simp only[Rep])⟩
 |_=>exact(show False from hq).elim
theorem qt3:ROp X (compareOp .IsNot) qpo:=by
 intro pins s σ H x y v u Q0 I rx ry h;obtain⟨a,b,M,Q,ra,rb,hv,hq,hk⟩:=h;cases b with
 |non=>simp only[Rep]at rb;exact qq3 pins s σ H x y v u Q0 I rx ry ⟨rb,by rw[qmp ra];exact hk _ M _ H hq (.refl H) hv (by simp only[Rep])⟩
 |_=>exact(show False from hq).elim
noncomputable def rIx:RR2:=fun x y M Q=>match x,y with
 | .tup xs,.int i=>match atI xs i with|some v=>Q v M|none=>False
 | .ls xs,.int i=>match atI xs i with|some v=>Q v M|none=>False
 | .ref a,.int i=>match M a with
  |some (.lst xs)=>match atI xs i with|some v=>Q v M|none=>False
  |_=>False
 | .str z,.int i=>z.length<=sizeLine/\match atI z.cps.toList i with|some c=>Q (.str ⟨#[c]⟩) M|none=>False
 |_,_=>False
theorem oix:IxR X (upO X.K rIx):=by
 intro value slice pins s σ H x y v u Q0 I rx ry h hs;obtain⟨a,b,M,Q,ra,rb,hv,hq,hk⟩:=h;cases b with
 |int i=>
  simp only[Rep]at rb;cases a with
  |tup xs=>
   simp only[Rep]at ra;obtain⟨p,vs,rfl,hp,hr⟩:=ra;simp only[rIx]at hq;cases e:atI xs i with
   |none=>rw[e]at hq;exact hq.elim
   |some z=>
    rw[e]at hq;obtain⟨w,e1,r1⟩:=hr.atI e;exact quu value slice pins s σ H _ y v u Q0 I rx ry ⟨p,vs,i,w,rfl,rb,hp,e1,hk _ M _ H hq (.refl H) hv r1⟩ hs
  |ls xs=>
   simp only[Rep]at ra;obtain⟨p,vs,rfl,hp,hr⟩:=ra;simp only[rIx]at hq;cases e:atI xs i with
   |none=>rw[e]at hq;exact hq.elim
   |some z=>
    rw[e]at hq;obtain⟨w,e1,r1⟩:=hr.atI e;exact qml value slice pins s σ H _ y v u Q0 I rx ry ⟨p,vs,i,w,rfl,rb,hp.sq,e1,hk _ M _ H hq (.refl H) hv r1⟩ hs
  |ref p=>
   simp only[Rep]at ra;simp only[rIx]at hq;split at hq
   · rename_i xs em
     obtain⟨ho,e,r⟩:=hv p _ em;obtain⟨vs,rfl,hr⟩:=r;cases e2:atI xs i with
     |none=>rw[e2]at hq;exact hq.elim
     |some z=>
      rw[e2]at hq;obtain⟨w,e1,r1⟩:=hr.atI e2;exact qml value slice pins s σ H x y v u Q0 I rx ry ⟨p,vs,i,w,ra,rb,SqL.of e,e1,hk _ M _ H hq (.refl H) hv r1⟩ hs
   · exact hq.elim
  |str z=>
   simp only[Rep]at ra;simp only[rIx]at hq;obtain⟨hz,hq⟩:=hq;cases e:atI z.cps.toList i with
   |none=>rw[e]at hq;exact hq.elim
   |some c=>
    rw[e]at hq;exact quv value slice pins s σ H x y v u Q0 I rx ry ⟨z,i,c,ra,rb,hz,e,hk _ M _ H hq (.refl H) hv (by simp only[Rep])⟩ hs
  |_=>exact(show False from hq).elim
 |_=>cases a<;>exact(show False from hq).elim
theorem rix{a b:Expr}{ta tb:RTE}{pos:Pos}(ha:RPE X a ta)(hb:RPE X b tb)(hs:qnk b:=by intro _ _;rfl):RPE X (.Subscript a b pos) (rOp rIx ta tb):=PE.imp (qw5 oix ha hb hs) fun _ _ _ h=>qfV h
def qiE:qo5:=fun o i v M Q=>match o,i with
 | .ref p,.int k=>match M p with
  |some (.lst xs)=>match ixN xs.length k with|some j=>Q (put M p (.lst (xs.set j v)))|none=>False
  |_=>False
 |_,_=>False
theorem qw9:qvE X (qsB X.K qiE):=by
 intro pins s σ H o i v ov iv u Q0 I ro ri rv h;obtain⟨a,b,c,M,Q,ra,rb,rc,hv,hq,hk⟩:=h;cases a with
 |ref p=>
  cases b with
  |int k=>
   simp only[Rep]at ra rb;simp only[qiE]at hq;split at hq
   · rename_i xs em
     obtain⟨ho,e,r⟩:=hv p _ em;obtain⟨vs,rfl,hr⟩:=r;cases e2:ixN xs.length k with
     |none=>rw[e2]at hq;exact hq.elim
     |some j=>
      rw[e2]at hq;have ex:Ext H (upd H p (.lst (vs.set j v))):=Ext.write e rfl;exact set_list pins s σ H o i v ov iv u Q0 I ro ri rv ⟨p,vs,k,j,ra,rb,e,by rw[<-hr.length];exact e2,hk _ _ hq ex (hv.write em ⟨_,rfl,Reps.ext ex _ _ (hr.set rc j)⟩)⟩
   · exact hq.elim
  |_=>exact(show False from hq).elim
 |_=>cases b<;>exact(show False from hq).elim
def upC(K:Frg)(r:LR->RM->RVK->Prop):LV->Hp->VK->Prop:=fun vs H Q0=>∃ rs M Q,Reps K H rs vs/\View K H M/\r rs M Q/\UpK K H Q Q0
def qfa(r:LR->RM->RVK->Prop)(t:RTA):RTE:=fun σ M Q=>t σ M fun rs M1=>r rs M1 Q
theorem qgW{K:Frg}{r:LR->RM->RVK->Prop}{t:RTA}{σ0:L2.St}{H:Hp}{Q0:VK}(h:up K (qfa r t) σ0 H Q0):tCB (upC K r) (upA K t) σ0 H Q0:=by
 obtain⟨σ,M,Q,hs,hv,ht,hk⟩:=h;exact⟨σ,M,_,hs,hv,ht,fun rs M1 vs H1 q e1 v1 r1=>⟨rs,M1,Q,r1,v1,q,hk.ext e1⟩⟩
variable {x:Str}{p pos:Pos}{e:Expr}{es:LEx}{t:RTA}{id T:String}{r:LR->RM->RVK->Prop}
theorem qgX(hc:qbe X (.builtin id) (upC X.K r))(hm:X.mg x=none)(hv:bootBuiltins x=some (.builtin id))(ha:RPA X (e::es) t)(hg:Gl X x:=by rfl)(hn:x≠"__name__":=by decide)(hdb:(x==("__debug__":Str))=false:=by decide)
 (he:starEach (e::es) X.env=(false,eval e X.env)::starEach es X.env:=by rfl) (hpl:(backTo pos (starEach es X.env)).any (·.1)=false:=by rfl):RPE X (.Call (.Name x p) (e::es) [] pos) (qfa r t):=
 PE.imp (qoi hc hg hm hv ha hn hdb he hpl) fun _ _ _ h=>qgW h
theorem qpk(hc:qbe X (.type T) (upC X.K r))(hm:X.mg x=none)(hv:bootBuiltins x=some (.type T))(ha:RPA X (e::es) t)(hg:Gl X x:=by rfl)(hn:x≠"__name__":=by decide)(hdb:(x==("__debug__":Str))=false:=by decide)
 (he:starEach (e::es) X.env=(false,eval e X.env)::starEach es X.env:=by rfl) (hpl:(backTo pos (starEach es X.env)).any (·.1)=false:=by rfl):RPE X (.Call (.Name x p) (e::es) [] pos) (qfa r t):=
 PE.imp (qlV hc hg hm hv ha hn hdb he hpl) fun _ _ _ h=>qgW h
theorem Reps.one{K:Frg}{H:Hp}{x:RV}{vs:LV}(h:Reps K H [x] vs):∃ v,vs= [v]/\Rep K H x v:=by
 simp only[Reps]at h;obtain⟨v,r,rfl,h1,rfl⟩:=h;exact⟨v,rfl,h1⟩
theorem Reps.two{K:Frg}{H:Hp}{x y:RV}{vs:LV}(h:Reps K H [x,y] vs):∃ v w,vs= [v,w]/\Rep K H x v/\Rep K H y w:=by
 simp only[Reps]at h;obtain⟨v,r,rfl,h1,w,r',rfl,h2,rfl⟩:=h;exact⟨v,w,rfl,h1,h2⟩
def qvo:LR->RM->RVK->Prop:=fun rs M Q=>match rs with
 | [.tup xs]=>Q (.int xs.length) M
 | [.ls xs]=>Q (.int xs.length) M
 | [.str z]=>z.length<=sizeLine/\Q (.int z.length) M
 | [.ref a]=>match M a with|some (.lst xs)=>Q (.int xs.length) M|_=>False
 |_=>False
theorem qA9:qbe X (.builtin "len") (upC X.K qvo):=by
 intro pins s σ H xs us Q0 I rl h;obtain⟨rs,M,Q,rr,hv,hq,hk⟩:=h;unfold qvo at hq;split at hq
 · rename_i ys
   obtain⟨v,rfl,r1⟩:=rr.one;simp only[Rep]at r1;obtain⟨q,vs,rfl,hp,hr⟩:=r1;exact qb7 pins s σ H _ us Q0 I rl ⟨q,vs,rfl,.inr hp,by rw[<-hr.length];exact hk _ M _ H hq (.refl H) hv (by simp only[Rep])⟩
 · rename_i ys
   obtain⟨v,rfl,r1⟩:=rr.one;simp only[Rep]at r1;obtain⟨q,vs,rfl,hp,hr⟩:=r1;exact qb7 pins s σ H _ us Q0 I rl ⟨q,vs,rfl,.inl hp.sq,by rw[<-hr.length];exact hk _ M _ H hq (.refl H) hv (by simp only[Rep])⟩
 · rename_i z
   obtain⟨v,rfl,r1⟩:=rr.one;simp only[Rep]at r1;subst r1;exact qhY pins s σ H _ us Q0 I rl ⟨z,rfl,hq.1,hk _ M _ H hq.2 (.refl H) hv (by simp only[Rep])⟩
 · rename_i a
   obtain⟨v,rfl,r1⟩:=rr.one;simp only[Rep]at r1;subst r1;split at hq
   · rename_i ys em
     obtain⟨ho,e,r⟩:=hv a _ em;obtain⟨vs,rfl,hr⟩:=r;exact qb7 pins s σ H _ us Q0 I rl ⟨a,vs,rfl,.inl (SqL.of e),by rw[<-hr.length];exact hk _ M _ H hq (.refl H) hv (by simp only[Rep])⟩
   · exact hq.elim
 · exact hq.elim
def qlH:LR->RM->RVK->Prop:=fun rs M Q=>match rs with
 | [.tup xs]=>Q (.tup xs) M
 | [.ls xs]=>Q (.tup xs) M
 | [.ref a]=>match M a with|some (.lst xs)=>Q (.tup xs) M|_=>False
 |_=>False
theorem quU:qbe X (.type "tuple") (upC X.K qlH):=by
 intro pins s σ H xs us Q0 I rl h;obtain⟨rs,M,Q,rr,hv,hq,hk⟩:=h;unfold qlH at hq;split at hq
 · rename_i ys
   obtain⟨v,rfl,r1⟩:=rr.one;simp only[Rep]at r1;obtain⟨q,vs,rfl,hp,hr⟩:=r1;exact qbQ pins s σ H _ us Q0 I rl ⟨q,vs,rfl,.inr ⟨hp,hk _ M _ H hq (.refl H) hv (by simp only[Rep];exact⟨q,vs,rfl,hp,hr⟩)⟩⟩
 · rename_i ys
   obtain⟨v,rfl,r1⟩:=rr.one;simp only[Rep]at r1;obtain⟨q,vs,rfl,hp,hr⟩:=r1;exact qbQ pins s σ H _ us Q0 I rl ⟨q,vs,rfl,.inl ⟨hp.sq,fun l hl=>hk _ M _ _ hq (Ext.new hl) (hv.new hl) (qcq hl hr)⟩⟩
 · rename_i a
   obtain⟨v,rfl,r1⟩:=rr.one;simp only[Rep]at r1;subst r1;split at hq
   · rename_i ys em
     obtain⟨ho,e,r⟩:=hv a _ em;obtain⟨vs,rfl,hr⟩:=r;exact qbQ pins s σ H _ us Q0 I rl ⟨a,vs,rfl,.inl ⟨SqL.of e,fun l hl=>hk _ M _ _ hq (Ext.new hl) (hv.new hl) (qcq hl hr)⟩⟩
   · exact hq.elim
 · exact hq.elim
end
open HT
section
variable {prog:Program}{w:World}{A:Around}{E:VSP}{s:Shared}
theorem qcy{t sl:Addr}{items:Array Value}{vl vu:Value}{lo hi:Option Int}{Q:VSP}(ht:IsTup s.heap t items)(hs:s.heap.IsSliceOf sl vl vu .none)(pl:IsPart vl lo)(pu:IsPart vu hi)
 (h0:sIx items.size 0 lo=0) (h1:sIx items.size items.size hi=items.size)
 (h:Q (.ref t) s):wpAny (model prog w) A (getItem (.ref t) (.ref sl)) Q E s:=by
 obtain⟨os,hos,hcs,hds⟩:=id hs;have hTs:s.TypeIs (.ref sl) "slice":=⟨os,hos,hcs⟩;unfold getItem
 try with_reducible refine wpAny_holding ?_
 first|refine wpAny_bind (wpAny_pure ?_)|skip
 refine wpAny_bind (wpAny_sequenceKey ht.typeIs (by decide) ?_)
 refine wpAny_bind (wpAny_callSpecial?_slot (name:=Str.ofString "__getitem__") ht.typeIs waA
  (wpAny_call_entry waA ht.typeIs entry_tuple_getitem ?_ (args_tuple_getitem _ _)))
 show wpAny _ _ (Builtin.Tuple.tupleItemsOf (.ref t) >>= _) _ _ s;refine wpAny_bind (tupleItemsOf_ ht ?_);refine wpAny_bind (wpAny_typeOf hTs ?_);rw[if_pos (by decide)]
 refine wpAny_bind (qbR hs pl pu ?_);have hyes:(((sIx items.size 0 lo:Nat):Int)==0&&(1:Int)==1&&(sIx items.size items.size hi-sIx items.size 0 lo)==items.size)=true:=by
  rw[h0,h1];simp
 show wpAny _ _ (if(((sIx items.size 0 lo:Nat):Int)==0&&(1:Int)==1&&(sIx items.size items.size hi-sIx items.size 0 lo)==items.size)=true then _ else _) _ _ s
 rw[if_pos hyes];show wpAny _ _ (Builtin.Tuple.tupleIsExact (.ref t) >>= _) _ _ s;unfold Builtin.Tuple.tupleIsExact;refine wpAny_bind (wpAny_bind (wpAny_typeOf ht.typeIs (wpAny_pure ?_)));rw[if_pos (by decide)]
 refine wpAny_bind (wpAny_rule ?_);refine wpAny_bind (wpAny_pure ?_);exact wpAny_pure ⟨_,rfl,wpAny_pure h⟩
end
section
variable {X:Cx}
abbrev RTO:=RSt->RM->(Option Int->RM->Prop)->Prop
def upP(K:Frg)(t:RTO):TO:=fun σ0 H Q0=>∃ σ M Q,RepSt K H σ σ0/\View K H M/\t σ M Q/\∀ o M' H',Q o M'->Ext H H'->View K H' M'->Q0 o H'
def RPO(X:Cx)(e:Option Expr)(t:RTO):Prop:=PO X e (upP X.K t)
def qAL:RTO:=fun _ M Q=>Q none M
def qtn(t:RTE):RTO:=fun σ M Q=>t σ M fun x M1=>match x with| .int i=>Q (some i) M1|_=>False
theorem PO.imp{e:Option Expr}{t t':TO}(h:PO X e t)(i:∀ σ H Q,t' σ H Q->t σ H Q):PO X e t':=fun pins s σ H Q I w=>h pins s σ H Q I (i σ H Q w)
theorem qw0:RPO X none qAL:=PO.imp qqR fun σ0 H Q0 h=>by
 obtain⟨σ,M,Q,hs,hv,ht,hk⟩:=h;exact hk none M H ht (.refl H) hv
theorem qwX{e:Expr}{te:RTE}(h:RPE X e te):RPO X (some e) (qtn te):=PO.imp (qqQ h) fun σ0 H Q0 h=>by
 obtain⟨σ,M,Q,hs,hv,ht,hk⟩:=h;refine⟨σ,M,_,hs,hv,ht,fun rx M1 x H1 q e1 v1 r1=>?_⟩
 cases rx with
 |int i=>simp only[Rep]at r1;exact⟨i,r1,hk _ M1 H1 q e1 v1⟩
 |_=>exact(show False from q).elim
def qgu(xs:LR)(lo hi:Option Int):LR:=(xs.drop (sIx xs.length 0 lo)).take (sIx xs.length xs.length hi-sIx xs.length 0 lo)
theorem qjt{K:Frg}{H:Hp}{xs:LR}{vs:LV}(r:Reps K H xs vs)(lo hi:Option Int):Reps K H (qgu xs lo hi) (qpV vs lo hi):=by
 unfold qgu qpV;rw[r.length];exact(r.drop _).take _
def qn2:RV->Option Int->Option Int->RM->RVK->Prop:=fun x lo hi M Q=>match x with
 | .tup xs=>Q (.tup (qgu xs lo hi)) M
 | .ls xs=>Q (.ls (qgu xs lo hi)) M
 | .ref a=>match M a with|some (.lst xs)=>Q (.ls (qgu xs lo hi)) M|_=>False
 |_=>False
def upL(K:Frg)(r:RV->Option Int->Option Int->RM->RVK->Prop):V->Option Int->Option Int->Hp->VK->Prop:=fun x lo hi H Q0=>∃ rx M Q,Rep K H rx x/\View K H M/\r rx lo hi M Q/\UpK K H Q Q0
theorem qDz:SlR X (upL X.K qn2):=by
 intro pins s σ H x v vl vu lo hi sl Q0 I rx hs pl pu h;obtain⟨a,M,Q,ra,hv,hq,hk⟩:=h;have lstcase:∀ (p:Addr) (xs:LR) (vs:LV),x= .ref p->SqL X.K H p vs->Reps X.K H xs vs->Q (.ls (qgu xs lo hi)) M->
  ∃ T id,typeLookup (.type T) "__getitem__" =pure (some (.builtin id))/\s.TypeIs v T/\wpAny (model X.prog X.w) X.A (getItem v (.ref sl)) (EP X pins σ Q0) X.xe s:=by
  intro p xs vs ex hp hr hq;obtain⟨T,id,h1,h2,h3⟩:=qqo pins s σ H x v vl vu lo hi sl (fun v H'=>∃ H1 p xs,v= .ref p/\H1 p=none/\H'=upd H1 p (.lst xs)/\∀ o,Q0 (.ref p) (upd H1 p (.frz o (.lst xs)))) I rx hs pl pu
   ⟨p,vs,ex,hp,fun q hq'=>⟨H,q,_,rfl,hq',rfl,fun o=>hk _ M _ _ hq (Ext.new hq') (hv.new hq') (qfq hq' (qjt hr lo hi))⟩⟩
  exact⟨T,id,h1,h2,thn h3 fun _ _ e=>frozen e⟩
 cases a with
 |tup xs=>
  simp only[qn2]at hq;simp only[Rep]at ra;obtain⟨p,vs,rfl,hp,hr⟩:=ra
  by_cases hw:sIx vs.length 0 lo=0/\sIx vs.length vs.length hi=vs.length
  · cases rx
    obtain⟨its,r,ht,hz⟩:=I.tuple (SqT.of hp);have hlen:its.toArray.size=vs.length:=by rw[wak];exact r.length.symm
    refine⟨"tuple",_,PyProof.Rows.slot_tuple_getitem.lookup,ht.typeIs,?_⟩;refine qcy ht hs pl pu (by rw[hlen];exact hw.1) (by rw[hlen];exact hw.2) ⟨.ref p,H,I,rfl,?_⟩
    have e:qgu xs lo hi=xs:=by
     unfold qgu;rw[hr.length,hw.1,hw.2,List.drop_zero,Nat.sub_zero,<-hr.length,List.take_length]
    rw[e]at hq;exact hk _ M _ H hq (.refl H) hv (by simp only[Rep];exact⟨p,vs,rfl,hp,hr⟩)
  · exact qsV pins s σ H _ v vl vu lo hi sl Q0 I rx hs pl pu ⟨p,vs,rfl,hp,hw,fun q hq'=>hk _ M _ _ hq (Ext.new hq') (hv.new hq') (qcq hq' (qjt hr lo hi))⟩
 |ls xs=>
  simp only[qn2]at hq;simp only[Rep]at ra;obtain⟨p,vs,rfl,hp,hr⟩:=ra;exact lstcase p xs vs rfl hp.sq hr hq
 |ref p=>
  simp only[qn2]at hq;simp only[Rep]at ra;split at hq
  · rename_i xs em
    obtain⟨ho,e,r⟩:=hv p _ em;obtain⟨vs,rfl,hr⟩:=r;exact lstcase p xs vs ra (SqL.of e) hr hq
  · exact hq.elim
 |_=>exact(show False from hq).elim
def rSl(te:RTE)(tl th:RTO):RTE:=fun σ M Q=>te σ M fun x M1=>tl σ M1 fun l M2=>th σ M2 fun u M3=>qn2 x l u M3 Q
theorem rsl{e:Expr}{te:RTE}{lo hi:Option Expr}{tl th:RTO}{pos p2:Pos}(he:RPE X e te)(hl:RPO X lo tl)(hu:RPO X hi th):RPE X (.Subscript e (.Slice lo hi none p2) pos) (rSl te tl th):=PE.imp (qoa qDz he hl hu) fun σ0 H Q0 h=>by
 obtain⟨σ,M,Q,hs,hv,ht,hk⟩:=h;refine⟨σ,M,_,hs,hv,ht,fun rx M1 x H1 q e1 v1 r1=>?_⟩
 refine⟨σ,M1,_,hs.ext e1,v1,q,fun l M2 H2 q2 e2 v2=>?_⟩
 refine⟨σ,M2,_,hs.ext (e1.trans e2),v2,q2,fun u M3 H3 q3 e3 v3=>?_⟩
 exact⟨rx,M3,Q,Rep.ext (e2.trans e3) rx x r1,v3,q3,hk.ext ((e1.trans e2).trans e3)⟩
theorem qiZ(K:Frg):PySem.W.kitOne K (.type "NoneType") (.type "int")=some false:=by kernel_rfl
theorem qkw(K:Frg):PySem.W.kitOne K (.type "bool") (.type "int")=some true:=by kernel_rfl
theorem qi2(K:Frg):PySem.W.kitOne K (.type "int") (.type "int")=some true:=by kernel_rfl
theorem qiX(K:Frg):PySem.W.kitOne K (.type "str") (.type "int")=some false:=by kernel_rfl
theorem qiV(K:Frg):PySem.W.kitOne K (.type "tuple") (.type "int")=some false:=by kernel_rfl
theorem qku(K:Frg):PySem.W.kitOne K (.type "list") (.type "int")=some false:=by kernel_rfl
def qpI:RV->Option Bool
 | .non=>some false
 | .bl _=>some true
 | .int _=>some true
 | .str _=>some false
 | .tup _=>some false
 | .ls _=>some false
 |_=>none
theorem qhw(K:Frg):PySem.W.kitOne K (.type "NoneType") (.type "bool")=some false:=by kernel_rfl
theorem qi4(K:Frg):PySem.W.kitOne K (.type "bool") (.type "bool")=some true:=by kernel_rfl
theorem qhz(K:Frg):PySem.W.kitOne K (.type "int") (.type "bool")=some false:=by kernel_rfl
theorem qhu(K:Frg):PySem.W.kitOne K (.type "str") (.type "bool")=some false:=by kernel_rfl
theorem qhs(K:Frg):PySem.W.kitOne K (.type "tuple") (.type "bool")=some false:=by kernel_rfl
theorem qi0(K:Frg):PySem.W.kitOne K (.type "list") (.type "bool")=some false:=by kernel_rfl
def is_bool:RV->Option Bool
 | .non=>some false
 | .bl _=>some true
 | .int _=>some false
 | .str _=>some false
 | .tup _=>some false
 | .ls _=>some false
 |_=>none
theorem qiY(K:Frg):PySem.W.kitOne K (.type "NoneType") (.type "str")=some false:=by kernel_rfl
theorem qkv(K:Frg):PySem.W.kitOne K (.type "bool") (.type "str")=some false:=by kernel_rfl
theorem qi1(K:Frg):PySem.W.kitOne K (.type "int") (.type "str")=some false:=by kernel_rfl
theorem qiW(K:Frg):PySem.W.kitOne K (.type "str") (.type "str")=some true:=by kernel_rfl
theorem qiU(K:Frg):PySem.W.kitOne K (.type "tuple") (.type "str")=some false:=by kernel_rfl
theorem qkt(K:Frg):PySem.W.kitOne K (.type "list") (.type "str")=some false:=by kernel_rfl
def qpH:RV->Option Bool
 | .non=>some false
 | .bl _=>some false
 | .int _=>some false
 | .str _=>some true
 | .tup _=>some false
 | .ls _=>some false
 |_=>none
theorem qgc(K:Frg):PySem.W.kitOne K (.type "NoneType") (.type "tuple")=some false:=by kernel_rfl
theorem qhA(K:Frg):PySem.W.kitOne K (.type "bool") (.type "tuple")=some false:=by kernel_rfl
theorem qgd(K:Frg):PySem.W.kitOne K (.type "int") (.type "tuple")=some false:=by kernel_rfl
theorem qgb(K:Frg):PySem.W.kitOne K (.type "str") (.type "tuple")=some false:=by kernel_rfl
theorem qga(K:Frg):PySem.W.kitOne K (.type "tuple") (.type "tuple")=some true:=by kernel_rfl
theorem qhx(K:Frg):PySem.W.kitOne K (.type "list") (.type "tuple")=some false:=by kernel_rfl
def qjG:RV->Option Bool
 | .non=>some false
 | .bl _=>some false
 | .int _=>some false
 | .str _=>some false
 | .tup _=>some true
 | .ls _=>some false
 |_=>none
theorem qhv(K:Frg):PySem.W.kitOne K (.type "NoneType") (.type "list")=some false:=by kernel_rfl
theorem qi3(K:Frg):PySem.W.kitOne K (.type "bool") (.type "list")=some false:=by kernel_rfl
theorem qhy(K:Frg):PySem.W.kitOne K (.type "int") (.type "list")=some false:=by kernel_rfl
theorem qht(K:Frg):PySem.W.kitOne K (.type "str") (.type "list")=some false:=by kernel_rfl
theorem qhr(K:Frg):PySem.W.kitOne K (.type "tuple") (.type "list")=some false:=by kernel_rfl
theorem qeJ(K:Frg):PySem.W.kitOne K (.type "list") (.type "list")=some true:=by kernel_rfl
def qmn:RV->Option Bool
 | .non=>some false
 | .bl _=>some false
 | .int _=>some false
 | .str _=>some false
 | .tup _=>some false
 | .ls _=>some true
 |_=>none
def tyN:RV->Option String
 | .non=>some "NoneType"
 | .bl _=>some "bool"
 | .int _=>some "int"
 | .str _=>some "str"
 | .tup _=>some "tuple"
 | .ls _=>some "list"
 |_=>none
def qqI(T:String)(test:RV->Option Bool):LR->RM->RVK->Prop:=fun rs M Q=>match rs with
 | [x,.ty T']=>T'=T/\(match test x with|some b=>Q (.bl b) M|none=>False)
 |_=>False
theorem quV{T:String}{test:RV->Option Bool}(ht:∀ a b,test a=some b->∃ n,tyN a=some n/\PySem.W.kitOne X.K (.type n) (.type T)=some b):qbe X (.builtin "isinstance") (upC X.K (qqI T test)):=by
 intro pins s σ H xs us Q0 I rl h;obtain⟨rs,M,Q,rr,hv,hq,hk⟩:=h;unfold qqI at hq;split at hq
 · rename_i a T'
   obtain⟨rfl,hq⟩:=hq;obtain⟨v,w,rfl,r1,r2⟩:=rr.two;obtain⟨u,u',rfl,w1,w2⟩:=vals2 rl;simp only[Rep]at r2;subst r2;obtain rfl:u'=Value.type T':=w2;cases e:test a with
   |none=>rw[e]at hq;exact hq.elim
   |some b=>
    rw[e]at hq;obtain⟨n,en,ek⟩:=ht a b e;have fin:∀ tk,EP X pins σ Q0 (.bool b) { s with toks:=tk }:=fun tk=>⟨.bl b,H,I.tok tk,rfl,hk _ M _ H hq (.refl H) hv (by simp only[Rep])⟩
    cases a with
    |non=>cases en;simp only[Rep]at r1;subst r1;cases(show u=Value.none from w1);exact waU PySem.W.kitx_none I.kIn True.intro ek (fun z=>nomatch z) fin
    |bl y=>cases en;simp only[Rep]at r1;subst r1;cases(show u=Value.bool y from w1);exact waU PySem.W.kitx_bool I.kIn True.intro ek (fun z=>nomatch z) fin
    |int y=>cases en;simp only[Rep]at r1;subst r1;obtain⟨t,q⟩:=(show ∃ t,u=Value.int y t from w1);cases q;exact waU PySem.W.kitx_int I.kIn True.intro ek (fun z=>nomatch z) fin
    |str y=>cases en;simp only[Rep]at r1;subst r1;obtain⟨t,q⟩:=(show ∃ t,u=Value.str y t from w1);cases q;exact waU PySem.W.kitx_str I.kIn True.intro ek (fun z=>nomatch z) fin
    |tup ys=>
     cases en;simp only[Rep]at r1;obtain⟨p,vs,rfl,hp,hr⟩:=r1;cases(show u=Value.ref p from w1)
     obtain⟨its,_,pt,_⟩:=I.tuple (SqT.of hp);obtain⟨o,h1,h2,_⟩:=pt;exact waU PySem.W.kitx_tuple I.kIn ⟨o,h1,h2⟩ ek (fun z=>nomatch z) fin
    |ls ys=>
     cases en;simp only[Rep]at r1;obtain⟨p,vs,rfl,hp,hr⟩:=r1;cases(show u=Value.ref p from w1)
     obtain⟨its,_,pt,_⟩:=I.list hp.sq;obtain⟨o,h1,h2,_⟩:=pt.isList;exact waU PySem.W.kitx_list I.kIn ⟨o,h1,h2⟩ ek (fun z=>nomatch z) fin
    |_=>cases en
 · exact hq.elim
theorem qoW:qbe X (.builtin "isinstance") (upC X.K (qqI "int" qpI)):=quV fun a b e=>by
 cases a with
 |non=>cases e;exact⟨_,rfl,qiZ X.K⟩
 |bl _=>cases e;exact⟨_,rfl,qkw X.K⟩
 |int _=>cases e;exact⟨_,rfl,qi2 X.K⟩
 |str _=>cases e;exact⟨_,rfl,qiX X.K⟩
 |tup _=>cases e;exact⟨_,rfl,qiV X.K⟩
 |ls _=>cases e;exact⟨_,rfl,qku X.K⟩
 |_=>cases e
theorem qna:qbe X (.builtin "isinstance") (upC X.K (qqI "bool" is_bool)):=quV fun a b e=>by
 cases a with
 |non=>cases e;exact⟨_,rfl,qhw X.K⟩
 |bl _=>cases e;exact⟨_,rfl,qi4 X.K⟩
 |int _=>cases e;exact⟨_,rfl,qhz X.K⟩
 |str _=>cases e;exact⟨_,rfl,qhu X.K⟩
 |tup _=>cases e;exact⟨_,rfl,qhs X.K⟩
 |ls _=>cases e;exact⟨_,rfl,qi0 X.K⟩
 |_=>cases e
theorem qoV:qbe X (.builtin "isinstance") (upC X.K (qqI "str" qpH)):=quV fun a b e=>by
 cases a with
 |non=>cases e;exact⟨_,rfl,qiY X.K⟩
 |bl _=>cases e;exact⟨_,rfl,qkv X.K⟩
 |int _=>cases e;exact⟨_,rfl,qi1 X.K⟩
 |str _=>cases e;exact⟨_,rfl,qiW X.K⟩
 |tup _=>cases e;exact⟨_,rfl,qiU X.K⟩
 |ls _=>cases e;exact⟨_,rfl,qkt X.K⟩
 |_=>cases e
theorem qkS:qbe X (.builtin "isinstance") (upC X.K (qqI "tuple" qjG)):=quV fun a b e=>by
 cases a with
 |non=>cases e;exact⟨_,rfl,qgc X.K⟩
 |bl _=>cases e;exact⟨_,rfl,qhA X.K⟩
 |int _=>cases e;exact⟨_,rfl,qgd X.K⟩
 |str _=>cases e;exact⟨_,rfl,qgb X.K⟩
 |tup _=>cases e;exact⟨_,rfl,qga X.K⟩
 |ls _=>cases e;exact⟨_,rfl,qhx X.K⟩
 |_=>cases e
theorem qm9:qbe X (.builtin "isinstance") (upC X.K (qqI "list" qmn)):=quV fun a b e=>by
 cases a with
 |non=>cases e;exact⟨_,rfl,qhv X.K⟩
 |bl _=>cases e;exact⟨_,rfl,qi3 X.K⟩
 |int _=>cases e;exact⟨_,rfl,qhy X.K⟩
 |str _=>cases e;exact⟨_,rfl,qht X.K⟩
 |tup _=>cases e;exact⟨_,rfl,qhr X.K⟩
 |ls _=>cases e;exact⟨_,rfl,qeJ X.K⟩
 |_=>cases e
abbrev RSp:=LR->RM->RVK->Prop
def qgt(K:Frg)(sp:RSp):Sp:=fun vs H Q0 _=>∃ rs M Q,Reps K H rs vs/\View K H M/\sp rs M Q/\UpK K H Q Q0
end
structure RFn(P:Program)(w:World)(K:Frg)(mg:SOV)(base:Heap)(k:Nat)(x:Str)(ps:LSt)(sp:RSp):Prop where
 ex:∃ (f:Addr) (fd:FuncData),mg x=some (.ref f)/\PySem.W.keepIn K (.ref f)=true/\Binds K fd ps []/\qdC P w K mg base CX0 k f fd ps (qgt K sp)
section
variable {X:Cx}{x:Str}{p pos:Pos}{e:Expr}{es:LEx}{t:RTA}{k:Nat}{ps:LSt}{sp:RSp}
theorem qtg(F:RFn X.prog X.w X.K X.mg X.base k x ps sp)(hr:Room k X.A)(ha:RPA X (e::es) t)(hg:Gl X x:=by rfl)(hdb:(x==("__debug__":Str))=false:=by decide)
 (he:starEach (e::es) X.env=(false,eval e X.env)::starEach es X.env:=by rfl) (hpl:(backTo pos (starEach es X.env)).any (·.1)=false:=by rfl):RPE X (.Call (.Name x p) (e::es) [] pos) (qfa sp t):=by
 obtain⟨f,fd,hm,hk,hb,F⟩:=F.ex;refine PE.imp (qqX F hr hg hm hk hb .nil qiG ha hdb he hpl) fun σ0 H Q0 h=>?_
 obtain⟨σ,M,Q,hs,hv,ht,hk⟩:=h;exact⟨σ,M,_,hs,hv,ht,fun rs M1 vs H1 q e1 v1 r1=>⟨rs,M1,Q,by rw[waQ];exact r1,v1,q,hk.ext e1⟩⟩
theorem qqE(F:RFn X.prog X.w X.K X.mg X.base k x ps sp)(hr:Room k X.A)(hg:Gl X x:=by rfl)(hdb:(x==("__debug__":Str))=false:=by decide):RPE X (.Call (.Name x p) [] [] pos) (qfa sp qn3):=by
 obtain⟨f,fd,hm,hk,hb,F⟩:=F.ex;refine PE.imp (qoj F hr hg hm hk hb .nil qiG hdb) fun σ0 H Q0 h=>?_
 obtain⟨σ,M,Q,hs,hv,ht,hk⟩:=h;exact⟨[],M,Q,Reps.nil,hv,ht,hk⟩
def qbS(N:LSt)(rs:LR):RSt:=rs.map some++List.replicate (N.length-rs.length) none
theorem qlb{K:Frg}{H:Hp}{N:LSt}{rs:LR}{vs:LV}(r:Reps K H rs vs):RepSt K H (qbS N rs) (L2.start N vs):=by
 unfold qbS L2.start;refine⟨by simp[r.length],fun i z e=>?_⟩
 have hi:i<rs.length:=by
  by_cases hi:i<rs.length
  · exact hi
  · rw[List.getElem?_append_right (by simpa using hi),List.getElem?_replicate]at e
    split at e<;>cases e
 rw[List.getElem?_append_left (by simpa using hi),List.getElem?_map]at e
 cases q:rs[i]? with
 |none=>rw[q]at e;cases e
 |some y=>
  rw[q]at e;cases e;obtain⟨v,e1,r1⟩:=r.get q;exact⟨v,by rw[List.getElem?_append_left (by rw[wab,<-r.length];exact hi),List.getElem?_map,e1];rfl,r1⟩
def nums(n:Nat):LR:=(List.range n).map fun(i:Nat)=>RV.int (i:Int)
theorem qcI(n:Nat):(nums n).length=n:=by simp[nums]
end
def Thaw(H0 H H':Hp):Prop:=H'=H∨∃ d o u,H d=some (.frz o u)/\qnD u=true/\(∀ o' u',H0 d≠some (.frz o' u'))/\H'=upd H d u
theorem Thaw.inv{X:Cx}{pins:LAO}{σ:L2.St}{H H':Hp}{s:Shared}(t:Thaw X.H₀ H H')(I:Inv X pins σ H s):Inv X pins σ H' s:=by
 rcases t with rfl|⟨p,ob,u,h,du,h0,rfl⟩
 · exact I
 have np:∀ b,H b=none->b≠p:=fun b q w=>by subst w;rw[h]at q;cases q
 refine⟨I.ok,I.os,I.bare,⟨I.base.keep,I.base.slot,fun b o q w x=>?_,I.base.there,fun b xs' q=>?_,fun b o u q=>?_,fun b ps q=>?_⟩,I.loc,I.cell,?_,fun x c q=>?_,fun q hq=>?_,fun b v q=>?_,I.len⟩
 · have:=I.base.free b o q w x
   rw[qaa (np b this)];exact this
 · have e1:=I.base.tups b xs' q
   rw[qaa (qfb e1 h (by intro z;cases z))];exact e1
 · have e1:=I.base.frzs b o u q
   rw[qaa (by rintro rfl;exact h0 _ _ q)];exact e1
 · obtain⟨more,e1⟩:=I.base.tbls b ps q
   exact⟨more,by rw[qaa (qfb e1 h (by intro z;cases z))];exact e1⟩
 · rw[qaa (np _ I.free)];exact I.free
 · have:=I.freeC x c q
   rw[qaa (np _ this)];exact this
 · obtain⟨a1,a2,a3⟩:=I.pin q hq
   exact⟨a1,by rw[qaa (np _ a2)];exact a2,a3⟩
 · have st:∀ c v,ObjOk X.prog X.w H s.heap c v->ObjOk X.prog X.w (upd H p u) s.heap c v:=fun c v z=>z.stay (fun _ _ _ q=>q) (fun c q=>by rw[qaa (qfb q h (by intro z;cases z))];exact q) fun c ys q=>by rw[qaa (qfb q h (by intro z;cases z))];exact q
   by_cases hb:b=p
   · subst hb
     rw[qah]at q;cases q;exact st _ _ (I.hok b _ h).2
   · rw[qaa hb]at q
     exact st _ _ (I.hok b v q)
theorem qi9{X:Cx}{pins:LAO}{σ:L2.St}{H:Hp}{s:Shared}{p:Addr}{u:HO}(I:Inv X pins σ H s)(h:H p=some u)(du:qnD u=true):∃ o,s.heap.get? p=some o/\Inv X pins σ (upd H p (.frz o u)) s/\∀ o' u',X.H₀ p≠some (.frz o' u'):=by
 have hz:=I.hok p u h;obtain⟨ob,e⟩:∃ o,s.heap.get? p=some o:=by
  cases u<;>first|(cases du;done)|skip
  · obtain⟨_,_,_,_,o,_,_,e,_⟩:=hz;exact⟨o,e⟩
  · obtain⟨_,_,_,_,o,_,_,e,_⟩:=hz;exact⟨o,e⟩
 have nf:∀ o' u',H p≠some (.frz o' u'):=fun o' u' z=>by rw[h]at z;cases z;cases du
 have np:∀ b,H b=none->b≠p:=fun b q w=>by subst w;rw[h]at q;cases q
 have nt:∀ c xs,H c=some (.tup xs)->c≠p:=fun c xs q w=>by subst w;rw[h]at q;cases q;cases du
 have no:∀ c y,H c=some (.own y)->c≠p:=fun c y q w=>by subst w;rw[h]at q;cases q;cases du
 refine⟨ob,e,⟨I.ok,I.os,I.bare,⟨I.base.keep,I.base.slot,fun b o q w x=>?_,I.base.there,fun b xs' q=>?_,fun b o u q=>?_,fun b ps q=>?_⟩,I.loc,I.cell,?_,fun x c q=>?_,fun q hq=>?_,fun b v q=>?_,I.len⟩,fun o' u' z=>nf o' u' (I.base.frzs _ _ _ z)⟩
 · have:=I.base.free b o q w x
   rw[qaa (np b this)];exact this
 · have e1:=I.base.tups b xs' q
   rw[qaa (nt _ _ e1)];exact e1
 · have e1:=I.base.frzs b o u q
   rw[qaa (by rintro rfl;exact nf _ _ e1)];exact e1
 · obtain⟨more,e1⟩:=I.base.tbls b ps q
   exact⟨more,by rw[qaa (by rintro rfl;rw[h]at e1;cases e1;cases du)];exact e1⟩
 · rw[qaa (np _ I.free)];exact I.free
 · have:=I.freeC x c q
   rw[qaa (np _ this)];exact this
 · obtain⟨a1,a2,a3⟩:=I.pin q hq
   exact⟨a1,by rw[qaa (np _ a2)];exact a2,a3⟩
 · have st:∀ c v,ObjOk X.prog X.w H s.heap c v->ObjOk X.prog X.w (upd H p (.frz ob u)) s.heap c v:=fun c v z=>z.stay (fun _ _ _ q=>q) (fun c q=>by rw[qaa (no _ _ q)];exact q) fun c ys q=>by rw[qaa (nt _ _ q)];exact q
   by_cases hb:b=p
   · subst hb
     rw[qah]at q;cases q;exact⟨e,st _ _ hz⟩
   · rw[qaa hb]at q
     exact st _ _ (I.hok b v q)
structure qkW(H0 Hs:Hp)(K:Frg)(J:It)(xs:LR)(ok:RM->Prop)(un:RM->RM)(H1:Hp):Prop where
 turn:∀ i H M,Ext H1 H->View K H M->ok M->∀ x,xs[i]? =some x->J.go i H/\∀ v H',J.yld i H v H'->Ext H H'/\(∀ M,View K H M->View K H' M)/\Rep K H' x v
 stop:∀ i H M,Ext H1 H->View K H M->ok M->xs.length<=i->J.stop i H
 thaw:∀ H M,Ext H1 H->View K H M->ok M->∃ H',Thaw H0 H H'/\ExtW H H'/\Ext Hs H'/\View K H' (un M)
abbrev RTI:=RSt->RM->(LR->(RM->Prop)->(RM->RM)->RM->Prop)->Prop
abbrev okT:RM->Prop:=fun _=>True
def upI(H0:Hp)(K:Frg)(ti:RTI):TI:=fun σ0 H R=>∃ σ M Q,RepSt K H σ σ0/\View K H M/\ti σ M Q/\∀ xs ok un M' J H',Q xs ok un M'->Ext H H'->View K H' M'->qkW H0 H K J xs ok un H'->R J H'
def RPI(X:Cx)(tg iter:Expr)(ti:RTI):Prop:=PI X tg iter (upI X.H₀ X.K ti)
section
variable {X:Cx}{tg:Expr}
def qAS(te:RTE):RTI:=fun σ M Q=>te σ M fun v M1=>match v with
 | .tup xs=>Q xs okT id M1
 | .ls xs=>Q xs okT id M1
 | .ref a=>match M1 a with
  |some (.lst xs)=>Q xs (fun M=>M a=some (.lst xs)) id M1
  |_=>False
 |_=>False
theorem qbX{H0 Hs:Hp}{K:Frg}{H1:Hp}{ok:RM->Prop}(es:Ext Hs H1):∀ H M,Ext H1 H->View K H M->ok M->∃ H',Thaw H0 H H'/\ExtW H H'/\Ext Hs H'/\View K H' (id M):=fun H M e v _=>⟨H,.inl rfl,(Ext.refl H).w,es.trans e,v⟩
theorem quy{H0 Hs:Hp}{K:Frg}{H1:Hp}{a:Addr}{rs:LR}{vs:LV}(h:Fz K H1 a vs)(r:Reps K H1 rs vs)(es:Ext Hs H1):qkW H0 Hs K (Itl K a) rs okT id H1 where
 turn:=fun i H M e _ _ x hx=>by
  obtain⟨v,e1,r1⟩:=r.get hx;refine⟨⟨vs,v,(h.ext e).sq,e1⟩,fun v' H' y=>?_⟩
  obtain⟨rfl,y⟩:=y;have:=y vs (h.ext e).sq;rw[e1]at this;cases this;exact⟨.refl _,fun _ w=>w,Rep.ext e x v r1⟩
 stop:=fun i H M e _ _ hi=>⟨vs,(h.ext e).sq,by rw[<-r.length];exact hi⟩
 thaw:=qbX es
theorem qpC{H0 Hs:Hp}{K:Frg}{H1:Hp}{a:Addr}{rs:LR}{vs:LV}(h:SqT K H1 a vs)(r:Reps K H1 rs vs)(es:Ext Hs H1):qkW H0 Hs K (Itt K a) rs okT id H1 where
 turn:=fun i H M e _ _ x hx=>by
  obtain⟨v,e1,r1⟩:=r.get hx;refine⟨⟨vs,v,SqT.ext e h,e1⟩,fun v' H' y=>?_⟩
  obtain⟨rfl,y⟩:=y;have:=y vs (SqT.ext e h);rw[e1]at this;cases this;exact⟨.refl _,fun _ w=>w,Rep.ext e x v r1⟩
 stop:=fun i H M e _ _ hi=>⟨vs,SqT.ext e h,by rw[<-r.length];exact hi⟩
 thaw:=qbX es
theorem quw{H0 Hs:Hp}{K:Frg}{H1:Hp}(n:Nat)(es:Ext Hs H1):qkW H0 Hs K (Itr 0 n) (nums n) okT id H1 where
 turn:=fun i H M e _ _ x hx=>by
  have hi:i<n:=by have:=(List.getElem?_eq_some_iff.mp hx).1;rw[qcI]at this;exact this
  have hx':x= .int (i:Int):=by simp[nums,hi]at hx;exact hx.symm
  subst hx';refine⟨hi,fun v' H' y=>?_⟩
  obtain⟨rfl,rfl⟩:=y;exact⟨.refl _,fun _ w=>w,by simp only[Rep];simp⟩
 stop:=fun i H M e _ _ hi=>by rw[qcI]at hi;exact hi
 thaw:=qbX es
theorem qux{H0 Hs:Hp}{K:Frg}{H1:Hp}{a:Addr}{rs:LR}(es:Ext Hs H1):qkW H0 Hs K (Itl K a) rs (fun M=>M a=some (.lst rs)) id H1 where
 turn:=fun i H M e hv hm x hx=>by
  obtain⟨ho,eh,vs,rfl,r⟩:=hv a _ hm;obtain⟨v,e1,r1⟩:=r.get hx;refine⟨⟨vs,v,SqL.of eh,e1⟩,fun v' H' y=>?_⟩
  obtain⟨rfl,y⟩:=y;have:=y vs (SqL.of eh);rw[e1]at this;cases this;exact⟨.refl _,fun _ w=>w,r1⟩
 stop:=fun i H M e hv hm hi=>by
  obtain⟨ho,eh,vs,rfl,r⟩:=hv a _ hm;exact⟨vs,SqL.of eh,by rw[<-r.length];exact hi⟩
 thaw:=qbX es
theorem qDK{l:Expr}{te:RTE}(hl:RPE X l te):RPI X tg l (qAS te):=by
 intro pins s σ0 H R I h;obtain⟨σ,M,Q,hs,hv,ht,hk⟩:=h;refine thn (hl pins s σ0 H (fun x H1=>(∃ a vs rs ok M1,x= .ref a/\SqL X.K H1 a vs/\qkW X.H₀ H X.K (Itl X.K a) rs ok id H1/\Q rs ok id M1/\Ext H H1/\View X.K H1 M1)∨∃ a vs rs M1,x= .ref a/\SqT X.K H1 a vs/\Reps X.K H1 rs vs/\Q rs okT id M1/\Ext H H1/\View X.K H1 M1) I ⟨σ,M,_,hs,hv,ht,fun rv M1 v H1 q e1 v1 r1=>?_⟩) fun u s1 ⟨v,H1,I1,r1,q1⟩=>?_
 · cases rv with
   |ls xs=>simp only[Rep]at r1;obtain⟨a,vs,rfl,h1,h2⟩:=r1;exact .inl ⟨a,vs,xs,okT,M1,rfl,h1.sq,quy h1 h2 e1,q,e1,v1⟩
   |tup xs=>simp only[Rep]at r1;obtain⟨a,vs,rfl,h1,h2⟩:=r1;exact .inr ⟨a,vs,xs,M1,rfl,SqT.of h1,h2,q,e1,v1⟩
   |ref a=>
    simp only[Rep]at r1;subst r1;dsimp only at q;split at q
    · rename_i xs hm
      obtain⟨ho,eh,vs,rfl,r⟩:=v1 a _ hm;exact .inl ⟨a,vs,xs,_,M1,rfl,SqL.of eh,qux e1,q,e1,v1⟩
    · exact q.elim
   |_=>exact(show False from q).elim
 · rcases q1 with⟨a,vs,rs,ok,M1,rfl,h1,h2,q,e1,v1⟩|⟨a,vs,rs,M1,rfl,h1,h2,q,e1,v1⟩
   · cases r1
     obtain⟨its,rv,p,hz⟩:=I1.list h1;refine wpAny_pyIter_list p.isList ?_;refine⟨s1.heap.objs.size,[s1.heap.objs.size],_,_,H1,rfl,I1.kept (t':=s1.toks) fun b o e=>Heap.get?_push_of_some _ e,qk1 a _,⟨_,Heap.get?_push_size _ rfl,rfl,rfl⟩,fun b hb=>?_,hk rs ok id M1 _ H1 q e1 v1 h2⟩
     have e:b=s1.heap.objs.size:=by simpa using hb
     subst e;exact I1.fpOk (wac _) (I1.hok.fresh (wac _))
   · cases r1
     obtain⟨its,rv,p,hz⟩:=I1.tuple h1;refine wpAny_pyIter_tuple (show s1.heap.IsTuple a its.toArray from p) ?_
     refine⟨s1.heap.objs.size,[s1.heap.objs.size],_,_,H1,rfl,I1.kept (t':=s1.toks) fun b o e=>Heap.get?_push_of_some _ e,qfn a _,⟨_,Heap.get?_push_size _ rfl,rfl,rfl⟩,fun b hb=>?_,hk rs okT id M1 _ H1 q e1 v1 (qpC h1 h2 e1)⟩
     have e:b=s1.heap.objs.size:=by simpa using hb
     subst e;exact I1.fpOk (wac _) (I1.hok.fresh (wac _))
def qlI(Q:LR->(RM->Prop)->(RM->RM)->RM->Prop):LR->RM->Prop:=fun rs M=>match rs with
 | [.int n]=>-(2 ^ 62)<=n/\n<2 ^ 62/\Q (nums n.toNat) okT id M
 |_=>False
def qAT(te:RTE):RTI:=fun σ M Q=>te σ M fun v M1=>qlI Q [v] M1
theorem PI.imp{iter:Expr}{t t':TI}(h:PI X tg iter t)(i:∀ σ H R,t' σ H R->t σ H R):PI X tg iter t':=fun pins s σ H R I w=>h pins s σ H R I (i σ H R w)
theorem quA{a:Expr}{te:RTE}{p pos:Pos}(hm:X.mg "range" =none)(ha:RPE X a te)(hgl:Gl X "range":=by rfl)(hst:starEach [a] X.env= [(false,eval a X.env)]:=by rfl)(hsc:starEach (a::[]) X.env=(false,eval a X.env)::starEach [] X.env:=by rfl):
 RPI X tg (.Call (.Name "range" p) [a] [] pos) (qAT te):=PI.imp (qlR hgl hm (qo4 ha qyi hsc) hst) fun σ0 H R h=>by
 obtain⟨σ,M,Q,hs,hv,ht,hk⟩:=h;refine⟨σ,M,qlI Q,hs,hv,ht,fun rs M1 vs H1 q e1 v1 r1=>?_⟩
 unfold qlI at q;split at q
 · rename_i n
   obtain⟨q1,q2,q⟩:=q;obtain⟨v,rfl,r2⟩:=r1.one;simp only[Rep]at r2;subst r2;exact⟨n,rfl,q1,q2,hk _ okT id M1 _ H1 q e1 v1 (quw _ e1)⟩
 · exact q.elim
def qtr(ti:RTI)(g:RTG)(tb:RTS):RTS:=fun D σ M=>ti σ M fun xs ok un M1=>qeu g tb D ok un xs σ M1
def qsI(H0:Hp)(D:Ends):Ends where
 nx:=fun σ H=>∃ H',Thaw H0 H H'/\D.nx σ H'
 rt:=fun v H=>∃ H',Thaw H0 H H'/\D.rt v H'
 bk:=D.bk
 ct:=D.ct
theorem qAw{iter:Expr}{body:List Stmt}{ti:RTI}{g:RTG}{tb:RTS}{pos:Pos}(hp:PassesOwn (model X.prog X.w) X.A X.env X.xe)(hc:X.calm=true)(hi:RPI X tg iter ti)(hg:RPG X tg g)(hb:qnF X body tb)
 (hs:∀ x,foldedSetIterable iter X.env x=pure x:=by intro _;rfl):RPS X (.For tg iter body [] pos) (qtr ti g tb):=by
 intro pins s σ0 H D0 I h;refine thn (qtC hp hc hi hg hb hs pins s σ0 H (qsI X.H₀ D0) I ?_) fun f s' h'=>?_
 rotate_left
 · cases f with
   |next=>obtain⟨σ1,H1,I1,H2,t,q⟩:=h';exact⟨σ1,H2,t.inv I1,q⟩
   |brk=>exact h'
   |cont=>exact h'
   |ret v=>obtain⟨x1,σ1,H1,I1,r1,H2,t,q⟩:=h';exact⟨x1,σ1,H2,t.inv I1,r1,q⟩
 obtain⟨σ,M,D,hs,hv,ht,hd⟩:=h;refine⟨σ,M,_,hs,hv,ht,fun xs ok un M1 J H1 q e1 v1 hJ=>?_⟩
 have outN:∀ {σ4:RSt} {M4:RM} {σ04:L2.St} {H4:Hp},(ok M4/\D.nx σ4 (un M4))->Ext H1 H4->View X.K H4 M4->RepSt X.K H4 σ4 σ04->(qsI X.H₀ D0).nx σ04 H4:=fun q4 e4 v4 r4=>by
  obtain⟨H5,t5,e5,x5,v5⟩:=hJ.thaw _ _ e4 v4 q4.1;exact⟨H5,t5,hd.nx _ _ _ H5 q4.2 x5 v5 (r4.extw e5)⟩
 refine⟨fun i m σ0 H=>m=xs.length-i/\i<=xs.length/\∃ σ M,RepSt X.K H σ σ0/\View X.K H M/\qeu g tb D ok un (xs.drop i) σ M/\Ext H1 H,⟨_,rfl,Nat.zero_le _,σ,M1,hs.ext e1,v1,by simpa using q,.refl _⟩,?_⟩
 rintro i m σ0 H ⟨rfl,hi,σ,M,hs,hv,hf,e⟩
 by_cases hlt:i<xs.length
 · have ed:xs.drop i=xs[i]::xs.drop (i+1):=by simp
   rw[ed]at hf;obtain⟨hok,hf⟩:=hf;obtain⟨hgo,hy⟩:=hJ.turn i H M e hv hok xs[i] (by simp)
   refine .inr ⟨hgo,fun σ0 H=>∃ σ M,RepSt X.K H σ σ0/\View X.K H M/\qeu g tb D ok un (xs.drop (i+1)) σ M/\Ext H1 H,fun σ' H' h=>⟨_,by omega,rfl,hlt,h⟩,fun x H' y=>?_⟩
   obtain⟨e2,w2,r2⟩:=hy x H' y;refine⟨xs[i],σ,M,_,r2,hs.ext e2,w2 M hv,hf,fun σ' M' σ0' H'' q e3 v3 r3=>?_⟩
   have e13:=(e.trans e2).trans e3;refine⟨σ',M',_,r3,v3,q,⟨fun σ4 M4 σ04 H4 q4 e4 v4 r4=>⟨σ4,M4,r4,v4,q4,e13.trans e4⟩,fun rv M4 v H4 q4 e4 v4 r4=>?_,fun σ4 M4 σ04 H4 q4 e4 v4 r4=>outN q4 (e13.trans e4) v4 r4,fun σ4 M4 σ04 H4 q4 e4 v4 r4=>⟨σ4,M4,r4,v4,q4,e13.trans e4⟩⟩⟩
   obtain⟨H5,t5,e5,x5,v5⟩:=hJ.thaw _ _ (e13.trans e4) v4 q4.1;exact⟨H5,t5,hd.rt _ _ _ H5 q4.2 x5 v5 (Rep.extw e5 _ _ r4)⟩
 · have ei:i=xs.length:=by omega
   subst ei;rw[List.drop_length]at hf;exact .inl ⟨hJ.stop _ H M e hv hf.1 (wac _),outN hf e hv hs⟩
end
theorem qkR{env:Env}:∀ (scope:Scope),(∀ y∈scope.names,y.2= .free->∃ c,env.cells.lookup y.1=some c)->∃ cl,closureFor scope env=pure cl/\(∀ y c,cl.lookup y=some c->env.cells.lookup y=some c)/\∀ y∈scope.names,y.2= .free->∃ c,cl.lookup y.1=some c:=by
 intro scope h;have all:∀ (l:List (Str×NameKind)) (cs:List (Str×Addr)),(∀ y∈l,y.2= .free->∃ c,env.cells.lookup y.1=some c)->(∀ y c,cs.lookup y=some c->env.cells.lookup y=some c)->
  ∃ cl,(forIn l cs fun(x:Str×NameKind) (r:List (Str×Addr))=>(match x with|(name,kind)=>if(kind==NameKind.free)=true then do let c<-cellOf env name;pure (ForInStep.yield ((name,c)::r))else pure (ForInStep.yield r):Sem (ForInStep (List (Str×Addr)))))=(pure cl:Sem _)/\
   (∀ y c,cl.lookup y=some c->env.cells.lookup y=some c)/\(∀ y c,cs.lookup y=some c->∃ c',cl.lookup y=some c')/\∀ y∈l,y.2= .free->∃ c,cl.lookup y.1=some c:=by
  intro l
  induction l with
  |nil=>intro cs _ h2;exact⟨cs,by simp,h2,fun y c e=>⟨c,e⟩,fun y hy=>by cases hy⟩
  |cons x l ih=>
   intro cs h1 h2;obtain⟨n,k⟩:=x
   by_cases hk:k= .free
   · subst hk
     obtain⟨c,ec⟩:=h1 (n,.free) waz rfl;have e0:cellOf env n=pure c:=by unfold cellOf;rw[ec]
     obtain⟨cl,e1,e2,e3,e4⟩:=ih ((n,c)::cs) (fun y hy=>h1 y (waq _ hy)) (fun y d e=>by
      rw[waK]at e;split at e
      · rename_i z;cases e;rw[eq_of_beq z];exact ec
      · exact h2 y d e)
     refine⟨cl,?_,e2,fun y d e=>?_,fun y hy hf=>?_⟩
     · rw[wa9]
       simp only[beq_self_eq_true,if_true,e0,pure_bind];exact e1
     · by_cases hy:y=n
       · subst hy;exact e3 y c (by simp)
       · exact e3 y d (by rw[waK,beq_eq_false_iff_ne.mpr hy];exact e)
     · rcases waf.mp hy with rfl|hy
       · exact e3 n c (by simp)
       · exact e4 y hy hf
   · obtain⟨cl,e1,e2,e3,e4⟩:=ih cs (fun y hy=>h1 y (waq _ hy)) h2
     have hb:(k==NameKind.free)=false:=by simpa using hk
     refine⟨cl,?_,e2,e3,fun y hy hf=>?_⟩
     · rw[wa9]
       simp only[hb,waD,if_false,pure_bind];exact e1
     · rcases waf.mp hy with rfl|hy
       · exact absurd hf hk
       · exact e4 y hy hf
 obtain⟨cl,e1,e2,_,e4⟩:=all scope.names [] h (fun y c e=>by simp at e)
 refine⟨cl,?_,e2,e4⟩;unfold closureFor;have e5:=congrArg (fun m=>m >>= fun r=>(pure r:Sem (List (Str×Addr)))) e1
 simp only[pure_bind]at e5;rw[<-e5]
def qgV(env:Env)(p:Str×NameKind):Str×NameKind:=if(p.2==NameKind.free&&env.scope.kind== .function&&env.kindOf p.1==some .cell)then(p.1,NameKind.cell)else(p.1,p.2)
theorem qnU(env:Env)(p:Str×NameKind):(qgV env p).1=p.1:=by unfold qgV;split<;>rfl
theorem qfW(env:Env)(p:Str×NameKind):(qgV env p).2=p.2∨((qgV env p).2= .cell/\p.2= .free):=by
 unfold qgV;split
 · rename_i h
   rw[waa,waa]at h;exact .inr ⟨rfl,eq_of_beq h.1.1⟩
 · exact .inl rfl
theorem qbJ{env:Env}{x:Str}:∀ {names:List (Str×NameKind)},(names.map (qgV env)).lookup x=(names.find? fun p=>x==p.1).map fun p=>(qgV env p).2
 | []=>rfl
 |p::r=>by
  rw[wae,List.find?_cons];obtain⟨n,k⟩:=p;have e:qgV env (n,k)=(n,(qgV env (n,k)).2):=Prod.ext (qnU env (n,k)) rfl;rw[e,waK];cases hx:x==n with
  |true=>rfl
  |false=>exact qbJ
theorem qbK{x:Str}:∀ {names:List (Str×NameKind)},names.lookup x=(names.find? fun p=>x==p.1).map fun p=>p.2
 | []=>rfl
 |(n,k)::r=>by
  rw[waK,List.find?_cons];cases hx:x==n with
  |true=>rfl
  |false=>exact qbK
theorem qdu{env:Env}{names:List (Str×NameKind)}{x:Str}{k:NameKind}(hc:∀ y∈names,y.2≠.cell)(hk:k= .cell∨k= .free)
 (h:(names.map (qgV env)).lookup x=some k):names.lookup x=some .free:=by
 rw[qbJ]at h;rw[qbK];cases e:names.find? fun p=>x==p.1 with
 |none=>rw[e]at h;cases h
 |some p=>
  rw[e]at h;have h':(qgV env p).2=k:=Option.some.inj h;have hp:=List.mem_of_find?_eq_some e;show some p.2=some .free;rcases qfW env p with z|z
  · rcases hk with rfl|rfl
    · exact absurd (z.symm.trans h') (hc p hp)
    · rw[<-h',z]
  · rw[z.2]
theorem qdt{env:Env}{names:List (Str×NameKind)}{x:Str}(h:names.lookup x=some .free):(names.map (qgV env)).lookup x=some .cell∨(names.map (qgV env)).lookup x=some .free:=by
 rw[qbK]at h;rw[qbJ];cases e:names.find? fun p=>x==p.1 with
 |none=>rw[e]at h;cases h
 |some p=>
  rw[e]at h;have h':p.2= .free:=Option.some.inj h;show some (qgV env p).2=some .cell∨some (qgV env p).2=some .free;rcases qfW env p with z|z
  · right;rw[z,h']
  · left;rw[z.1]
def blk(X:Cx)(scope:Scope)(cl:List (Str×Addr))(C:Addr)(Nc:LSt)(s:Shared)(H:Hp)(fp:List Addr):Cx:=
 { X with N:=Nc,s₀:=s,H₀:=H,env:=compEnvC scope cl C X.env,outer:=X.stack,ex:=fp,fn:=fun _=>false,pn:=[],xe:=fun _ _=>False }
theorem qu4{X:Cx}{pins:LAO}{σ:L2.St}{H:Hp}{s:Shared}{scope:Scope}{cl:List (Str×Addr)}{C:Addr}{Nc:LSt}{fp:List Addr}(I:Inv X pins σ H s)(hf:∀ b∈fp,qo7 X pins H b)(hlt:∀ b∈fp,b<s.heap.objs.size)
 (hkind:scope.kind= .function) (hC:s.heap.objs.size<=C) (h1:∀ y c,cl.lookup y=some c->X.env.cells.lookup y=some c) (h2:∀ y∈scope.names,y.2= .free->∃ c,cl.lookup y.1=some c) (hcell:∀ y∈scope.names,y.2≠.cell):
 (blk X scope cl C Nc s H fp).Ok where
 mod:=I.ok.mod
 kind:=hkind
 glob:=I.ok.glob
 blt:=I.ok.blt
 above:=hC
 inj:=fun x y c e1 e2=>I.ok.inj x y c (h1 x c e1) (h1 y c e2)
 has:=fun x hx=>by
  have e:scope.names.lookup x=some .free:=by
   rcases hx with hx|hx
   · exact qdu hcell (.inl rfl) hx
   · exact qdu hcell (.inr rfl) hx
  exact h2 (x,.free) (PySem.mem_of_lookup e) rfl
 cab:=fun x c z=>by cases z
 hd:=I.ok.hd
 frames:=I.ok.frames
 stk:=.inl rfl
 exf:=fun b hb=>⟨fun z=>absurd (wai (hlt b hb) hC) (by rw[show b=C from z];exact waV _),fun x c e=>(hf b hb).2.2.2.2.1 x c (h1 x c e)⟩
 bs:=fun b o e=>I.bs b o e
 bsz:=waw I.ok.bsz I.sz
 noex:=fun b o e hb=>by
  rcases(hf b hb).2.2.2.1 with z|z
  · exact I.ok.noex b o e z
  · exact absurd (wai (waj e) (waw I.ok.bsz z)) (waV _)
 exfs:=fun b hb z=>by
  rcases waf.mp (I.stkSub b z)with e|e
  · exact(hf b hb).2.1 e
  · exact(hf b hb).2.2.1 e
 funs:=I.stack
 frf:=I.stkFree
section
variable {prog:Program}{w:World}{A:Around}{R:Result->Shared->Prop}{s:Shared}
abbrev Nv:VSP:=fun _ _=>False
abbrev qic(ifs:LEx)(env:Env):Sem Bool:=forIn ifs true fun c r=>if r=true then do let ok<-isTrue c env (eval c env);pure (ForInStep.yield ok)else pure (ForInStep.yield r)
theorem qm3{elt target iter:Expr}{ifs:LEx}{scope:Scope}{pos:Pos}{it acc:Value}{env:Env}(I:Nat->Shared->Prop)
 (turn:∀ n s,I n s->wpAny (model prog w) A (pyNext it) (fun r s₁=>(r=none/\R (.ok .next) s₁)∨∃ v,r=some v/\wpAny (model prog w) A (letOwnedTupleGo target it v) (fun _ s₁'=>wpAny (model prog w) A (assign target env v) (fun _ s₂=>
  wpAny (model prog w) A (qic ifs env) (fun ok s₃=>
   if ok=true then wpAny (model prog w) A (eval elt env) (fun x s₄=>
    wpAny (model prog w) A (call (.builtin "list.append") [acc,x]) (fun _ s₅=>∃ m,m<n/\I m s₅) Nv s₄) Nv s₃
   else ∃ m,m<n/\I m s₃) Nv s₂) Nv s₁') Nv s₁) Nv s)
 (n:Nat) (h:I n s):
 codeAny (model prog w) A (.compLoop (.ListComp elt [⟨target,iter,ifs,0⟩] scope pos) 0 it acc env) R s:=by
 refine codeAny_loop rfl I (fun n s hI=>?_) n h
 show wpAny _ A ((compTurn (.ListComp elt [⟨target,iter,ifs,0⟩] scope pos) 0 it acc env).onRaise (fun x=>do noteFrame x env;theTreesLotGoes x)) _ _ s
 refine wpAny_noted ?_;rw[compTurn_list];refine wpAny_bind (wpAny_standAt (wpAny_bind (wpAny_mono (turn n s hI) (fun r s₁ h₁=>?_) fun _ _ h'=>h'.elim)))
 rcases h₁ with⟨rfl,h₁⟩|⟨v,rfl,h₁⟩
 · exact wpAny_pure h₁
 · refine wpAny_bind (wpAny_mono h₁ (fun _ s₁' h₁'=>?_) fun _ _ h'=>h'.elim)
   refine wpAny_bind (wpAny_mono h₁' (fun _ s₂ h₂=>wpAny_bind (wpAny_mono h₂ (fun ok s₃ h₃=>?_) fun _ _ h'=>h'.elim)) fun _ _ h'=>h'.elim)
   cases ok with
   |false=>exact wpAny_pure ⟨rfl,h₃⟩
   |true=>
    exact wpAny_bind (wpAny_bind (wpAny_mono h₃ (fun x s₄ h₄=>wpAny_bind (wpAny_mono h₄ (fun _ s₅ h₅=>wpAny_pure (wpAny_pure ⟨rfl,h₅⟩)) fun _ _ h'=>h'.elim)) fun _ _ h'=>h'.elim))
end
def qsb(X:Cx)(ifs:LEx)(t:RTT):Prop:=
 ∀ (pins:LAO) (s:Shared) (σ:L2.St) (H:Hp) (Q:Bool->Hp->Prop),Inv X pins σ H s->upT X.K t σ H Q->wpAny (model X.prog X.w) X.A (qic ifs X.env) (TP X pins σ Q) X.xe s
def qDq:RTT:=fun _ M Q=>Q true M
theorem qB3{X:Cx}:qsb X [] qDq:=by
 intro pins s σ0 H Q0 I h;obtain⟨σ,M,Q,hs,hv,ht,hk⟩:=h;exact wpAny_pure ⟨H,I,hk true M H ht (.refl H) hv⟩
theorem qB2{X:Cx}{c:Expr}{t:RTT}(h:RPT X c t):qsb X [c] t:=by
 intro pins s σ0 H Q0 I hw;have:=h pins s σ0 H Q0 I hw;unfold qic;rw[wa9];simp only[if_true,bind_assoc,pure_bind];refine wpAny_bind (thn this fun b s' q=>?_)
 simp only[List.forIn_nil];exact wpAny_pure q
def qvB(md:Bool)(acc:LR)(M:RM)(Q:RVK):Prop:=match md with
 |true=>∀ p,M p=none->Q (.ref p) (put M p (.lst acc))
 |false=>Q (.ls acc) M
noncomputable def qaR (bd:RV->Option (LR))(md:Bool)(ok:RM->Prop)(un:RM->RM)(tt:RTT)(te:RTE)(base:List (Option RV)):LR->LR->RM->RVK->Prop
 | [],acc,M,Q=>ok M/\qvB md acc (un M) Q
 |x::xs,acc,M,Q=>ok M/\match bd x with
  |some bs=>tt (bs.map some++base) M fun c M1=>(c=true->te (bs.map some++base) M1 fun v M2=>qaR bd md ok un tt te base xs (acc++ [v]) M2 Q)/\(c=false->qaR bd md ok un tt te base xs acc M1 Q)
  |none=>False
def qft(bd:RV->Option (LR))(md:Bool)(ti:RTI)(cap:List Nat)(tt:RTT)(te:RTE):RTE:=fun σ M Q=>ti σ M fun xs ok un M1=>xs.length<sizeLine/\qaR bd md ok un tt te (cap.map fun i=>(σ[i]?).join) xs [] M1 Q
section
variable {X:Cx}
theorem qm4{elt iter tg:Expr}{nm:LSt}{bd:RV->Option (LR)}{md:Bool}{scope:Scope}{pos:Pos}{ti:RTI}{tt:RTT}{te:RTE}{ifs:LEx}(caps:List (Nat×Str)){osc:Scope}{oN:LSt}
 (hc:X.calm=true) (hi:RPI X tg iter ti)
 (hif:∀ cl C s H fp,qsb (blk X scope cl C (nm++caps.map Prod.snd) s H fp) ifs tt)
 (hel:∀ cl C s H fp,RPE (blk X scope cl C (nm++caps.map Prod.snd) s H fp) elt te)
 (hX:X.env.scope=osc) (hN:X.N=oN)
 (hcaps:∀ p∈caps,oN[p.1]? =some p.2/\scope.names.lookup p.2=some .free/\(osc.names.lookup p.2=some .cell∨osc.names.lookup p.2=some .free))
 (hfr:∀ y∈scope.names,y.2= .free->(osc.names.lookup y.1=some .cell∨osc.names.lookup y.1=some .free))
 (hcell:∀ y∈scope.names,y.2≠.cell) (hkind:scope.kind= .function) (hnames:∀ y∈scope.names,y.2= .local->scope.names.lookup y.1=some .local)
 (hb:∀ r bs,bd r=some bs->bs.length=nm.length)
 (hpg:∀ cl C s2 H2 fp (pins':LAO) (s6:Shared) (vs0 cv:List (Option V)) (H6:Hp) (rv:RV) (xv:V) (u:Value) (bs:LR) (Q1:Unit->Shared->Prop),vs0.length=nm.length->Inv (blk X scope cl C (nm++caps.map Prod.snd) s2 H2 fp) pins' (vs0++cv) H6 s6->RelV xv u->Rep X.K H6 rv xv->bd rv=some bs->
  (∀ vs s7,Reps X.K H6 bs vs->Inv (blk X scope cl C (nm++caps.map Prod.snd) s2 H2 fp) pins' (vs.map some++cv) H6 s7->Q1 () s7)->wpAny (model X.prog X.w) X.A (assign tg (compEnvC scope cl C X.env) u) Q1 Nv s6)
 (hs:∀ v,foldedSetIterable iter X.env v=pure v) {pos':Pos} {pins:LAO} {s:Shared} {σ0:L2.St} {H:Hp} {Q0:VK} (I:Inv X pins σ0 H s) (hw:up X.K (qft bd md ti (caps.map Prod.fst) tt te) σ0 H Q0) {use:Option (Value->Sem Unit)} {PP:VSP}
 (fin:∀ (D C:Addr) (s5:Shared) (m5:SOV) (H5:Hp),s5.heap.Ns C m5->(∀ h',Heap.SameBut C s5.heap h'->Inv X pins σ0 H5 { s5 with heap:=h' })->Q0 (.ref D) H5->H5 C=none->C≠X.env.locals->X.s₀.heap.objs.size<=C->(∀ y c,X.env.cells.lookup y=some c->c≠C)->(∀ p∈X.pn++pins,p.1≠C)->compPost (model X.prog X.w) X.A X.xe use PP (.ref D) C (.ok .next) s5):
 wpAny (model X.prog X.w) X.A (comprehension (.ListComp elt [⟨tg,iter,ifs,0⟩] scope pos) scope X.env pos' (newList []) false (eval iter X.env) use) PP X.xe s:=by
 subst hX;subst hN;obtain⟨σ,M,Q,hst,hv,ht,hk⟩:=hw;obtain⟨cl,hclos,hcl1,hcl2⟩:=qkR scope fun y hy hf=>I.ok.has y.1 (hfr y hy hf)
 refine wpAny_comprehension_free (use:=use) (cl:=cl) rfl hs hclos hkind hnames ?_;refine wpAny_mono (hi pins s σ0 H (fun J H1=>∃ xs ok un M1,Ext H H1/\View X.K H1 M1/\qkW X.H₀ H X.K J xs ok un H1/\xs.length<sizeLine/\qaR bd md ok un tt te ((caps.map Prod.fst).map fun i=>(σ[i]?).join) xs [] M1 Q) I ⟨σ,M,_,hst,hv,ht,fun xs ok un M' J H' q e w hJ=>⟨xs,ok,un,M',e,w,hJ,q.1,q.2⟩⟩)
  (fun v s1 h1=>wpAny_mono h1 (fun itv s2 h2=>?_) fun _ _ e=>e) fun _ _ e=>e
 obtain⟨it,fp,tn,J,H2,rfl,I2,T,st2,f2,xs,ok,un,M1,e2,w2,hJ,hz,hq⟩:=h2;have flt:∀ b∈fp,b<s2.heap.objs.size:=fun b hb=>by obtain⟨o,e,_⟩:=T.obj _ _ st2 b hb;exact waj e
 refine wpAny_newObj_type (wpAny_newFunctionEnv hcell (by intro y hy;simp at hy) (fun h₁ hns₁ hsb₁=>?_) hkind)
 dsimp only at hns₁ hsb₁ ⊢;generalize hH2:s2.heap.push { cls:=.type "list",dict:=none,data:=.seq ([]:LVl).toArray }=hp2 at hns₁ hsb₁ ⊢;have hCs:hp2.objs.size=s2.heap.objs.size+1:=by rw[<-hH2,Heap.size_push]
 have hDC:s2.heap.objs.size≠hp2.objs.size:=by rw[hCs];exact wat (wa0 _)
 have hCle:s2.heap.objs.size<=hp2.objs.size:=by rw[hCs];exact Nat.le_succ _
 have old:∀ b o,s2.heap.get? b=some o->h₁.get? b=some o:=fun b o e=>hsb₁.extBut b o (wat (by rw[hCs];exact waG (waj e))) (Heap.get?_push_of_some _ (hH2 ▸ Heap.get?_push_of_some _ e))
 have hacc:h₁.get? s2.heap.objs.size=some { cls:=.type "list",data:=.seq ([]:LVl).toArray }:=hsb₁.extBut _ _ hDC (Heap.get?_push_of_some _ (hH2 ▸ Heap.get?_push_size _ rfl));generalize hD:s2.heap.objs.size=D at*;generalize hCg:hp2.objs.size=C at*;have hDfp:∀ b∈fp,b≠D:=fun b hb=>wat (flt b hb)
 have okB:(blk X scope cl C (nm++caps.map Prod.snd) s2 H2 fp).Ok:=qu4 I2 f2 (by rw[hD];exact flt) hkind (by rw[hD];exact hCle) hcl1 hcl2 hcell
 have fr:∀ b,D<=b->H2 b=none:=fun b hb=>I2.hok.fresh (by rw[hD];exact hb)
 have capsV:∃ cv:List (Option V),cv.length=caps.length/\(∀ (j:Nat) v,cv[j]? =some (some v)->∃ p,caps[j]? =some p/\σ0[p.1]? =some (some v))/\
  ∀ (j:Nat) r,((caps.map Prod.fst).map fun i=>(σ[i]?).join)[j]? =some (some r)->∃ v,cv[j]? =some (some v)/\Rep X.K H2 r v:=by
  refine⟨caps.map fun p=>(σ0[p.1]?).join,by simp,fun j v e=>?_,fun j r e=>?_⟩
  · rw[List.getElem?_map]at e
    cases q:caps[j]? with
    |none=>rw[q]at e;cases e
    |some p=>
     rw[q]at e;have e':(σ0[p.1]?).join=some v:=Option.some.inj e;refine⟨p,rfl,?_⟩;cases z:σ0[p.1]? with
     |none=>rw[z]at e';cases e'
     |some o=>rw[z]at e';have:o=some v:=e';rw[this]
  · rw[List.getElem?_map,List.getElem?_map]at e
    cases q:caps[j]? with
    |none=>rw[q]at e;cases e
    |some p=>
     rw[q]at e;have e':(σ[p.1]?).join=some r:=Option.some.inj e;have e'':σ[p.1]? =some (some r):=by
      cases z:σ[p.1]? with
      |none=>rw[z]at e';cases e'
      |some o=>rw[z]at e';have:o=some r:=e';rw[this]
     obtain⟨v,h1,h2⟩:=hst.2 p.1 r e'';refine⟨v,?_,Rep.ext e2 r v h2⟩;rw[List.getElem?_map,q];show some ((σ0[p.1]?).join)=_;rw[h1];rfl
 obtain⟨cv,cvl,cv1,cv2⟩:=capsV;have I3:Inv (blk X scope cl C (nm++caps.map Prod.snd) s2 H2 fp) [(D,{ cls:=.type "list",data:=.seq ([]:LVl).toArray })] (List.replicate nm.length none++cv) H2 { s2 with heap:=h₁,toks:=s2.toks+([]:List (Str×Value)).length }:=by
  refine⟨okB,rfl,I2.bare,Un.kept old,⟨_,hns₁,fun i y v a b c=>?_⟩,fun y c e=>?_,fr C hCle,fun y c e=>I2.freeC y c (hcl1 y c e),fun p hp=>?_,I2.hok.kept old,?_⟩
  · by_cases hi0:i<nm.length
    · rw[List.getElem?_append_left (by rw[wa2];exact hi0),List.getElem?_replicate]at b
      split at b<;>cases b
    · obtain⟨j,rfl⟩:=Nat.exists_eq_add_of_le (Nat.le_of_not_lt hi0)
      rw[List.getElem?_append_right (by rw[wa2];omega),wa2,waX]at b
      have a:(caps.map Prod.snd)[j]? =some y:=by
       have a':(nm++caps.map Prod.snd)[nm.length+j]? =some y:=a;rw[List.getElem?_append_right (by omega),waX]at a';exact a'
      obtain⟨p,q1,q2⟩:=cv1 j v b;have hy:p.2=y:=by
       have a':(caps.map Prod.snd)[j]? =some y:=a;rw[List.getElem?_map,q1]at a';exact Option.some.inj a'
      subst hy;obtain⟨z1,z2,z3⟩:=hcaps p (List.mem_of_getElem? q1);obtain⟨m,hn,hl⟩:=I2.loc;have vis:Vis X.env.scope p.2:=by rcases z3 with z|z;exact .inr (.inl z);exact .inr (.inr z)
      obtain⟨u,ru,lk⟩:=hl p.1 p.2 v z1 q2 vis;refine⟨u,ru,.inr ⟨qdt z2,?_⟩⟩;obtain⟨c,ec⟩:=hcl2 (p.2,.free) (PySem.mem_of_lookup z2) rfl;have ec':=hcl1 p.2 c ec;rcases lk with⟨k,_⟩|⟨_,c',e',ic⟩
      · have k':X.env.scope.names.lookup p.2=some .local:=k
        rcases z3 with z|z<;>(rw[z]at k';cases k')
      · rw[ec']at e';cases e'
        obtain⟨o,ho,hd⟩:=ic;exact⟨c,ec,o,old c o ho,hd⟩
  · obtain⟨v,o,ho,hd⟩:=I2.cell y c (hcl1 y c e)
    exact⟨v,o,old c o ho,hd⟩
  · have hp':p=(D,{ cls:=.type "list",data:=.seq ([]:LVl).toArray }):=by simpa[blk]using hp
    subst hp';refine⟨hacc,fr D (wac _),hDC,fun z=>?_,fun v=>by simp⟩
    have:=I2.stkFree D z;rcases waf.mp (I2.stkSub D z)with e|e
    · exact absurd I2.lt (by rw[<-e,hD];exact waV _)
    · exact I2.nofs (by rw[hD];exact wac _) e
  · show(List.replicate nm.length none++cv).length=(nm++caps.map Prod.snd).length
    simp[cvl]
 have W:∀ s3:Shared,s3= { s2 with heap:=h₁,toks:=s2.toks+([]:List (Str×Value)).length }->codeAny (model X.prog X.w) X.A (.compLoop (.ListComp elt [⟨tg,iter,ifs,0⟩] scope pos) 0 (.ref it) (.ref D) (compEnvC scope cl C X.env))
  (compPost (model X.prog X.w) X.A X.xe use PP (.ref D) C) s3:=by
  rintro s3 rfl;refine qm3 (fun n s'=>∃ (i:Nat) (v0:List (Option V)) (H':Hp) (M':RM) (accR:LR) (accV:LV) (its:LVl) (k:Nat),n=xs.length-i/\v0.length=nm.length/\i<=xs.length/\accR.length<=i/\
   Inv (blk X scope cl C (nm++caps.map Prod.snd) s2 H2 fp) [(D,{ cls:=.type "list",data:=.seq its.toArray k })] (v0++cv) H' s'/\View X.K H' M'/\Ext H2 H'/\Reps X.K H' accR accV/\Vals accV its/\tn i s'.heap/\(∀ b∈fp,H' b=none)/\
   qaR bd md ok un tt te ((caps.map Prod.fst).map fun i=>(σ[i]?).join) (xs.drop i) accR M' Q) ?_ xs.length ⟨0,List.replicate nm.length none,H2,M1,[],[],[],0,rfl,by simp,Nat.zero_le _,wac _,I3,w2,.refl _,Reps.nil,.nil,T.keep _ _ _ st2 fun b _ o e=>old b o e,fun b hb=>(f2 b hb).1,by simpa using hq⟩
  rintro n s' ⟨i,v0,H',M',accR,accV,its,k,rfl,hv0,hi,hal,I4,w4,e4,ra,rl,st4,f4,hq4⟩;have fpB:∀ (pins':LAO) (H'':Hp),(∀ b∈fp,H'' b=none)->(∀ p∈pins',∀ b∈fp,p.1≠b)->∀ b∈fp,qo7 (blk X scope cl C (nm++caps.map Prod.snd) s2 H2 fp) pins' H'' b:=fun pins' H'' h1 h2 b hb=>
   ⟨h1 b hb,(okB.exf b hb).1,okB.exfs b hb,.inl hb,(okB.exf b hb).2,fun p hp=>h2 p (by simpa[blk]using hp) b hb⟩
  have pD:∀ (o:Obj),∀ p∈[(D,o)],∀ b∈fp,p.1≠b:=fun o p hp b hb=>by
   have:p=(D,o):=by simpa using hp
   subst this;exact(hDfp b hb).symm
  by_cases hlt:i<xs.length
  · have ed:xs.drop i=xs[i]::xs.drop (i+1):=by simp
    rw[ed]at hq4;obtain⟨hok,hq4⟩:=hq4;obtain⟨hgo,hy⟩:=hJ.turn i H' M' e4 w4 hok xs[i] (by simp)
    refine thn (T.item (blk X scope cl C (nm++caps.map Prod.snd) s2 H2 fp) rfl rfl rfl hc i _ s' _ H' Nv I4 (fpB _ _ f4 (pD _)) st4 hgo) fun r s5 ⟨u,hr,h5⟩=>.inr ⟨u,hr,?_⟩
    refine thn h5 fun _ s6 ⟨xv,H6,I6,r6,y6,st6,f6⟩=>?_
    obtain⟨e6,w6,rr6⟩:=hy xv H6 y6;have I6':=I6.pinned (fpB _ _ f6 (pD _)) (T.obj _ _ st6);obtain⟨bs,ebs,hq4⟩:∃ bs,bd xs[i]=some bs/\tt (bs.map some++(caps.map Prod.fst).map fun i=>(σ[i]?).join) M' fun c M1=>(c=true->te (bs.map some++(caps.map Prod.fst).map fun i=>(σ[i]?).join) M1 fun v M2=>qaR bd md ok un tt te ((caps.map Prod.fst).map fun i=>(σ[i]?).join) (xs.drop (i+1)) (accR++ [v]) M2 Q)/\(c=false->qaR bd md ok un tt te ((caps.map Prod.fst).map fun i=>(σ[i]?).join) (xs.drop (i+1)) accR M1 Q):=by
     split at hq4
     · rename_i bs e;exact⟨bs,e,hq4⟩
     · exact hq4.elim
    refine hpg cl C s2 H2 fp _ s6 v0 cv H6 xs[i] xv u bs _ hv0 I6' r6 rr6 ebs fun vs6 s7 rp6 I7=>?_
    have lv6:vs6.length=nm.length:=by rw[<-rp6.length];exact hb _ _ ebs
    have base:∀ {Hx:Hp},Ext H6 Hx->RepSt X.K Hx (bs.map some++(caps.map Prod.fst).map fun i=>(σ[i]?).join) (vs6.map some++cv):=fun {Hx} ex=>by
     have lb:=rp6.length;refine⟨by simp[cvl,lb],fun j r e=>?_⟩
     by_cases hj:j<bs.length
     · rw[List.getElem?_append_left (by simpa using hj),List.getElem?_map]at e
       cases q:bs[j]? with
       |none=>rw[q]at e;cases e
       |some r'=>
        rw[q]at e;have:r'=r:=Option.some.inj (Option.some.inj e);subst this;obtain⟨v,q1,q2⟩:=rp6.get q;exact⟨v,by rw[List.getElem?_append_left (by rw[wab];omega),List.getElem?_map,q1];rfl,Rep.ext ex _ _ q2⟩
     · obtain⟨k,rfl⟩:=Nat.exists_eq_add_of_le (Nat.le_of_not_lt hj)
       rw[List.getElem?_append_right (by simp),wab,waX]at e
       obtain⟨v,q1,q2⟩:=cv2 k r e;exact⟨v,by rw[List.getElem?_append_right (by rw[wab];omega),wab,<-lb,waX];exact q1,Rep.ext (e4.trans (e6.trans ex)) r v q2⟩
    have next:∀ (M8:RM) (H8:Hp) (s8:Shared) (accR':LR) (accV':LV) (its':LVl) (k':Nat),accR'.length<=i+1->
     Inv (blk X scope cl C (nm++caps.map Prod.snd) s2 H2 fp) ([(D,{ cls:=.type "list",data:=.seq its'.toArray k' })]++qdx fp s6.heap) (vs6.map some++cv) H8 s8->View X.K H8 M8->Ext H6 H8->Reps X.K H8 accR' accV'->Vals accV' its'->
     qaR bd md ok un tt te ((caps.map Prod.fst).map fun i=>(σ[i]?).join) (xs.drop (i+1)) accR' M8 Q->∃ m,m<xs.length-i/\∃ (i:Nat) (v0:List (Option V)) (H':Hp) (M':RM) (accR:LR) (accV:LV) (its:LVl) (k:Nat),m=xs.length-i/\v0.length=nm.length/\i<=xs.length/\accR.length<=i/\
     Inv (blk X scope cl C (nm++caps.map Prod.snd) s2 H2 fp) [(D,{ cls:=.type "list",data:=.seq its.toArray k })] (v0++cv) H' s8/\View X.K H' M'/\Ext H2 H'/\Reps X.K H' accR accV/\Vals accV its/\tn i s8.heap/\(∀ b∈fp,H' b=none)/\
     qaR bd md ok un tt te ((caps.map Prod.fst).map fun i=>(σ[i]?).join) (xs.drop i) accR M' Q:=by
     intro M8 H8 s8 accR' accV' its' k' hl' I8 w8 e8 ra' rl' hq8;have keep8:∀ b∈fp,∀ o,s6.heap.get? b=some o->s8.heap.get? b=some o/\H8 b=none:=fun b hb o e=>by
      have:=I8.pin (b,o) (war _ (war _ (qdi hb e)));exact⟨this.1,this.2.1⟩
     refine⟨xs.length-(i+1),by omega,i+1,vs6.map some,H8,M8,accR',accV',its',k',rfl,by rw[wab];exact lv6,hlt,hl',I8.unpinned,w8,e4.trans (e6.trans e8),ra',rl',T.keep _ _ _ st6 fun b hb o e=>(keep8 b hb o e).1,fun b hb=>?_,hq8⟩
     obtain⟨o,e,_⟩:=T.obj _ _ st6 b hb;exact(keep8 b hb o e).2
    refine thn (hif cl C s2 H2 fp _ s7 _ H6 (fun oc H8=>∃ M8,View X.K H8 M8/\Ext H6 H8/\(oc=true->te (bs.map some++(caps.map Prod.fst).map fun i=>(σ[i]?).join) M8 fun v M2=>qaR bd md ok un tt te ((caps.map Prod.fst).map fun i=>(σ[i]?).join) (xs.drop (i+1)) (accR++ [v]) M2 Q)/\
     (oc=false->qaR bd md ok un tt te ((caps.map Prod.fst).map fun i=>(σ[i]?).join) (xs.drop (i+1)) accR M8 Q)) I7 ⟨_,M',_,base (.refl _),w6 M' w4,hq4,fun b M8 H8 q e w=>⟨M8,w,e,q.1,q.2⟩⟩) fun oc s8 ⟨H8,I8,M8,w8,e8,qt,qf⟩=>?_
    cases oc with
    |false=>
     exact next M8 H8 s8 accR accV its k (by omega) I8 w8 e8 (Reps.ext (e6.trans e8) _ _ ra) rl (qf rfl)
    |true=>
     refine thn (hel cl C s2 H2 fp _ s8 _ H8 (fun v H9=>∃ rv M9,View X.K H9 M9/\Ext H8 H9/\Rep X.K H9 rv v/\qaR bd md ok un tt te ((caps.map Prod.fst).map fun i=>(σ[i]?).join) (xs.drop (i+1)) (accR++ [rv]) M9 Q) I8 ⟨_,M8,_,base e8,w8,qt rfl,fun rv M9 v H9 q e w r=>⟨rv,M9,w,e,r,q⟩⟩) fun y s9 ⟨yv,H9,I9,r9,rv,M9,w9,e9,rr9,hq9⟩=>?_
     have pD9:=I9.pin (D,{ cls:=.type "list",data:=.seq its.toArray k }) (war _ (List.mem_append_left _ waz));have hlen:its.length<=i:=by rw[<-rl.length,<-ra.length];exact hal
     refine call_meets F.slot_list_append ⟨_,pD9.1,rfl⟩ F.entry_list_append (F.args_list_append_2 _ _) (PySem.list_append D its.toArray k y (by rw[wak];omega)) ⟨pD9.1,?_⟩
     have q:=PySem.IsL.update pD9.1 (fun x_1=>x_1.push y)
     have hpush:its.toArray.push y=(its++ [y]).toArray:=by simp
     rw[hpush]at q;obtain⟨k',q⟩:∃ k',(s9.heap.update D (Obj.mapSeq fun x_1=>x_1.push y)).get? D=some { cls:=.type "list",data:=.seq (its++ [y]).toArray k' }:=⟨_,q⟩
     have I10:Inv (blk X scope cl C (nm++caps.map Prod.snd) s2 H2 fp) (qdx fp s6.heap) (vs6.map some++cv) H9 { s9 with heap:=s9.heap.update D (Obj.mapSeq fun x_1=>x_1.push y),toks:=s9.toks }:=by
      refine Inv.turned (it:=D) (I9.pins_of fun p hp=>I9.pin p (war _ (war _ hp))) (fun b o hb e=>(Heap.get?_update_other _ _ (Ne.symm hb)).trans e) pD9.2.1 pD9.2.2.1 (.inr (by show s2.heap.objs.size<=D;rw[hD];exact wac _)) (fun z c e=>?_) fun p hp=>?_
      · obtain⟨v,o,ho,hd⟩:=I2.cell z c (hcl1 z c e)
        exact wat (by have:=waj ho;rw[hD]at this;exact this)
      · have hp':p∈qdx fp s6.heap:=by simpa[blk]using hp
        exact hDfp p.1 (qg9 hp').1
     have I11:Inv (blk X scope cl C (nm++caps.map Prod.snd) s2 H2 fp) ([(D,{ cls:=.type "list",data:=.seq (its++ [y]).toArray k' })]++qdx fp s6.heap) (vs6.map some++cv) H9 { s9 with heap:=s9.heap.update D (Obj.mapSeq fun x_1=>x_1.push y),toks:=s9.toks }:=by
      refine I10.pins_of fun p hp=>?_
      rcases wap.mp hp with hp|hp
      · have:p=(D,{ cls:=.type "list",data:=.seq (its++ [y]).toArray k' }):=by simpa using hp
        subst this;exact⟨q,pD9.2.1,pD9.2.2.1,pD9.2.2.2.1,fun v=>by simp⟩
      · exact I10.pin p (war _ hp)
     exact next M9 H9 _ (accR++ [rv]) (accV++ [yv]) (its++ [y]) k' (by rw[wad,List.length_singleton];omega) I11 w9 (e8.trans e9) ((Reps.ext (e6.trans (e8.trans e9)) _ _ ra).append (Reps.cons rr9 Reps.nil)) (rl.append (.cons r9 .nil)) hq9
  · have ei:i=xs.length:=by omega
    subst ei;refine thn (T.done (blk X scope cl C (nm++caps.map Prod.snd) s2 H2 fp) rfl rfl rfl hc _ _ s' _ H' Nv I4 (fpB _ _ f4 (pD _)) st4 (hJ.stop _ H' M' e4 w4 (by rw[List.drop_length]at hq4;exact hq4.1) (wac _))) fun r s5 ⟨hr,I5⟩=>.inl ⟨hr,?_⟩
    rw[List.drop_length]at hq4;obtain⟨hok4,hq4⟩:=hq4;obtain⟨m5,hn5,_⟩:=I5.loc;have pD5:=I5.pin (D,{ cls:=.type "list",data:=.seq its.toArray k }) (war _ waz);have hC5:H' C=none:=I5.free;have lC:X.env.locals<C:=wai I2.lt (by rw[hD];exact hCle)
    obtain⟨HD,oHD,wHD,qHD⟩:∃ HD:HO,(∀ h':Heap,h'.get? D=some { cls:=.type "list",data:=.seq its.toArray k }->accV.length<=sizeLine->ObjOk X.prog X.w (upd H' D HD) h' D HD)/\(∀ o u,HD= .frz o u->qnD u=false)/\∃ H5,Thaw X.H₀ (upd H' D HD) H5/\Q0 (.ref D) H5/\H5 C=none:=by
     have keyD:∀ (HD:HO),∃ H5,Thaw X.H₀ (upd H' D HD) H5/\H5 C=none/\∃ H4,ExtW H' H4/\Ext H H4/\View X.K H4 (un M')/\H4 D=none/\H5=upd H4 D HD:=fun HD=>by
      obtain⟨H4,t4,e4',x4',v4⟩:=hJ.thaw H' M' e4 w4 hok4;rcases t4 with h4|⟨d,ob,u,h1,du,h0,rfl⟩
      · rw[h4]at v4 x4'
        exact⟨_,.inl rfl,by rw[qaa (Ne.symm hDC)];exact hC5,H',(Ext.refl _).w,x4',v4,pD5.2.1,rfl⟩
      · have nd:d≠D:=fun z=>by rw[z,pD5.2.1]at h1;cases h1
        have nc:d≠C:=fun z=>by rw[z,hC5]at h1;cases h1
        have h1':upd H' D HD d=some (.frz ob u):=by rw[qaa nd];exact h1
        have eq:upd (upd H' D HD) d u=upd (upd H' d u) D HD:=by
         funext b;unfold upd
         by_cases b1:b=d
         · subst b1;rw[if_pos rfl,if_neg nd,if_pos rfl]
         · rw[if_neg b1]
           by_cases b2:b=D
           · rw[if_pos b2,if_pos b2]
           · rw[if_neg b2,if_neg b2,if_neg b1]
        exact⟨_,.inr ⟨d,ob,u,h1',du,h0,rfl⟩,by rw[qaa nc.symm,qaa (Ne.symm hDC)];exact hC5,_,e4',x4',v4,by rw[qaa nd.symm];exact pD5.2.1,eq⟩
     cases md with
     |false=>
      obtain⟨H5,t5,c5,H4,x4,y4,v4,n4,rfl⟩:=keyD (.frz { cls:=.type "list",data:=.seq its.toArray k } (.lst accV));exact⟨.frz { cls:=.type "list",data:=.seq its.toArray k } (.lst accV),fun h' e z=>⟨e,z,its,k,rl,e⟩,fun o u z=>by cases z;rfl,_,t5,hk _ _ _ _ hq4 (y4.trans (Ext.new n4)) (v4.new n4) (qfq n4 (Reps.extw x4 _ _ ra)),c5⟩
     |true=>
      obtain⟨H5,t5,c5,H4,x4,y4,v4,n4,rfl⟩:=keyD (.lst accV);exact⟨.lst accV,fun h' e z=>⟨z,its,k,rl,e⟩,fun o u z=>(by cases z),_,t5,hk _ _ _ _ (hq4 D (v4.free n4)) (y4.trans (Ext.new n4)) (v4.newPut n4 ⟨accV,rfl,Reps.extw (x4.trans (Ext.new n4).w) _ _ ra⟩) (by simp only[Rep]),c5⟩
    obtain⟨H5,t5,q5,c5⟩:=qHD;refine fin D C s5 m5 H5 hn5 (fun h' sb=>t5.inv ?_) q5 c5 (Nat.ne_of_gt lC) (waw I2.ok.above (Nat.le_of_lt lC)) (fun y c e=>?_) fun p hp=>?_
    rotate_left
    · obtain⟨v,o,ho,_⟩:=I2.cell y c e
      exact wat (wai (waj ho) (by rw[hD];exact hCle))
    · exact wat (wai (waj (I2.pin p hp).1) (by rw[hD];exact hCle))
    have hDh:h'.get? D=some { cls:=.type "list",data:=.seq its.toArray k }:=sb.extBut _ _ hDC pD5.1;have hz':accV.length<=sizeLine:=by rw[<-ra.length];omega
    have hok5:HOk X.prog X.w (upd H' D HD) h':=fun b u q=>by
     by_cases hb:b=D
     · subst hb;rw[qah]at q;cases q
       exact oHD h' hDh hz'
     · rw[qaa hb]at q
       refine(I5.hok b u q).stay (fun c v hcb e=>sb.extBut c v ?_ e) (fun c e=>?_) fun c ys e=>?_
       · rcases hcb with rfl|e'
         · exact qao q hC5
         · exact qao e' hC5
       · rw[qaa (qao e pD5.2.1)];exact e
       · rw[qaa (qao e pD5.2.1)];exact e
    have un5:Un (frs X.stack) fp H2 (upd H' D HD) s2.heap h':=by
     have B:Un (frs X.stack) fp H2 H' s2.heap s5.heap:=I5.base;have nC:∀ b o,s2.heap.get? b=some o->b≠C:=fun b o e=>wat (wai (waj e) (by rw[hD];exact hCle))
     have nD:∀ b o,s2.heap.get? b=some o->b≠D:=fun b o e=>wat (by have:=waj e;rw[hD]at this;exact this)
     refine⟨fun b o a1 a2 a3 a4=>sb.extBut b o (nC b o a1) (B.keep b o a1 a2 a3 a4),fun b o a1 a2 a3 a4=>?_,fun b o a1 a2 a4=>?_,fun b o a1 a4=>?_,fun b ys a=>?_,fun b o u a=>?_,fun b ps a=>?_⟩
     · obtain⟨sl,e⟩:=B.slot b o a1 a2 a3 a4
       exact⟨sl,sb.extBut b _ (nC b o a1) e⟩
     · rw[qaa (nD b o a1)];exact B.free b o a1 a2 a4
     · obtain⟨o',e⟩:=B.there b o a1 a4
       exact⟨o',sb.extBut b o' (nC b o a1) e⟩
     · have e:=B.tups b ys a;rw[qaa (qao e pD5.2.1)];exact e
     · have e:=B.frzs b o u a;rw[qaa (qao e pD5.2.1)];exact e
     · obtain⟨more,e⟩:=B.tbls b ps a;exact⟨more,by rw[qaa (qao e pD5.2.1)];exact e⟩
    have I6:Inv X pins σ0 (upd H' D HD) { s5 with heap:=h' }:=I2.call' (ch:=fp) I5.os un5 hok5 I5.bare fun b hb=>⟨(f2 b hb).2.2.2.1,(f2 b hb).2.1,(f2 b hb).2.2.2.2.1,(f2 b hb).2.2.2.2.2⟩
    exact I6
 exact codeAny_compStart_list (W _ rfl) (T.self X.A 0 _ _ _ (T.keep _ _ _ st2 fun b _ o e=>old b o e) (W _ rfl))
def qgz:LEx->Option (LSt)
 | []=>some []
 | .Name x _::r=>(qgz r).map (x:: ·)
 |_::_=>none
def qEb(n:Nat):RV->Option (LR)
 | .tup xs=>if xs.length=n then some xs else none
 |_=>none
def qEc(r:RV):Option (LR):=some [r]
theorem qjD{es:LEx}{xs:LSt}:∀ (es:LEx) (xs:LSt) (j:Nat),qgz es=some xs->X.N.Nodup->(∀ i x,xs[i]? =some x->X.N[j+i]? =some x)->(∀ x∈xs,X.env.scope.names.lookup x=some .local)->PGs X es (qoL (List.range' j xs.length))/\(assignEach es X.env).length=xs.length/\(assignEach es X.env).findIdx? (·.1)=none
 | [],xs,j,h,_,_,_=>by cases h;exact⟨qlS,rfl,rfl⟩
 |e::r,xs,j,h,hnd,hN,hl=>by
  cases e<;>first|(cases h;done)|skip
  rename_i x p;cases e:qgz r with
  |none=>simp only[qgz,e]at h;cases h
  |some ys=>
   simp only[qgz,e]at h;cases h;obtain⟨a,b,c⟩:=qjD (es:=es) (xs:=xs) r ys (j+1) e hnd (fun i y hy=>by have:=hN (i+1) y (by simpa using hy);rw[<-this];congr 1;omega) fun y hy=>hl y (waq _ hy)
   have hx:=hl x waz;have hd:(assignEach (.Name x p::r) X.env)=(false,assign (.Name x p) X.env)::assignEach r X.env:=rfl;refine⟨?_,by rw[hd,wah,b];rfl,?_⟩
   · rw[wah,List.range'_succ]
     exact qjw (qf3 (i:=j) hnd (by simpa using hN 0 x rfl) (.inl hx) (.inr hx)) a
   · rw[hd,List.findIdx?_cons,c];rfl
theorem qmT{H:Hp}{Q:L2.St->Hp->Prop}:∀ (vs:LV) (pre vs0 cv:List (Option V)),vs0.length=vs.length->Q (pre++(vs.map some++cv)) H->qoL (List.range' pre.length vs.length) vs (pre++(vs0++cv)) H Q
 | [],pre,vs0,cv,h,q=>by
  have:vs0= []:=List.eq_nil_of_length_eq_zero h;subst this;exact⟨rfl,q⟩
 |v::vs,pre,vs0,cv,h,q=>by
  cases vs0 with
  |nil=>cases h
  |cons o r=>
   rw[wah,List.range'_succ];refine⟨v,vs,rfl,?_⟩;show qoL _ vs ((pre++(o::r++cv)).set pre.length (some v)) H Q;have e:(pre++(o::r++cv)).set pre.length (some v)=(pre++ [some v])++(r++cv):=by simp
   rw[e];have:=qmT (H:=H) (Q:=Q) vs (pre++ [some v]) r cv (by simpa using h) (by simpa using q)
   simpa using this
def qsK(tup:Bool)(tg:Expr)(nm:LSt):Prop:=match tup,tg with
 |false,.Name x _=>nm= [x]
 |true,.Tuple es _ _=>qgz es=some nm
 |_,_=>False
def qjP(tup:Bool)(n:Nat):RV->Option (LR):=match tup with
 |true=>qEb n
 |false=>qEc
theorem qjL{elt iter tg:Expr}{nm:LSt}{tup md:Bool}{scope:Scope}{pos:Pos}{ti:RTI}{tt:RTT}{te:RTE}{ifs:LEx}(caps:List (Nat×Str)){osc:Scope}{oN:LSt}(htg:qsK tup tg nm)
 (hc:X.calm=true) (hi:RPI X tg iter ti)
 (hif:∀ cl C s H fp,qsb (blk X scope cl C (nm++caps.map Prod.snd) s H fp) ifs tt)
 (hel:∀ cl C s H fp,RPE (blk X scope cl C (nm++caps.map Prod.snd) s H fp) elt te)
 (hX:X.env.scope=osc) (hN:X.N=oN)
 (hcaps:∀ p∈caps,oN[p.1]? =some p.2/\scope.names.lookup p.2=some .free/\(osc.names.lookup p.2=some .cell∨osc.names.lookup p.2=some .free))
 (hfr:∀ y∈scope.names,y.2= .free->(osc.names.lookup y.1=some .cell∨osc.names.lookup y.1=some .free))
 (hcell:∀ y∈scope.names,y.2≠.cell) (hkind:scope.kind= .function) (hnames:∀ y∈scope.names,y.2= .local->scope.names.lookup y.1=some .local) (hx:∀ x∈nm,scope.names.lookup x=some .local) (hnd:(nm++caps.map Prod.snd).Nodup)
 (hs:∀ v,foldedSetIterable iter X.env v=pure v) {pos':Pos} {pins:LAO} {s:Shared} {σ0:L2.St} {H:Hp} {Q0:VK} (I:Inv X pins σ0 H s) (hw:up X.K (qft (qjP tup nm.length) md ti (caps.map Prod.fst) tt te) σ0 H Q0) {use:Option (Value->Sem Unit)} {PP:VSP}
 (fin:∀ (D C:Addr) (s5:Shared) (m5:SOV) (H5:Hp),s5.heap.Ns C m5->(∀ h',Heap.SameBut C s5.heap h'->Inv X pins σ0 H5 { s5 with heap:=h' })->Q0 (.ref D) H5->H5 C=none->C≠X.env.locals->X.s₀.heap.objs.size<=C->(∀ y c,X.env.cells.lookup y=some c->c≠C)->(∀ p∈X.pn++pins,p.1≠C)->compPost (model X.prog X.w) X.A X.xe use PP (.ref D) C (.ok .next) s5):
 wpAny (model X.prog X.w) X.A (comprehension (.ListComp elt [⟨tg,iter,ifs,0⟩] scope pos) scope X.env pos' (newList []) false (eval iter X.env) use) PP X.xe s:=by
 refine qm4 (bd:=qjP tup nm.length) (md:=md) (nm:=nm) caps hc hi hif hel hX hN hcaps hfr hcell hkind hnames (fun r bs e=>?_) (fun cl C s2 H2 fp pins' s6 vs0 cv H6 rv xv u bs Q1 hl I6 r6 rr6 eb hQ=>?_) hs I hw fin
 · cases tup with
   |false=>
    cases tg<;>first|(exact False.elim htg)|skip
    have htg:nm=_:=htg;subst htg;cases e;rfl
   |true=>
    cases r<;>first|(cases(show none=some bs from e))|skip
    rename_i xs;have e':(if xs.length=nm.length then some xs else none)=some bs:=e
    split at e'
    · rename_i hh;cases e';exact hh
    · cases e'
 · have hls:∀ x∈nm,(blk X scope cl C (nm++caps.map Prod.snd) s2 H2 fp).env.scope.names.lookup x=some .local:=fun x h=>lookup_relabel_local (hx x h)
   cases tup with
   |false=>
    cases tg<;>first|(exact False.elim htg)|skip
    rename_i x px;have htg:nm=_:=htg;subst htg;cases eb;obtain⟨v0,rfl⟩:=List.length_eq_one_iff.mp hl;have hx0:=hls x (by simp)
    refine thn (qf3 (X:=blk X scope cl C (x::caps.map Prod.snd) s2 H2 fp) (i:=0) hnd rfl (.inl hx0) (.inr hx0) _ s6 _ H6 xv u (fun σ' H'=>σ'=(some xv::cv)/\H'=H6) I6 r6 ⟨rfl,rfl⟩) fun _ s7 h7=>?_
    obtain⟨σ7,H7,I7,q7,q7'⟩:=h7;subst q7 q7';exact hQ [xv] s7 (Reps.cons rr6 Reps.nil) I7
   |true=>
    cases tg<;>first|(exact False.elim htg)|skip
    rename_i es tk tp;have htg:qgz es=some nm:=htg;cases rv<;>first|(cases(show none=some bs from eb))|skip
    rename_i xs;have e':(if xs.length=nm.length then some xs else none)=some bs:=eb
    split at e'
    · rename_i hh;cases e'
      simp only[Rep]at rr6;obtain⟨pa,pvs,rfl,sq6,rp6⟩:=rr6;have hlen:pvs.length=nm.length:=by rw[<-rp6.length];exact hh
      obtain⟨g1,g2,g3⟩:=qjD (X:=blk X scope cl C (nm++caps.map Prod.snd) s2 H2 fp) (es:=es) (xs:=nm) es nm 0 htg hnd (fun i x e=>by
       show(nm++caps.map Prod.snd)[0+i]? =some x;rw[Nat.zero_add,List.getElem?_append_left (List.getElem?_eq_some_iff.mp e).1];exact e) hls
      have pg:PG (blk X scope cl C (nm++caps.map Prod.snd) s2 H2 fp) (.Tuple es tk tp) (qA4 X.K nm.length (qoL (List.range' 0 nm.length))):=qpr (n:=nm.length) hc g1 g2 g3;refine thn (pg _ s6 _ H6 _ u (fun σ' H'=>σ'=(pvs.map some++cv)/\H'=H6) I6 r6 ⟨pa,pvs,rfl,SqT.of sq6,hlen,?_⟩) fun _ s7 h7=>?_
      · have:=qmT (H:=H6) (Q:=fun σ' H'=>σ'=(pvs.map some++cv)/\H'=H6) pvs [] vs0 cv (by rw[hlen];exact hl) ⟨rfl,rfl⟩
        rw[hlen]at this;exact this
      · obtain⟨σ7,H7,I7,q7,q7'⟩:=h7
        subst q7 q7';exact hQ pvs s7 rp6 I7
    · cases e'
end
def qhC:RV->Option Key
 | .int i=>some (.inl i)
 | .str x=>some (.inr x)
 |_=>none
def qbC{α:Type}(kvs:List (Key×α))(k:Key):Option α:=(kvs.find? fun p=>decide (p.1=k)).map (·.2)
theorem qdo{K:Frg}{H:Hp}{a:RV}{x:V}{k:Key}(e:qhC a=some k)(r:Rep K H a x):x=kV k:=by
 cases a with
 |int i=>cases e;simp only[Rep]at r;exact r
 |str y=>cases e;simp only[Rep]at r;exact r
 |_=>cases e
theorem qbZ{K:Frg}{H:Hp}{k:Key}:∀ {kvs:LKR} {ws:List (Key×V)},RepP K H kvs ws->(∀ r,qbC kvs k=some r->∃ v,qe0 ws k=some v/\Rep K H r v)/\(qbC kvs k=none->qe0 ws k=none)
 | [],ws,h=>by
  have h:ws= []:=h;subst h;exact⟨fun r e=>(by cases e),fun _=>rfl⟩
 |(j,x)::t,ws,h=>by
  obtain⟨v,u,rfl,h1,h2⟩:=h;have ih:=qbZ (k:=k) h2;unfold qbC;rw[List.find?_cons]
  by_cases hj:j=k
  · rw[decide_eq_true (show(j,x).1=k from hj)]
    refine⟨fun r e=>⟨v,qcB (p:=(j,v)) hj,?_⟩,fun e=>(by cases e)⟩
    cases e;exact h1
  · rw[decide_eq_false (show ¬(j,x).1=k from hj)]
    refine⟨fun r e=>?_,fun e=>?_⟩
    · rw[qbH (p:=(j,v)) hj];exact ih.1 r e
    · rw[qbH (p:=(j,v)) hj];exact ih.2 e
theorem qdy:∀ (ws acc:List (Key×V)),((acc++ws).map Prod.fst).Nodup->qcK acc ws=acc++ws
 | [],acc,_=>by simp[qcK]
 |p::r,acc,h=>by
  have e:qe0 acc p.1=none:=by
   cases q:qe0 acc p.1 with
   |none=>rfl
   |some v=>
    have m:=qqc q;rw[wao,wae,List.nodup_append]at h;exact absurd rfl (h.2.2 p.1 m p.1 waz)
  show qcK (putK acc p.1 p.2) r=_;rw[qn5 _ e,qdy r (acc++ [(p.1,p.2)]) (by simpa using h)]
  simp
structure KTab(P:Program)(w:World)(K:Frg)(mg:SOV)(x:Str)(kvs:LKR):Prop where
 ex:∃ (a:Addr) (vs:List (Key×Value)) (ws:List (Key×V)),mg x=some (.ref a)/\(a==sysModules)=false/\(∀ h:Heap,K.In h->h.DictOf (qap P w) a vs)/\KV ws vs/\∀ H,RepP K H kvs ws
def qnm(w:World):List DictEntry->List (Str×Value)->Prop
 | [],[]=>True
 |e::es,(x,v)::r=>(∃ t,e.key= .str x t)/\e.hash=hashStr w x/\e.val=v/\qnm w es r
 |_,_=>False
theorem qeI{P:Program}{w:World}:∀ {es:List DictEntry} {vs:List (Str×Value)},qnm w es vs->
 (∀ e∈es,∃ k,(qap P w).is k e.key=true/\e.hash=(qap P w).hash k)/\Pairs (qap P w) es (vs.map fun p=>((Sum.inr p.1:Key),p.2))
 | [],[],_=>⟨fun _ h=>(by cases h),Pairs.nil⟩
 |e::es,(x,v)::r,h=>by
  obtain⟨⟨t,h1⟩,h2,h3,h4⟩:=h;obtain⟨ih1,ih2⟩:=qeI (P:=P) (w:=w) h4;have hi:(qap P w).is (.inr x) e.key=true:=by rw[h1];exact qey P w x t
  refine⟨fun e' he=>?_,?_⟩
  · rcases waf.mp he with rfl|he
    · exact⟨.inr x,hi,h2⟩
    · exact ih1 e' he
  · subst h3
    exact Pairs.cons hi rfl ih2
theorem qex:∀ {l:LSt},l.Nodup->(l.map (Sum.inr:Str->Key)).Nodup
 | [],_=>waN
 |a::r,h=>by
  obtain⟨h1,h2⟩:=waH.mp h;rw[wae];refine waH.mpr ⟨fun m=>?_,qex h2⟩
  obtain⟨b,hb,e⟩:=wan.mp m;cases e;exact h1 hb
theorem qmg{P:Program}{w:World}{K:Frg}{mg:SOV}{x:Str}{a:Addr}{es:Array DictEntry}{ep:Nat}{sl:Array (OVl)}{vs:List (Str×Value)}{kvs:LKR}{ws:List (Key×V)}
 (hm:mg x=some (.ref a)) (l:K.lookup a=some ⟨.type "dict",none,.dict es ep,sl⟩) (ha:(a==sysModules)=false) (hr:qnm w es.toList vs) (hn:(vs.map Prod.fst).Nodup)
 (hsl:Obj.ExactDict ⟨.type "dict",none,.dict es ep,sl⟩) (hk:KV ws (vs.map fun p=>((Sum.inr p.1:Key),p.2))) (hp:∀ H,RepP K H kvs ws):KTab P w K mg x kvs:=by
 obtain⟨h1,h2⟩:=qeI (P:=P) hr;refine⟨a,_,ws,hm,ha,fun h X=>⟨_,es,ep,X _ _ l,hsl,rfl,fun e he=>h1 e (by simpa using he),h2,?_⟩,hk,hp⟩
 have:(vs.map fun p=>((Sum.inr p.1:Key),p.2)).map (·.1)=(vs.map Prod.fst).map Sum.inr:=by simp[was,Function.comp_def]
 rw[this];exact qex hn
section
variable {X:Cx}
def qvm(kvs:LKR)(te:RTE):RTE:=fun σ M Q=>te σ M fun k M1=>match qhC k with
 |some key=>(match qbC kvs key with|some v=>Q v M1|none=>False)
 |none=>False
theorem qDj{x:Str}{kvs:LKR}{e:Expr}{te:RTE}{p pos:Pos}(T:KTab X.prog X.w X.K X.mg x kvs)(he:RPE X e te)(hs:qvG e:=by intro _ _;rfl)(hg:Gl X x:=by rfl)(hd:(x==("__debug__":Str))=false:=by decide):
 RPE X (.Subscript (.Name x p) e pos) (qvm kvs te):=by
 obtain⟨a,vs,ws,hm,ha,hD,hk,hr⟩:=T.ex;intro pins s σ0 H Q0 I h;obtain⟨σ,M,Q,hs',hv,ht,hq⟩:=h;refine qk9 PySem.F.slot_dict_getitem.lookup hs (qcv I hg hm (thn (he pins s σ0 H (fun v H1=>∃ r M1,Rep X.K H1 r v/\Ext H H1/\View X.K H1 M1/\(match qhC r with
  |some key=>(match qbC kvs key with|some v=>Q v M1|none=>False)
  |none=>False)) I ⟨σ,M,_,hs',hv,ht,fun r M1 v H1 q e w r1=>⟨r,M1,r1,e,w,q⟩⟩) fun iv s2 ⟨y,H2,I2,ry,r,M2,rr,e2,w2,q2⟩=>?_) hd)
 have dd:=hD _ I2.kIn;refine⟨dd.typeIs,?_⟩;cases ek:qhC r with
 |none=>rw[ek]at q2;exact q2.elim
 |some key=>
  rw[ek]at q2;simp only at q2;cases el:qbC kvs key with
  |none=>rw[el]at q2;exact q2.elim
  |some rv=>
   rw[el]at q2;simp only at q2;obtain⟨v,e1,r1⟩:=(qbZ (k:=key) (hr H2)).1 rv el;have:=qdo ek rr;subst this;obtain⟨w',hw,rw'⟩:=RelO.some_of (v:=v) (o:=valueAt vs key) (by rw[<-e1];exact hk.val key)
   exact wpAny_getItem_of (qfh ry) dd.mapOf hw ⟨v,H2,I2.tok _,rw',hq rv M2 v H2 q2 e2 w2 r1⟩
theorem qjY{K:Frg}{H:Hp}{kvs:LKR}{ws:List (Key×V)}{vs:List (Key×Value)}{key:Key}(hk:KV ws vs)(hr:RepP K H kvs ws):(valueAt vs key).isSome=(qbC kvs key).isSome:=by
 rw[<-(hk.val key).isSome_eq];cases el:qbC kvs key with
 |none=>rw[(qbZ (k:=key) hr).2 el];rfl
 |some rv=>obtain⟨v,e1,_⟩:=(qbZ (k:=key) hr).1 rv el;rw[e1];rfl
def drop(M:RM)(p:Addr):RM:=fun b=>if b=p then none else M b
def kvI(l:List (Str×Int)):LKR:=l.map fun p=>((Sum.inr p.1:Key),RV.int p.2)
def wsI(l:List (Str×Int)):List (Key×V):=l.map fun p=>((Sum.inr p.1:Key),V.int p.2)
theorem qpi{K:Frg}{H:Hp}:∀ l:List (Str×Int),RepP K H (kvI l) (wsI l)
 | []=>rfl
 |p::r=>⟨V.int p.2,wsI r,rfl,by simp only[Rep],qpi r⟩
end
theorem qwE{P:Program}{w:World}{K:Frg}{mg:SOV}{base:Heap}{x qual:Str}{st:Stmt}{f:Addr}{fd:FuncData}{N ps:LSt}{k:Nat}{sp:RSp}{t:RTS}(F:Fun K x qual st f fd)(S:qds N ps (qax st))
 (len:∀ rs M Q,sp rs M Q->rs.length=ps.length)
 (term:∀ (cdv:Value) (A:Around) (outer:List Env) (s:Shared) (H:Hp) (E:XK),Room k (A.deeper (envOfC qual (qax st) s.heap.objs.size f cdv))->qnF (qpU CX0 P w K mg base N qual (qax st) f cdv A outer s H E).nox (qcA st) t)
 (body:∀ rs M Q,sp rs M Q->t { nx:=fun _ M'=>Q .non M',rt:=Q } (qbS N rs) M):qdC P w K mg base CX0 (k+1) f fd ps (qgt K sp):=by
 refine F.ok S (fun vs H Q0 E h=>?_) fun cdv A outer s H vs Q0 E hr h=>?_
 · obtain⟨rs,M,Q,rr,hv,hq,hk⟩:=h
   rw[<-rr.length];exact len rs M Q hq
 · obtain⟨rs,M,Q,rr,hv,hq,hk⟩:=h
   refine⟨_,term cdv A outer s H E hr,qbS N rs,M,{ nx:=fun _ M'=>Q .non M',rt:=Q },qlb rr,hv,body rs M Q hq,⟨fun σ M' σ0 H' q e w r=>hk .non M' .non H' q e w (by simp only[Rep]),hk,fun _ _ _ _ z=>z.elim,fun _ _ _ _ z=>z.elim⟩⟩
theorem qu1:bootBuiltins "len" =some (.builtin "len"):=by decide+kernel
theorem qgq:bootBuiltins "isinstance" =some (.builtin "isinstance"):=by decide+kernel
theorem qu0:bootBuiltins "ord" =some (.builtin "ord"):=by decide+kernel
theorem qu3:bootBuiltins "all" =some (.builtin "all"):=by decide+kernel
theorem qjN:bootBuiltins "tuple" =some (.type "tuple"):=by decide+kernel
theorem qrZ:bootBuiltins "list" =some (.type "list"):=by decide+kernel
theorem qpW:bootBuiltins "int" =some (.type "int"):=by decide+kernel
theorem qr1:bootBuiltins "bool" =some (.type "bool"):=by decide+kernel
theorem quZ:bootBuiltins "str" =some (.type "str"):=by decide+kernel
section
variable {X:Cx}{pos:Pos}
theorem qqx(hm:X.mg "int" =none)(hg:Gl X "int":=by rfl):RPE X (.Name "int" pos) (rC (.ty "int")):=qlB hm qpW (v:=.ty "int") rfl (fun H=>by simp only[Rep]) hg
theorem qnT(hm:X.mg "bool" =none)(hg:Gl X "bool":=by rfl):RPE X (.Name "bool" pos) (rC (.ty "bool")):=qlB hm qr1 (v:=.ty "bool") rfl (fun H=>by simp only[Rep]) hg
theorem qqw(hm:X.mg "str" =none)(hg:Gl X "str":=by rfl):RPE X (.Name "str" pos) (rC (.ty "str")):=qlB hm quZ (v:=.ty "str") rfl (fun H=>by simp only[Rep]) hg
theorem qlv(hm:X.mg "tuple" =none)(hg:Gl X "tuple":=by rfl):RPE X (.Name "tuple" pos) (rC (.ty "tuple")):=qlB hm qjN (v:=.ty "tuple") rfl (fun H=>by simp only[Rep]) hg
theorem qnS(hm:X.mg "list" =none)(hg:Gl X "list":=by rfl):RPE X (.Name "list" pos) (rC (.ty "list")):=qlB hm qrZ (v:=.ty "list") rfl (fun H=>by simp only[Rep]) hg
def qyj(mg:SOV)(x:Str)(i:Int):Prop:=∃ t,mg x=some (.int i t)
theorem rgi{x:Str}{i:Int}(h:qyj X.mg x i)(hg:Gl X x:=by rfl)(hd:(x==("__debug__":Str))=false:=by decide):RPE X (.Name x pos) (rC (.int i)):=by
 obtain⟨t,hm⟩:=h;exact qs7 hm (v:=.int i) ⟨t,rfl⟩ (fun H=>by simp only[Rep]) hg hd
def qvf(K:Frg)(a:Addr)(ss:LSt):Prop:=∃ (o:Obj) (its:Array Value) (n:Nat),K.lookup a=some o/\o.cls= .type "tuple"/\o.data= .seq its n/\its.size<=sizeLine/\Vals (ss.map V.str) its.toList
def qsa(K:Frg)(mg:SOV)(x:Str)(ss:LSt):Prop:=∃ a,mg x=some (.ref a)/\qvf K a ss
def rCT(K:Frg)(ss:LSt):RTE:=fun _ M Q=>∀ p,qvf K p ss->Q (.ref p) M
theorem rgt{x:Str}{ss:LSt}(h:qsa X.K X.mg x ss)(hg:Gl X x:=by rfl)(hd:(x==("__debug__":Str))=false:=by decide):RPE X (.Name x pos) (rCT X.K ss):=by
 obtain⟨a,hm,hr⟩:=h;refine PE.imp (qs7 (r:=.ref a) hm (v:=.ref a) rfl (fun H=>by simp only[Rep]) hg hd) fun σ0 H Q0 h=>?_
 obtain⟨σ,M,Q,hs,hv,ht,hk⟩:=h;exact⟨σ,M,Q,hs,hv,ht a hr,hk⟩
end
theorem qqh{K:Frg}{mg:SOV}{x:Str}{a:Addr}{ss:LSt}{its:Array Value}{n:Nat}{d:Option Addr}{sl:Array (OVl)}(hm:mg x=some (.ref a))(l:K.lookup a=some ⟨.type "tuple",d,.seq its n,sl⟩)(hz:its.size<=sizeLine)
 (hv:Vals (ss.map V.str) its.toList):qsa K mg x ss:=⟨a,hm,_,its,n,l,rfl,rfl,hz,hv⟩
theorem qub{K:Frg}{sp:RSp}{H:Hp}{a:Addr}{ns:List Int}(hO:qvF H)(hS:SqL K H a (ns.map V.int))(h:sp [.ls (ns.map RV.int)] (fun _=>none) (fun v _=>v= .bl true)):qgt K sp [.ref a] H (fun v _=>v= .bl true) (fun _ _ _=>False):=by
 have hr:∀ l:List Int,Reps K H (l.map RV.int) (l.map V.int):=fun l=>by
  induction l with
  |nil=>exact Reps.nil
  |cons s r ih=>exact Reps.cons (by simp only[Rep]) ih
 have hf:Fz K H a (ns.map V.int):=by
  rcases hS with(e|⟨o,e⟩)|e
  · rcases hO a with z|⟨o,xs,z⟩
    · rw[e]at z;cases z
    · rw[e]at z;cases z
  · exact .inl ⟨o,e⟩
  · exact .inr e
 refine⟨[.ls (ns.map RV.int)],fun _=>none,fun v _=>v= .bl true,Reps.cons (by simp only[Rep];exact⟨a,_,rfl,hf,hr ns⟩) Reps.nil,fun _ _ z=>(by cases z),h,fun rv M' v H' q _ _ r=>?_⟩
 have q':rv= .bl true:=q;subst q';simpa only[Rep]using r
structure qqa(N:LSt)(sc:Scope):Prop where
 nd:N.Nodup
 loc:∀ x∈N,sc.names.lookup x=some .local∨sc.names.lookup x=some .cell
 dbg:∀ x∈N,(x==("__debug__":Str))=false/\(x==("__classdict__":Str))=false
section
variable {X:Cx}{x:Str}{pos pos':Pos}
structure VisB(X:Cx):Prop where
 vis:∀ x∈X.N,Vis X.env.scope x
 dbg:∀ x∈X.N,(x==("__debug__":Str))=false/\(x==("__classdict__":Str))=false
theorem glB{scope:Scope}{cl:List (Str×Addr)}{C:Addr}{Nc:LSt}{s:Shared}{H:Hp}{fp:List Addr}(h:scope.names.lookup x=some .globalImplicit):Gl (blk X scope cl C Nc s H fp) x:=by
 show(scope.names.map (qgV X.env)).lookup x=_;rw[qbJ];rw[qbK]at h;cases e:scope.names.find? fun p=>x==p.1 with
 |none=>rw[e]at h;cases h
 |some p=>
  rw[e]at h;have h':p.2= .globalImplicit:=Option.some.inj h;show some (qgV X.env p).2=_;rcases qfW X.env p with z|z
  · rw[z,h']
  · rw[h']at z;cases z.2
end
def qnl(w:World):List DictEntry->List (Str×Int)->Prop
 | [],[]=>True
 |e::es,(x,i)::r=>(∃ t,e.key= .str x t)/\e.hash=hashStr w x/\(∃ t,e.val= .int i t)/\qnl w es r
 |_,_=>False
theorem qpz{w:World}:∀ {es:List DictEntry} {l:List (Str×Int)},qnl w es l->∃ vs:List (Str×Value),qnm w es vs/\vs.map Prod.fst=l.map Prod.fst/\KV (wsI l) (vs.map fun p=>((Sum.inr p.1:Key),p.2))
 | [],[],_=>⟨[],trivial,rfl,.nil⟩
 |e::es,(x,i)::r,h=>by
  obtain⟨h1,h2,⟨t,h3⟩,h4⟩:=h;obtain⟨vs,a,b,c⟩:=qpz h4;exact⟨(x,.int i t)::vs,⟨h1,h2,h3,a⟩,by simp[b],.cons ⟨rfl,t,rfl⟩ c⟩
theorem qoA{P:Program}{w:World}{K:Frg}{mg:SOV}{x:Str}{a:Addr}{es:Array DictEntry}{ep:Nat}{l:List (Str×Int)}
 (hm:mg x=some (.ref a)) (lk:K.lookup a=some ⟨.type "dict",none,.dict es ep,#[]⟩) (ha:(a==sysModules)=false) (hr:qnl w es.toList l) (hn:(l.map Prod.fst).Nodup):KTab P w K mg x (kvI l):=by
 obtain⟨vs,h1,h2,h3⟩:=qpz hr;exact qmg hm lk ha h1 (by rw[h2];exact hn) ⟨rfl,rfl,rfl⟩ h3 fun H=>qpi l
theorem qne{h:Heap}{e:Value->Bool}{p:RV->Bool}:∀ {xs:LR} {us:LVl},Dens h xs us->(∀ x∈xs,∀ u,Den h x u->e u=p x)->us.any e=xs.any p
 | [],us,d,_=>by simp only[Dens]at d;subst d;rfl
 |x::xs,us,d,k=>by
  simp only[Dens]at d;obtain⟨u,r,rfl,d1,d2⟩:=d;rw[waL,waL,k x waz u d1,qne d2 fun y hy=>k y (waq _ hy)]
theorem ql6{h:Heap}:∀ {xs:LR} {us:LVl},Dens h xs us->∀ u∈us,∃ x∈xs,Den h x u
 | [],us,d,u,hu=>by simp only[Dens]at d;subst d;cases hu
 |x::xs,us,d,u,hu=>by
  simp only[Dens]at d;obtain⟨w,r,rfl,d1,d2⟩:=d;rcases waf.mp hu with rfl|hu
  · exact⟨x,waz,d1⟩
  · obtain⟨y,hy,dy⟩:=ql6 d2 u hu
    exact⟨y,waq _ hy,dy⟩
open Classical in
noncomputable def eqD (h:Heap)(a:RV)(w:Value):Bool:=if q:∃ r,okR 15 r=true/\Den h r w then eqR (choose q) a else false
theorem qpS{h:Heap}{a x:RV}{u:Value}(o:okR 15 x=true)(d:Den h x u):eqD h a u=eqR x a:=by
 have q:∃ r,okR 15 r=true/\Den h r u:=⟨x,o,d⟩;unfold eqD;rw[dif_pos q];have e:=qjg 15 _ x u (Classical.choose_spec q).1 o (Classical.choose_spec q).2 d;rw[e]
def inR(x:RV)(xs:LR):Bool:=xs.any fun y=>eqR y x
def qvr(neg:Bool):RR2:=fun x y M Q=>match y with
 | .tup xs=>okR 15 x=true/\xs.all (okR 15)=true/\Q (.bl (if neg then !inR x xs else inR x xs)) M
 | .ls xs=>okR 15 x=true/\xs.all (okR 15)=true/\Q (.bl (if neg then !inR x xs else inR x xs)) M
 |_=>False
section
variable {X:Cx}
theorem qb6{s:Shared}{A:Around}{xs:LR}{its:LVl}{a:RV}{v:Value}(hu:A.units+15<cLine)(os:xs.all (okR 15)=true)(oa:okR 15 a=true)(d:Dens s.heap xs its)(da:Den s.heap a v):
 (∀ w,w∈its.toArray->SeqAt.EqAt A s w v (eqD s.heap a w))/\its.toArray.any (eqD s.heap a)=inR a xs:=by
 have os':∀ x∈xs,okR 15 x=true:=by simpa[wav]using os
 refine⟨fun w hw=>?_,?_⟩
 · obtain⟨x,hx,dx⟩:=ql6 d w (by simpa using hw)
   rw[qpS (os' x hx) dx];exact qgm 15 x a A s w v (os' x hx) oa dx da hu
 · rw[show its.toArray.any (eqD s.heap a)=its.any (eqD s.heap a) by simp]
   exact qne d fun x hx u du=>qpS (os' x hx) du
theorem qom{xs:LR}(os:xs.all (okR 15)=true):okR 16 (.tup xs)=true/\okR 16 (.ls xs)=true:=⟨os,os⟩
theorem oin(hu:X.A.units+64<cLine):ROp X (compareOp .In) (qvr false):=by
 intro pins s σ H x y v u Q0 I rx ry h;obtain⟨a,b,M,Q,ra,rb,hv,hq,hk⟩:=h;cases b with
 |tup xs=>
  obtain⟨oa,os,hq⟩:=hq;have d:=qb5 I 16 (.tup xs) y u (qom os).1 rb ry;simp only[Den]at d;obtain⟨p,its,rfl,ht,ds⟩:=d;have z:=qb6 (A:=X.A.in1) (by rw[in1_units];omega) os oa ds (qb5 I 15 a x v oa ra rx)
  refine SeqAt.in_tupleAt _ ht z.1 ⟨.bl (inR a xs),H,I,by rw[z.2];rfl,hk _ M _ H hq (.refl H) hv (by simp only[Rep];rfl)⟩
 |ls xs=>
  obtain⟨oa,os,hq⟩:=hq;have d:=qb5 I 16 (.ls xs) y u (qom os).2 rb ry;simp only[Den]at d;obtain⟨p,its,rfl,ht,ds⟩:=d;have z:=qb6 (A:=X.A.in1) (by rw[in1_units];omega) os oa ds (qb5 I 15 a x v oa ra rx)
  refine SeqAt.in_listAt _ ht z.1 ⟨.bl (inR a xs),H,I,by rw[z.2];rfl,hk _ M _ H hq (.refl H) hv (by simp only[Rep];rfl)⟩
 |_=>exact(show False from hq).elim
theorem qt2(hu:X.A.units+64<cLine):ROp X (compareOp .NotIn) (qvr true):=by
 intro pins s σ H x y v u Q0 I rx ry h;obtain⟨a,b,M,Q,ra,rb,hv,hq,hk⟩:=h;cases b with
 |tup xs=>
  obtain⟨oa,os,hq⟩:=hq;have d:=qb5 I 16 (.tup xs) y u (qom os).1 rb ry;simp only[Den]at d;obtain⟨p,its,rfl,ht,ds⟩:=d;have z:=qb6 (A:=X.A.in1) (by rw[in1_units];omega) os oa ds (qb5 I 15 a x v oa ra rx)
  refine SeqAt.notIn_tupleAt _ ht z.1 ⟨.bl (!inR a xs),H,I,by rw[z.2];rfl,hk _ M _ H hq (.refl H) hv (by simp only[Rep];rfl)⟩
 |ls xs=>
  obtain⟨oa,os,hq⟩:=hq;have d:=qb5 I 16 (.ls xs) y u (qom os).2 rb ry;simp only[Den]at d;obtain⟨p,its,rfl,ht,ds⟩:=d;have z:=qb6 (A:=X.A.in1) (by rw[in1_units];omega) os oa ds (qb5 I 15 a x v oa ra rx)
  refine SeqAt.notIn_listAt _ ht z.1 ⟨.bl (!inR a xs),H,I,by rw[z.2];rfl,hk _ M _ H hq (.refl H) hv (by simp only[Rep];rfl)⟩
 |_=>exact(show False from hq).elim
def qAJ:LR->RM->RVK->Prop:=fun rs M Q=>match rs with
 | [.str x]=>x.length=1/\Q (.int (x.cps.getD 0 0:Nat)) M
 |_=>False
theorem qDY:qbe X (.builtin "ord") (upC X.K qAJ):=by
 intro pins s σ H xs us Q0 I rl h;obtain⟨rs,M,Q,rr,hv,hq,hk⟩:=h
 match rs,hq with
 | [.str x],hq=>
  obtain⟨hl,hq⟩:=hq;simp only[Reps,Rep]at rr;obtain⟨v,r,rfl,rfl,rfl⟩:=rr;exact qoY pins s σ H _ us Q0 I rl ⟨x,rfl,hl,hk _ M _ H hq (.refl H) hv (by simp only[Rep])⟩
def qvq(K:Frg)(neg:Bool):RR2:=fun x y M Q=>match y with
 | .ref p=>∃ ss,qvf K p ss/\okR 15 x=true/\Q (.bl (if neg then !inR x (ss.map RV.str)else inR x (ss.map RV.str))) M
 |_=>False
theorem qhS{h:Heap}:∀ {ss:LSt} {its:LVl},Vals (ss.map V.str) its->Dens h (ss.map RV.str) its
 | [],_,r=>by rw[wa4]at r;cases r;simp only[wa4,Dens]
 |s::ss,_,r=>by
  rw[wae]at r;cases r with
  |cons a t=>rw[wae];simp only[Dens,Den];exact⟨_,_,rfl,a,qhS t⟩
theorem qpL{pins:LAO}{s:Shared}{σ:L2.St}{H:Hp}(hu:X.A.units+64<cLine)(I:Inv X pins σ H s){a:RV}{x:V}{v:Value}{p:Addr}{ss:LSt}(hp:qvf X.K p ss)(oa:okR 15 a=true)(ra:Rep X.K H a x)(rx:RelV x v):
 ∃ its:LVl,IsTup s.heap p its.toArray/\(∀ w,w∈its.toArray->SeqAt.EqAt X.A.in1 s w v (eqD s.heap a w))/\its.toArray.any (eqD s.heap a)=inR a (ss.map RV.str):=by
 obtain⟨its,hvs,ht,_⟩:=I.tuple (a:=p) (xs:=ss.map V.str) (.inr hp);have os:(ss.map RV.str).all (okR 15)=true:=by simp[wav,okR]
 have z:=qb6 (A:=X.A.in1) (by rw[in1_units];omega) os oa (qhS hvs) (qb5 I 15 a x v oa ra rx)
 exact⟨its,ht,z.1,z.2⟩
theorem qDF(hu:X.A.units+64<cLine):ROp X (compareOp .In) (qvq X.K false):=by
 intro pins s σ H x y v u Q0 I rx ry h;obtain⟨a,b,M,Q,ra,rb,hv,hq,hk⟩:=h;cases b with
 |ref p=>
  obtain⟨ss,hp,oa,hq⟩:=hq;simp only[Rep]at rb;subst rb;cases(show u=Value.ref p from ry)
  obtain⟨its,ht,z1,z2⟩:=qpL hu I hp oa ra rx;exact SeqAt.in_tupleAt _ ht z1 ⟨.bl (inR a (ss.map RV.str)),H,I,by rw[z2];rfl,hk _ M _ H hq (.refl H) hv (by simp only[Rep];rfl)⟩
 |_=>exact(show False from hq).elim
theorem qq6(hu:X.A.units+64<cLine):ROp X (compareOp .NotIn) (qvq X.K true):=by
 intro pins s σ H x y v u Q0 I rx ry h;obtain⟨a,b,M,Q,ra,rb,hv,hq,hk⟩:=h;cases b with
 |ref p=>
  obtain⟨ss,hp,oa,hq⟩:=hq;simp only[Rep]at rb;subst rb;cases(show u=Value.ref p from ry)
  obtain⟨its,ht,z1,z2⟩:=qpL hu I hp oa ra rx;exact SeqAt.notIn_tupleAt _ ht z1 ⟨.bl (!inR a (ss.map RV.str)),H,I,by rw[z2];rfl,hk _ M _ H hq (.refl H) hv (by simp only[Rep];rfl)⟩
 |_=>exact(show False from hq).elim
def qsh(neg:Bool)(ss:LSt)(ty:RTE):RTE:=fun σ M Q=>ty σ M fun x M1=>okR 15 x=true/\Q (.bl (if neg then !inR x (ss.map RV.str)else inR x (ss.map RV.str))) M1
def qAZ:LR->RM->RVK->Prop:=fun rs M Q=>∃ bs:List Bool,rs= [.ls (bs.map RV.bl)]/\Q (.bl (bs.all id)) M
theorem qiw{K:Frg}{H:Hp}:∀ {bs:List Bool} {vs:LV},Reps K H (bs.map RV.bl) vs->vs=bs.map V.bl
 | [],vs,h=>by simpa only[wa4,Reps]using h
 |b::bs,vs,h=>by
  simp only[wae,Reps,Rep]at h;obtain⟨v,r,rfl,rfl,h2⟩:=h;rw[qiw h2];rfl
theorem qib:∀ {bs:List Bool} {us:LVl},Vals (bs.map V.bl) us->us=bs.map Value.bool
 | [],us,h=>by cases h;rfl
 |b::bs,us,h=>by
  obtain⟨u,r,rfl,h1,h2⟩:=Vals.cons_inv h;cases h1;rw[qib h2];rfl
theorem range_all(bs:List Bool):(List.range bs.length).all (fun i=>bs.getD i true)=bs.all id:=by
 induction bs with
 |nil=>rfl
 |cons b bs ih=>
  rw[wah,wa1,wal,List.all_map,wal];have:((fun i=>(b::bs).getD i true) ∘ Nat.succ)=fun i=>bs.getD i true:=by funext i;rfl
  rw[this,ih];rfl
theorem qo0(hc:X.calm=true):qbe X (.builtin "all") (upC X.K qAZ):=by
 intro pins s σ H xs us Q0 I rl h;obtain⟨rs,M,Q,rr,hv,⟨bs,rfl,hq⟩,hk⟩:=h;obtain⟨v,rfl,r1⟩:=rr.one;simp only[Rep]at r1;obtain⟨a,vs,rfl,h1,h2⟩:=r1;have:=qiw h2;subst this;obtain⟨u,rfl,ru⟩:=rl.one;cases ru;obtain⟨its,rv,p,hz⟩:=I.list h1.sq;have:=qib rv;subst this;have hlt:a<s.heap.objs.size:=by obtain⟨o,n,e,_⟩:=p;exact waj e
 refine call_all_walk (wpAny_pyIter_list p.isList ?_);have hd:X.A.in1.handled=none:=I.ok.hd hc;refine⟨s.heap.objs.size,_,_,_,_,_,fun i=>bs.getD i true,rfl,Walks.list hd s.heap.objs.size a (wat hlt) (bs.map Value.bool).toArray,⟨⟨_,Heap.get?_push_size _ rfl,rfl,rfl⟩,p.isList.push _⟩,?_,?_⟩
 · intro i v s' Q' E' hP hQ'
   have hP':(bs.map Value.bool)[i]? =some v:=by simpa using hP
   rw[List.getElem?_map]at hP';cases e:bs[i]? with
   |none=>rw[e]at hP';cases hP'
   |some b=>
    rw[e]at hP';have hb:bs.getD i true=b:=by rw[List.getD_eq_getElem?_getD,e];rfl
    cases hP';have hQ2:Q' (bs.getD i true) s':=hQ';rw[hb]at hQ2;exact wpAny_truthy_bool hQ2
 · intro h' tk hk'
   have I1:Inv X pins σ H { s with heap:=s.heap.push { cls:=.type "list_iterator",data:=.fields #[.ref a,.int 0 0] } }:=I.kept (t':=s.toks) fun b o e=>Heap.get?_push_of_some _ e
   obtain⟨f0,f1,f2,f3,f4,f5⟩:=I.fpOk (wac _) (I.hok.fresh (wac _));have I2:Inv X pins σ H { s with heap:=h',toks:=tk }:=by
    have z:=I1.turned (h':=h') (t':=tk) (it:=s.heap.objs.size) (fun b o hb e=>hk' b o (by simpa using hb) e) f0 f1 f3 f4 f5
    exact z
   refine⟨.bl (bs.all id),H,I2,?_,hk _ M _ H hq (.refl H) hv (by simp only[Rep])⟩
   show _=_;rw[<-range_all];simp
def Its(x:Str):It:=⟨fun i _=>i<x.cps.size,fun i H v H'=>H'=H/\∃ c,x.cps[i]? =some c/\v= .str ⟨#[c]⟩,fun i _=>x.cps.size<=i⟩
def qcD(x:Str):LR:=x.cps.toList.map fun c=>.str ⟨#[c]⟩
theorem qjl{P:Program}{w:World}{K:Frg}{tg:Expr}(it:Addr)(n:String)(x:Str)(t:Tok)
 (hn:["enumerate","zip","dict_itemiterator","dict_reverseitemiterator","odict_iterator","itertools.zip_longest","itertools.pairwise"].contains n=false)
 (W:∀ A:Around,A.handled=none->Walks P w A it [it] [it] x.cps.size (SignAt x) (fun i h=>h.IsStrIter it n x t i))
 (hend:∀ (A:Around) (i:Nat) (s:Shared) (Q:OVl->Shared->Prop) (E:VSP),A.handled=none->s.heap.IsStrIter it n x t i->x.cps.size<=i->(∀ h',(∀ b o,b≠it->s.heap.get? b=some o->h'.get? b=some o)->Q none { s with heap:=h' })->wpAny (model P w) A (pyNext (.ref it)) Q E s)
 (hself:∀ (A:Around) (i:Nat) (s:Shared) (Q:VSP) (E:VSP),s.heap.IsStrIter it n x t i->Q (.ref it) s->wpAny (model P w) A (pyIter (.ref it)) Q E s):
 Turn P w K tg (Its x) [it] it (fun i h=>h.IsStrIter it n x t i) where
 mem:=by simp
 obj:=fun i h st b hb=>by
  have e:b=it:=by simpa using hb
  subst e;obtain⟨o,e,c,d⟩:=st;exact⟨o,e,fun v z=>by rw[d]at z;cases z⟩
 keep:=fun i h h' st k=>by
  obtain⟨o,e,r⟩:=st;exact⟨o,k it (by simp) o e,r⟩
 item:=by
  intro X hP hw hK hc i pins s σ H E I hf st hg;subst hP hw hK;obtain⟨f0,f1,f2,f3,f4,f5⟩:=hf it (by simp)
  refine(W X.A (I.ok.hd hc)).item i s _ _ hg st fun v h' tk hv st' kk=>?_
  obtain⟨c,u,hcu,rfl⟩:=hv;have I1:Inv X pins σ H { s with heap:=h',toks:=tk }:=I.turned (fun b o hb e=>kk b o (by simpa using hb) e) f0 f1 f3 f4 f5
  obtain⟨o,e,hcl,hd⟩:=id st';exact⟨_,rfl,qmR (s:={ s with heap:=h',toks:=tk }) (n:=n) e hcl hd hn ⟨.str ⟨#[c]⟩,H,I1,⟨u,rfl⟩,⟨rfl,c,hcu,rfl⟩,st',fun b hb=>(hf b hb).1⟩⟩
 done:=by
  intro X hP hw hK hc i pins s σ H E I hf st hg;subst hP hw hK;obtain⟨f0,f1,f2,f3,f4,f5⟩:=hf it (by simp)
  exact hend X.A i s _ _ (I.ok.hd hc) st hg fun h' eb=>⟨rfl,I.turned (t':=s.toks) (fun b o hb e=>eb b o hb e) f0 f1 f3 f4 f5⟩
 self:=hself
theorem qpD{H0 Hs:Hp}{K:Frg}{H1:Hp}(x:Str)(es:Ext Hs H1):qkW H0 Hs K (Its x) (qcD x) okT id H1 where
 turn:=fun i H M e _ _ r hr=>by
  have hi:i<x.cps.size:=by have:=(List.getElem?_eq_some_iff.mp hr).1;simpa[qcD]using this
  refine⟨hi,fun v' H' y=>?_⟩
  obtain⟨rfl,c,hcx,rfl⟩:=y;refine⟨.refl _,fun _ w=>w,?_⟩
  have:r= .str ⟨#[c]⟩:=by
   have h2:x.cps.toList[i]? =some c:=by simpa using hcx
   simp only[qcD,List.getElem?_map,h2,Option.map_some,Option.some.injEq]at hr;exact hr.symm
  subst this;simp only[Rep]
 stop:=fun i H M e _ _ hi=>by
  have:(qcD x).length=x.cps.size:=by simp[qcD]
  rw[this]at hi;exact hi
 thaw:=qbX es
def qAR(te:RTE):RTI:=fun σ M Q=>te σ M fun v M1=>match v with| .str x=>Q (qcD x) okT id M1|_=>False
theorem qDJ{tg:Expr}{l:Expr}{te:RTE}(hl:RPE X l te):RPI X tg l (qAR te):=by
 intro pins s σ0 H R I h;obtain⟨σ,M,Q,hs,hv,ht,hk⟩:=h;refine thn (hl pins s σ0 H (fun v H1=>∃ x M1,v= .str x/\Q (qcD x) okT id M1/\Ext H H1/\View X.K H1 M1) I ⟨σ,M,_,hs,hv,ht,fun rv M1 v H1 q e1 v1 r1=>?_⟩) fun v s1 ⟨xv,H1,I1,r1,q1⟩=>?_
 · cases rv with
   |str x=>simp only[Rep]at r1;exact⟨x,M1,r1,q,e1,v1⟩
   |_=>exact(show False from q).elim
 · obtain⟨x,M1,rfl,q,e1,v1⟩:=q1
   obtain⟨t,rfl⟩:=r1;have hf:∀ b∈[s1.heap.objs.size],qo7 X pins H1 b:=fun b hb=>by
    have e:b=s1.heap.objs.size:=by simpa using hb
    subst e;exact I1.fpOk (wac _) (I1.hok.fresh (wac _))
   cases ha:x.cps.all (· < 128)
   · refine wpAny_pyIter_wide ha ?_
     exact⟨s1.heap.objs.size,[s1.heap.objs.size],_,Its x,H1,rfl,I1.kept (t':=s1.toks) fun b o e=>Heap.get?_push_of_some _ e,qjl _ "str_iterator" x t (by decide) (fun A hA=>Walks.strWide hA _ x t) (fun A i s Q E hA st hi hq=>wpAny_pyNext_wide_end hA st (by simp;exact hi) hq) (fun A i s Q E st hq=>wpAny_pyIter_striter_wide st hq),⟨_,Heap.get?_push_size _ rfl,rfl,rfl⟩,hf,hk _ okT id M1 _ H1 q e1 v1 (qpD x e1)⟩
   · refine wpAny_pyIter_ascii ha ?_
     exact⟨s1.heap.objs.size,[s1.heap.objs.size],_,Its x,H1,rfl,I1.kept (t':=s1.toks) fun b o e=>Heap.get?_push_of_some _ e,qjl _ "str_ascii_iterator" x t (by decide) (fun A hA=>Walks.strAscii hA _ x t) (fun A i s Q E hA st hi hq=>wpAny_pyNext_ascii_end hA st (by simp;exact hi) hq) (fun A i s Q E st hq=>wpAny_pyIter_striter_ascii st hq),⟨_,Heap.get?_push_size _ rfl,rfl,rfl⟩,hf,hk _ okT id M1 _ H1 q e1 v1 (qpD x e1)⟩
def qvt(to:RTE)(t:RTA):RTE:=fun σ M Q=>to σ M fun x M1=>match x with
 | .ref p=>(∃ ys,M1 p=some (.lst ys))/\t σ M1 fun rs M2=>∃ ys y,rs= [y]/\M2 p=some (.lst ys)/\ys.length<sizeLine/\Q .non (put M2 p (.lst (ys++ [y])))
 |_=>False
theorem qqF{o e:Expr}{to:RTE}{t:RTA}{apos cpos:Pos}(ho:RPE X o to)(ha:RPA X [e] t)
 (hbase:attributeBase o "append" X.env (eval o X.env)=eval o X.env:=by rfl)
 (hfew:((backTo cpos (starEach [e] X.env)).all (fun x=>!x.1)&&(backToKw cpos (keywordEach [] X.env)).all (fun x=>x.1.isSome)&&decide ([e].length+([]:List Keyword).length+(if([]:List Keyword).isEmpty then 0 else 1)<30))=true:=by rfl)
 (hline:(apos.endLine==cpos.line)=true:=by rfl) (hs:starEach [e] X.env=(false,eval e X.env)::starEach [] X.env:=by rfl) (hplain:(backTo cpos (starEach [] X.env)).any (·.1)=false:=by rfl):
 RPE X (.Call (.Attribute o "append" apos) [e] [] cpos) (qvt to t):=PE.imp (qw6 PySem.F.plainAttrs_list PySem.F.slot_list_append PySem.F.type_list_append ql3 ho ha hbase hfew hline hs hplain) fun σ0 H Q0 h=>by
 obtain⟨σ,M,Q,hs,hv,ht,hk⟩:=h;refine⟨σ,M,_,hs,hv,ht,fun rx M1 x H1 q e1 v1 r1=>?_⟩
 cases rx with
 |ref p=>
  obtain⟨⟨ys,hm⟩,q⟩:=q;simp only[Rep]at r1;subst r1;obtain⟨ho',e0,r0⟩:=v1 p _ hm;obtain⟨vs0,rfl,rr0⟩:=r0;refine⟨.inl ⟨rfl,_,SqL.of e0⟩,σ,M1,_,hs.ext e1,v1,q,fun rs M2 vs H2 q2 e2 v2 r2=>?_⟩
  obtain⟨ys2,y,rfl,hm2,hz,q2⟩:=q2;obtain⟨v,rfl,r3⟩:=r2.one;obtain⟨ho2,e3,r4⟩:=v2 p _ hm2;obtain⟨vs2,rfl,rr2⟩:=r4;have ex:Ext H2 (upd H2 p (.lst (vs2++ [v]))):=Ext.write e3 rfl;refine⟨p,vs2,v,rfl,rfl,e3,by rw[<-rr2.length];exact hz,hk _ _ _ _ q2 ((e1.trans e2).trans ex) (v2.write hm2 ⟨_,rfl,?_⟩) (by simp only[Rep])⟩
  exact(Reps.ext ex _ _ rr2).append (Reps.cons (Rep.ext ex _ _ r3) Reps.nil)
 |_=>exact(show False from q).elim
def qpq(fs:List (Addr×RSp))(tx:RTE)(t:RTA):RTE:=fun σ M Q=>tx σ M fun v M1=>match v with
 | .ref f=>∃ sp,(f,sp)∈fs/\t σ M1 fun rs M2=>sp rs M2 Q
 |_=>False
theorem qtf{x:Str}{p pos:Pos}{e:Expr}{es:LEx}{t:RTA}{tx:RTE}(fs:List (Addr×RSp))
 (hF:∀ q∈fs,∃ fd ps k,Room k X.A/\PySem.W.keepIn X.K (.ref q.1)=true/\Binds X.K fd ps []/\qdC X.prog X.w X.K X.mg X.base CX0 k q.1 fd ps (qgt X.K q.2)) (hx:RPE X (.Name x p) tx) (ha:RPA X (e::es) t)
 (he:starEach (e::es) X.env=(false,eval e X.env)::starEach es X.env:=by rfl) (hpl:(backTo pos (starEach es X.env)).any (·.1)=false:=by rfl):RPE X (.Call (.Name x p) (e::es) [] pos) (qpq fs tx t):=by
 intro pins s σ0 H Q0 I h;obtain⟨σ,M,Q,hs,hv,ht,hk⟩:=h;refine wpAny_Call_Name_kw (thn (hx pins s σ0 H (fun v H1=>∃ f sp M1,v= .ref f/\(f,sp)∈fs/\Ext H H1/\View X.K H1 M1/\t σ M1 fun rs M2=>sp rs M2 Q) I ⟨σ,M,_,hs,hv,ht,fun rv M1 v H1 q e1 v1 r1=>?_⟩) fun v s1 ⟨y,H1,I1,r1,q1⟩=>?_)
 · cases rv with
   |ref f=>simp only[Rep]at r1;obtain⟨sp,hm,q⟩:=q;exact⟨f,sp,M1,r1,hm,e1,v1,q⟩
   |_=>exact(show False from q).elim
 · obtain⟨f,sp,M1,rfl,hm,e1,v1,q⟩:=q1
   cases r1;obtain⟨fd,ps,k,hr,hkp,hb,F⟩:=hF _ hm;refine wa7 (h₀:=X.base) I1.ok.mod.kin hkp (thn (ha pos pins s1 σ0 H1 (fun vs H2=>qgt X.K sp (vs++ []) H2 Q0 (fun _ _ _=>False)) I1 ⟨σ,M1,_,hs.ext e1,v1,q,fun rs M2 vs H2 q2 e2 v2 r2=>?_⟩) fun us s2 ⟨vs,H2,I2,r,q⟩=>⟨I2.kIn,?_⟩) he hpl
   · exact⟨rs,M2,Q,by rw[waQ];exact r2,v2,q2,hk.ext (e1.trans e2)⟩
   · exact qgP F hr hb .nil qiG I2 r q
end
theorem qlW{P:Program}{w:World}{es:List DictEntry}{vs:List (Key×Value)}(h:Pairs (qap P w) es vs):Pairs (optKind P w) es (vs.map fun p=>(some p.1,p.2)):=by
 induction h with
 |nil=>exact .nil
 |cons a b _ ih=>exact .cons (kv:=(some _,_)) a b ih
theorem qfw:∀ {l:List Key},l.Nodup->(l.map some).Nodup
 | [],_=>waN
 |a::r,h=>by
  obtain⟨h1,h2⟩:=waH.mp h;rw[wae];refine waH.mpr ⟨fun m=>?_,qfw h2⟩
  obtain⟨b,hb,e⟩:=wan.mp m;cases e;exact h1 hb
theorem qoT{P:Program}{w:World}{h:Heap}{a:Addr}{vs:List (Key×Value)}(d:h.DictOf (qap P w) a vs):h.DictOf (optKind P w) a (vs.map fun p=>(some p.1,p.2)):=by
 obtain⟨o,es,ep,h1,h2,h3,h4,h5,h6⟩:=d;refine⟨o,es,ep,h1,h2,h3,fun e he=>?_,qlW h5,?_⟩
 · obtain⟨k,q1,q2⟩:=h4 e he
   exact⟨some k,q1,q2⟩
 · rw[was]
   have:((fun x:Option Key×Value=>x.1) ∘ fun p:Key×Value=>(some p.1,p.2))=some ∘ fun p=>p.1:=rfl
   rw[this,<-was];exact qfw h6
theorem qra{vs:List (Key×Value)}:valueAt (vs.map fun p=>(some p.1,p.2)) (none:Option Key)=none:=by
 unfold valueAt;rw[List.find?_eq_none.mpr]
 · rfl
 · intro x hx
   obtain⟨p,_,rfl⟩:=wan.mp hx;simp
section
variable {X:Cx}
def qmk(neg:Bool)(kvs:LKR)(Q:RVK):RVK:=fun k M1=>match qhC k with
 |some key=>Q (.bl (if neg then !(qbC kvs key).isSome else(qbC kvs key).isSome)) M1
 |none=>False
def qd7(kvs:LKR)(Q:RVK):RVK:=fun k M1=>match k with
 | .non=>Q (.bl true) M1
 |k=>qmk true kvs Q k M1
def qf0(kvs:LKR)(te:RTE):RTE:=fun σ M Q=>te σ M (qd7 kvs Q)
theorem qfU{x:Str}{kvs:LKR}{e:Expr}{te:RTE}{p:Pos}(T:KTab X.prog X.w X.K X.mg x kvs)(he:RPE X e te)(hg:Gl X x)(hd:(x==("__debug__":Str))=false):
 PC X .NotIn e (.Name x p) (up X.K (qf0 kvs te)):=by
 obtain⟨a,vs,ws,hm,ha,hD,hk,hr⟩:=T.ex;intro pins s σ0 H Q0 I h;obtain⟨σ,M,Q,hs',hv,ht,hq⟩:=h;refine thn (he pins s σ0 H (fun v H1=>∃ r M1,Rep X.K H1 r v/\Ext H H1/\View X.K H1 M1/\qd7 kvs Q r M1) I ⟨σ,M,_,hs',hv,ht,fun r M1 v H1 q e w r1=>⟨r,M1,r1,e,w,q⟩⟩) fun iv s2 ⟨y,H2,I2,ry,r,M2,rr,e2,w2,q2⟩=>?_
 refine qcv I2 hg hm ?_ hd;have dd:=hD _ I2.kIn
 by_cases hn:r= .non
 · subst hn
   have q2:Q (.bl true) M2:=q2;have:y=V.non:=by simpa only[Rep]using rr
   subst this;have:iv=Value.none:=ry;subst this;refine wpAny_notIn_of (knd:=optKind X.prog X.w) (k:=none) rfl ha (qoT dd).mapOf ?_;rw[qra];exact⟨.bl true,H2,I2.tok _,rfl,hq _ M2 _ H2 q2 e2 w2 (by simp only[Rep])⟩
 · have q2:qmk true kvs Q r M2:=by
    cases r<;>first|exact q2|exact absurd rfl hn
   unfold qmk at q2;cases ek:qhC r with
   |none=>rw[ek]at q2;exact q2.elim
   |some key=>
    rw[ek]at q2;simp only at q2;have:=qdo ek rr;subst this;refine wpAny_notIn_of (qfh ry) ha dd.mapOf ?_;rw[qjY hk (hr H2)];exact⟨.bl (!(qbC kvs key).isSome),H2,I2.tok _,rfl,hq _ M2 _ H2 q2 e2 w2 (by simp only[Rep];rfl)⟩
theorem qlw{x:Str}{kvs:LKR}{e:Expr}{te:RTE}{p pos:Pos}(T:KTab X.prog X.w X.K X.mg x kvs)(he:RPE X e te)(hg:Gl X x:=by rfl)(hd:(x==("__debug__":Str))=false:=by decide)(h1:behindInMarks .NotIn (Expr.Name x p)=false:=by with_unfolding_all rfl):
 RPT X (.Compare e [.NotIn] [.Name x p] pos) (qfZ (qf0 kvs te)):=PT.imp (qlN (qfU T he hg hd) h1) fun σ0 H Q0 h=>by
 obtain⟨σ,M,Q,hs,hv,ht,hk⟩:=h;exact⟨σ,M,_,hs,hv,ht,qcn hk⟩
end
theorem qen{K:Frg}{H:Hp}{f:Str}:∀ {fs:List (Str×RV)} {gs:List (Str×V)} {v:RV},RepP K H fs gs->fs.lookup f=some v->∃ u,gs.lookup f=some u/\Rep K H v u
 | [],gs,v,h,e=>by cases e
 |(g,x)::r,gs,v,h,e=>by
  obtain⟨u,t,rfl,h1,h2⟩:=h;rw[waK]at e;cases hb:f==g with
  |true=>rw[hb]at e;cases e;exact⟨u,by rw[waK,hb],h1⟩
  |false=>
   rw[hb]at e;obtain⟨w,e1,r1⟩:=qen h2 e;exact⟨w,by rw[waK,hb];exact e1,r1⟩
theorem qel{K:Frg}{H:Hp}{f:Str}:∀ {fs:List (Str×RV)} {gs:List (Str×V)},RepP K H fs gs->fs.lookup f=none->gs.lookup f=none
 | [],gs,h,e=>by have h':gs= []:=h;subst h';rfl
 |(g,x)::r,gs,h,e=>by
  obtain⟨u,t,rfl,h1,h2⟩:=h;rw[waK]at e ⊢;cases hb:f==g with
  |true=>rw[hb]at e;cases e
  |false=>rw[hb]at e;exact qel h2 e
def qg3(f:Str)(v:RV):List (Str×RV)->List (Str×RV)
 | []=>[(f,v)]
 |(g,x)::r=>if g=f then(g,v)::r else(g,x)::qg3 f v r
theorem qgS{K:Frg}{H:Hp}{f:Str}{v:RV}{u:V}(hv:Rep K H v u):∀ {fs:List (Str×RV)} {gs:List (Str×V)},RepP K H fs gs->RepP K H (qg3 f v fs) (qf2 f u gs)
 | [],gs,h=>by have h':gs= []:=h;subst h';exact⟨u,[],rfl,hv,rfl⟩
 |(g,x)::r,gs,h=>by
  obtain⟨w,t,rfl,h1,h2⟩:=h;unfold qg3 qf2
  by_cases e:g=f
  · rw[if_pos e,if_pos e];exact⟨u,t,rfl,hv,h2⟩
  · rw[if_neg e,if_neg e];exact⟨w,_,rfl,h1,qgS hv h2⟩
theorem qa0{κ:Type}{K:Frg}{H:Hp}:∀ {fs:List (κ×RV)} {gs:List (κ×V)},RepP K H fs gs->fs.length=gs.length
 | [],gs,h=>by have h':gs= []:=h;subst h';rfl
 |(g,x)::r,gs,h=>by
  obtain⟨w,t,rfl,h1,h2⟩:=h;rw[wah,wah,qa0 h2]
section
variable {X:Cx}{o e value:Expr}{f:Str}{pos pos':Pos}{ta tv:RTE}{C:Addr}
def qDx(C:Addr)(f:Str)(ta:RTE):RTE:=fun σ M Q=>ta σ M fun x M1=>match x with
 | .ref a=>∃ fs v,M1 a=some (.ins C fs)/\fs.lookup f=some v/\Q v M1
 |_=>False
theorem qDo(hc:Cls X.K C)(hn:NoAttr X.K C f)(he:RPE X e ta)(hb:attributeBase e f X.env (eval e X.env)=eval e X.env:=by rfl):RPE X (.Attribute e f pos) (qDx C f ta):=PE.imp (qtO he hb) fun σ0 H Q0 h=>by
 obtain⟨σ,M,Q,hs,hv,ht,hk⟩:=h;refine⟨σ,M,_,hs,hv,ht,fun rx M1 x H1 q e1 v1 r1=>?_⟩
 cases rx with
 |ref a=>
  obtain⟨fs,v,hm,hl,q⟩:=q;simp only[Rep]at r1;subst r1;obtain⟨ho,eo,dx,gs,rfl,hg⟩:=v1 a _ hm;obtain⟨u,hu,ru⟩:=qen hg hl;exact⟨a,C,dx,gs,u,rfl,eo,hc,hn,hu,hk _ M1 _ H1 q e1 v1 ru⟩
 |_=>exact(show False from q).elim
def qwO(C:Addr)(f:Str)(ta tv:RTE):RTS:=fun D σ M=>tv σ M fun y M1=>ta σ M1 fun x M2=>match x with
 | .ref a=>∃ fs,M2 a=some (.ins C fs)/\fs.length<1000/\D.nx σ (put M2 a (.ins C (qg3 f y fs)))
 |_=>False
theorem qCU(hc:Cls X.K C)(hn:NoAttr X.K C f)(ha:RPE X o ta)(hv:RPE X value tv)(hs:swapsWith value (some (.Attribute o f pos')) pos.line X.env=pure false:=by rfl):RPS X (.Assign [.Attribute o f pos'] value pos) (qwO C f ta tv):=PS.imp (qtD ha hv hs) fun D0 σ0 H h=>by
 obtain⟨σ,M,D,hs,hv,ht,hd⟩:=h;refine⟨σ,M,_,hs,hv,ht,fun ry M1 y H1 q e1 v1 r1=>⟨σ,M1,_,hs.ext e1,v1,q,fun rx M2 x H2 q2 e2 v2 r2=>?_⟩⟩
 cases rx with
 |ref a=>
  obtain⟨fs,hm,hl,q2⟩:=q2;simp only[Rep]at r2;subst r2;obtain⟨ho,eo,dx,gs,rfl,hg⟩:=v2 a _ hm;have ex:Ext H2 (upd H2 a (.ins C dx (qf2 f y gs))):=Ext.write eo rfl;refine⟨a,C,dx,gs,rfl,eo,hc,hn,by rw[<-qa0 hg];exact hl,hd.nx σ _ _ _ q2 ((e1.trans e2).trans ex) (v2.write hm ⟨dx,_,rfl,?_⟩) (hs.ext ((e1.trans e2).trans ex))⟩
  exact qgS (Rep.ext (e2.trans ex) _ _ r1) (hg.ext ex)
 |_=>exact(show False from q2).elim
end
def qoQ(kvs:LKR)(k:Key):LKR:=kvs.filter fun kv=>decide (kv.1≠k)
section
variable {K:Frg}{H:Hp}{k:Key}{v:RV}{u:V}
theorem qju{κ:Type}:∀ {xs:List (κ×RV)} {ws:List (κ×V)} {ys:List (κ×RV)} {zs:List (κ×V)},RepP K H xs ws->RepP K H ys zs->RepP K H (xs++ys) (ws++zs)
 | [],ws,ys,zs,h,t=>by have h':ws= []:=h;subst h';exact t
 |(j,x)::r,ws,ys,zs,h,t=>by
  obtain⟨w,t',rfl,h1,h2⟩:=h;exact⟨w,_,rfl,h1,qju h2 t⟩
theorem qeo:∀ {kvs:LKR} {ws:List (Key×V)},RepP K H kvs ws->RepP K H (qoQ kvs k) (qhQ ws k)
 | [],ws,h=>by have h':ws= []:=h;subst h';rfl
 |(j,x)::r,ws,h=>by
  obtain⟨w,t,rfl,h1,h2⟩:=h;unfold qoQ qhQ;rw[List.filter_cons,List.filter_cons]
  by_cases e:j=k
  · rw[if_neg (by simp[e]),if_neg (by simp[e])];exact qeo h2
  · rw[if_pos (by simp[e]),if_pos (by simp[e])];exact⟨w,_,rfl,h1,qeo h2⟩
end
section
variable {X:Cx}{o i value:Expr}{pos pos':Pos}{td ty tv:RTE}
def qtu:RTE:=fun _ M Q=>∀ p,M p=none->Q (.ref p) (put M p (.dk []))
theorem qwF:RPE X (.Dict [] [] pos) qtu:=PE.imp qof fun σ0 H Q0 h=>by
 obtain⟨σ,M,Q,hs,hv,ht,hk⟩:=h;intro p hp;exact hk _ _ _ _ (ht p (hv.free hp)) (Ext.new hp) (hv.newPut hp ⟨[],rfl,rfl⟩) (by simp only[Rep])
def atKey(M:RM)(x y:RV)(P:Addr->LKR->Key->Prop):Prop:=match x with
 | .ref a=>(match M a with|some (.dk kvs)=>(match qhC y with|some k=>P a kvs k|none=>False)|_=>False)
 |_=>False
theorem qo3{M:RM}{x y:RV}{P:Addr->LKR->Key->Prop}(h:atKey M x y P):∃ a kvs k,x= .ref a/\M a=some (.dk kvs)/\qhC y=some k/\P a kvs k:=by
 unfold atKey at h;split at h
 · split at h
   · split at h
     · exact⟨_,_,_,rfl,by assumption,by assumption,h⟩
     · exact h.elim
   · exact h.elim
 · exact h.elim
def qpm(td ty:RTE):RTS:=fun D σ M=>td σ M fun x M1=>ty σ M1 fun y M2=>atKey M2 x y fun a kvs k=>(qbC kvs k).isSome=true/\D.nx σ (put M2 a (.dk (qoQ kvs k)))
theorem qwe{tpos:Pos}(ho:RPE X o td)(hi:RPE X i ty):RPS X (.Delete [.Subscript o i tpos] pos) (qpm td ty):=PS.imp (qqO ho hi) fun D0 σ0 H h=>by
 obtain⟨σ,M,D,hs,hv,ht,hd⟩:=h;refine⟨σ,M,_,hs,hv,ht,fun rx M1 x H1 q e1 v1 r1=>⟨σ,M1,_,hs.ext e1,v1,q,fun ry M2 y H2 q2 e2 v2 r2=>?_⟩⟩
 obtain⟨a,kvs,k,rfl,hm,hy,hl,q2⟩:=qo3 q2;simp only[Rep]at r1;subst r1;obtain⟨ho,eo,ws,rfl,hg⟩:=v2 a _ hm;have:=qdo hy r2;subst this;have ex:Ext H2 (upd H2 a (.dK (qhQ ws k))):=Ext.write eo rfl;have e3:=(e1.trans e2).trans ex;refine⟨a,ws,k,rfl,eo,rfl,?_,hd.nx σ _ _ _ q2 e3 (v2.write hm ⟨_,rfl,qeo (hg.ext ex)⟩) (hs.ext e3)⟩;obtain⟨v,hv'⟩:=waS.mp hl;obtain⟨u,hu,_⟩:=(qbZ (k:=k) hg).1 v hv';rw[hu];rfl
end
section
variable {X:Cx}{x m:Str}{p pos apos:Pos}{o e:Expr}{es:LEx}{t:RTA}{ta:RTE}{k:Nat}{ps:LSt}{sp:RSp}{C g:Addr}{fd:FuncData}
def qlJ(C:Addr)(m:Str)(sp:RSp)(ta:RTE)(t:RTA):RTE:=fun σ M Q=>ta σ M fun x M1=>match x with
 | .ref a=>∃ fs,M1 a=some (.ins C fs)/\fs.lookup m=none/\t σ M1 fun rs M2=>sp (.ref a::rs) M2 Q
 |_=>False
theorem ql5{σ0:L2.St}{H:Hp}{Q0:VK}(h:up X.K (qlJ C m sp ta t) σ0 H Q0):qql C m (qgt X.K sp) [] (fun _ _ _=>False) (up X.K ta) (upA X.K t) σ0 H Q0:=by
 obtain⟨σ,M,Q,hs,hv,ht,hk⟩:=h;refine⟨σ,M,_,hs,hv,ht,fun rx M1 x H1 q e1 v1 r1=>?_⟩
 cases rx with
 |ref a=>
  obtain⟨fs,hm,hl,q⟩:=q;simp only[Rep]at r1;subst r1;obtain⟨ho,eo,dx,gs,rfl,hg⟩:=v1 a _ hm;refine⟨a,dx,gs,rfl,eo,qel hg hl,σ,M1,_,hs.ext e1,v1,q,fun rs M2 vs H2 q2 e2 v2 r2=>?_⟩
  exact⟨.ref a::rs,M2,Q,by rw[waQ];exact Reps.cons (by simp only[Rep]) r2,v2,q2,hk.ext (e1.trans e2)⟩
 |_=>exact(show False from q).elim
theorem qwC{pl:Sem Bool}(he:RPE X o ta)(c:Cls X.K C)(hm:Meth X.K C m g)(F:qdC X.prog X.w X.K X.mg X.base CX0 k g fd ps (qgt X.K sp))(hr:Room k X.A)(hb:Binds X.K fd ps [])(ha:RPA X (e::es) t)
 (hst:starEach (e::es) X.env=(false,eval e X.env)::starEach es X.env:=by rfl) (hpl:(backTo pos (starEach es X.env)).any (·.1)=false:=by rfl)
 (ht:eval (.Call (.Attribute o m apos) (e::es) [] pos) X.env=(do
  let ov<-eval o X.env
  standAt apos.atName
  let(f,first) <-holding [ov] (getMethod ov m pl)
  callWith pos f first (backTo pos (starEach (e::es) X.env)) (backToKw pos (keywordEach [] X.env))):=by rfl):
 RPE X (.Call (.Attribute o m apos) (e::es) [] pos) (qlJ C m sp ta t):=PE.imp (qqT he c hm F hr hb .nil qiG ha hst hpl ht) fun σ0 H Q0 h=>ql5 h
def qkk(C:Addr)(sp:RSp)(t:RTA):RTE:=fun σ M Q=>t σ M fun rs M1=>∀ a,M1 a=none->sp (.ref a::rs) (put M1 a (.ins C [])) (fun v M2=>v= .non/\Q (.ref a) M2)
theorem qwD{h0:Nat}(Mk1:Mk X.K C g)(F:qdC X.prog X.w X.K X.mg X.base CX0 k g fd ps (qgt X.K sp))(hr:Room (k+1) X.A)(hm:X.mg x=some (.ref C))(hb:Binds X.K fd ps [])(ha:RPA X (e::es) t)(hg:Gl X x:=by rfl)(hdb:(x==("__debug__":Str))=false:=by decide)
 (he:starEach (e::es) X.env=(false,eval e X.env)::starEach es X.env:=by rfl) (hpl:(backTo pos (starEach es X.env)).any (·.1)=false:=by rfl):RPE X (.Call (.Name x p) (e::es) [] pos) (qkk C sp t):=PE.imp (qqU Mk1 F hr hg hm hb .nil qiG ha hdb he hpl) fun σ0 H Q0 h=>by
 obtain⟨σ,M,Q,hs,hv,ht,hk⟩:=h;refine⟨σ,M,_,hs,hv,ht,fun rs M1 vs H1 q e1 v1 r1 a dx na nd ne=>?_⟩
 have ex1:Ext H1 (upd H1 dx (.own a)):=Ext.new nd;have na':(upd H1 dx (.own a)) a=none:=by rw[qaa (Ne.symm ne)];exact na
 have ex2:Ext H1 (upd (upd H1 dx (.own a)) a (.ins C dx [])):=ex1.trans (Ext.new na');refine⟨.ref a::rs,put M1 a (.ins C []),_,by rw[waQ];exact Reps.cons (by simp only[Rep]) (Reps.ext ex2 _ _ r1),(v1.new nd).newPut na' ⟨dx,[],rfl,rfl⟩,q a (v1.free na),fun rv M2 v H2 q2 e2 v2 r2=>?_⟩
 obtain⟨rfl,q2⟩:=q2;simp only[Rep]at r2;exact⟨r2,hk _ M2 _ H2 q2 ((e1.trans ex2).trans e2) v2 (by simp only[Rep])⟩
end
section
variable {X:Cx}{o e f:Expr}{apos cpos:Pos}{td ty tx:RTE}
def qwP:LR->RM->RVK->Prop:=fun rs M Q=>∃ a kvs,rs= [.ref a]/\M a=some (.dk kvs)/\Q (.int kvs.length) M
theorem qx6:qbe X (.builtin "len") (upC X.K qwP):=by
 intro pins s σ H xs us Q0 I rl h;obtain⟨rs,M,Q,rr,hv,⟨a,kvs,rfl,hm,hq⟩,hk⟩:=h;obtain⟨v,rfl,r1⟩:=rr.one;simp only[Rep]at r1;subst r1;obtain⟨ho,eo,ws,rfl,hg⟩:=hv a _ hm;exact qnb pins s σ H _ us Q0 I rl ⟨a,ws,rfl,eo,hk _ M _ H hq (.refl H) hv (by simp only[Rep];rw[qa0 hg])⟩
end
section
variable {X:Cx}{m:Str}{p pos apos:Pos}{o a b tg:Expr}{ta t1 t2:RTE}{k:Nat}{ps:LSt}{sp:RSp}{C g:Addr}{fd:FuncData}
theorem qs4{pl:Sem Bool}(he:RPE X o ta)(c:Cls X.K C)(hm:Meth X.K C m g)(F:qdC X.prog X.w X.K X.mg X.base CX0 k g fd ps (qgt X.K sp))(hr:Room k X.A)(hb:Binds X.K fd ps [])
 (ht:eval (.Call (.Attribute o m apos) [] [] pos) X.env=(do
  let ov<-eval o X.env
  standAt apos.atName
  let(f,first) <-holding [ov] (getMethod ov m pl)
  callWith pos f first (backTo pos (starEach [] X.env)) (backToKw pos (keywordEach [] X.env))):=by rfl):
 RPE X (.Call (.Attribute o m apos) [] [] pos) (qlJ C m sp ta qn3):=PE.imp (qob he c hm F hr hb .nil qiG ht) fun σ0 H Q0 h=>by
 obtain⟨σ,M,Q,hs,hv,ht,hk⟩:=h;refine⟨σ,M,_,hs,hv,ht,fun rx M1 x H1 q e1 v1 r1=>?_⟩
 cases rx with
 |ref a=>
  obtain⟨fs,hm,hl,q⟩:=q;simp only[Rep]at r1;subst r1;obtain⟨ho,eo,dx,gs,rfl,hg⟩:=v1 a _ hm;exact⟨a,dx,gs,rfl,eo,qel hg hl,[.ref a],M1,Q,Reps.cons (by simp only[Rep]) Reps.nil,v1,q,hk.ext e1⟩
 |_=>exact(show False from q).elim
def qd6(lo:Int)(n:Nat):LR:=(List.range n).map fun(i:Nat)=>RV.int (lo+(i:Int))
end
theorem qha{P:Program}{w:World}{H:Hp}{h:Heap}{a:Addr}{o:HO}(x:ObjOk P w H h a o):∃ u,h.get? a=some u:=by
 cases o with
 |lst xs=>obtain⟨_,_,_,_,e⟩:=x;exact⟨_,e⟩
 |tup xs=>obtain⟨_,_,_,o,e,_⟩:=x;exact⟨o,e⟩
 |dK kvs=>obtain⟨_,_,_,_,o,_,_,e,_⟩:=x;exact⟨_,e⟩
 |dT kvs=>obtain⟨_,_,_,_,o,_,_,e,_⟩:=x;exact⟨_,e⟩
 |set S n=>obtain⟨o,_,_,_,e,_⟩:=x;exact⟨_,e⟩
 |ins C dx fs=>obtain⟨_,_,_,e,_⟩:=x;exact⟨_,e⟩
 |own y=>obtain⟨_,e⟩:=x;exact⟨_,e⟩
 |xd fs=>obtain⟨_,⟨_,_,_,e,_⟩,_⟩:=x;exact⟨_,e⟩
 |rng lo hi=>obtain⟨_,_,_,e⟩:=x;exact⟨_,e⟩
 |frz ob u=>obtain⟨e,_⟩:=x;exact⟨_,e⟩
 |tbl ps=>exact⟨_,(show h.get? a=some _ from x)⟩
 |met f y=>exact⟨_,(show h.get? a=some _ from x)⟩
 |ext φ=>obtain⟨_,⟨_,e⟩,_⟩:=x;exact⟨_,e⟩
section
variable {X:Cx}{pins:LAO}{σ:L2.St}{H:Hp}{s:Shared}{h':Heap}{a:Addr}{o:HO}
theorem none_of(I:Inv X pins σ H s)(hn:s.heap.get? a=none):H a=none:=by
 cases q:H a with
 |none=>rfl
 |some u=>
  obtain⟨v,e⟩:=qha (I.hok a u q);rw[hn]at e;cases e
end
theorem qgT{κ:Type}{K:Frg}{H:Hp}:∀ {kvs:List (κ×RV)} {ws:List (κ×V)},RepP K H kvs ws->kvs.map (·.1)=ws.map (·.1)
 | [],ws,h=>by have h':ws= []:=h;subst h';rfl
 |(j,x)::r,ws,h=>by
  obtain⟨w,t,rfl,h1,h2⟩:=h;rw[wae,wae,qgT h2]
open PySem.W
section
variable {X:Cx}{pins:LAO}{σ:L2.St}{H:Hp}{s:Shared}
def qaL(M:RM):RV->RV
 | .ref a=>(match M a with|some (.lst xs)=>.ls xs|_=>.ref a)
 |x=>x
theorem qmX(I:Inv X pins σ H s){n:Nat}:∀ {rs:LR} {vs:LV} {us:LVl},rs.all (okR n)=true->Reps X.K H rs vs->Vals vs us->Dens s.heap rs us
 | [],vs,us,_,r,w=>by
  have e:vs= []:=by simpa only[Reps]using r
  subst e;cases w;simp only[Dens]
 |x::rs,vs,us,o,r,w=>by
  rw[wal,waa]at o;simp only[Reps]at r;obtain⟨v,vs',rfl,r1,r2⟩:=r;obtain⟨u,us',rfl,w1,w2⟩:=Vals.cons_inv w;simp only[Dens];exact⟨u,us',rfl,qb5 I n x v u o.1 r1 w1,qmX I o.2 r2 w2⟩
theorem qd9(I:Inv X pins σ H s){M:RM}(hv:View X.K H M){a:RV}{x:V}{v:Value}(o:okR 16 (qaL M a)=true)(ra:Rep X.K H a x)(rx:RelV x v):Den s.heap (qaL M a) v:=by
 cases a with
 |ref p=>
  cases q:M p with
  |none=>rw[show qaL M (.ref p)= .ref p by simp only[qaL,q]]at o;cases o
  |some ob=>
   cases ob with
   |lst xs=>
    have e:qaL M (.ref p)= .ls xs:=by simp only[qaL,q]
    rw[e]at o ⊢;simp only[Rep]at ra;subst ra;cases rx;obtain⟨ho,e0,vs,rfl,hr⟩:=hv p _ q;obtain⟨its,rv,pl,hz⟩:=I.list (SqL.of e0);simp only[Den];exact⟨p,its,rfl,pl.isList,qmX I (n:=15) o hr rv⟩
   |dk kvs=>rw[show qaL M (.ref p)= .ref p by simp only[qaL,q]]at o;cases o
   |dt kvs=>rw[show qaL M (.ref p)= .ref p by simp only[qaL,q]]at o;cases o
   |fk kvs=>rw[show qaL M (.ref p)= .ref p by simp only[qaL,q]]at o;cases o
   |ft kvs=>rw[show qaL M (.ref p)= .ref p by simp only[qaL,q]]at o;cases o
   |ins C fs=>rw[show qaL M (.ref p)= .ref p by simp only[qaL,q]]at o;cases o
 |_=>exact qb5 I 16 _ x v o ra rx
def qAW:RR2:=fun x y M Q=>okR 16 (qaL M x)=true/\okR 16 (qaL M y)=true/\Q (.bl (eqR (qaL M x) (qaL M y))) M
def qAM:RR2:=fun x y M Q=>okR 16 (qaL M x)=true/\okR 16 (qaL M y)=true/\Q (.bl (!eqR (qaL M x) (qaL M y))) M
theorem qDG(hu:X.A.units+64<cLine):ROp X (compareOp .Eq) qAW:=by
 intro pins s σ H x y v u Q0 I rx ry h;obtain⟨a,b,M,Q,ra,rb,hv,⟨o1,o2,hq⟩,hk⟩:=h;exact qnV 15 _ _ X.A s v u o1 o2 (qd9 I hv o1 ra rx) (qd9 I hv o2 rb ry) (by omega) _ _ _ _ ⟨.bl _,H,I,rfl,hk _ M _ H hq (.refl H) hv (by simp only[Rep])⟩
theorem qDC(hu:X.A.units+64<cLine):ROp X (compareOp .NotEq) qAM:=by
 intro pins s σ H x y v u Q0 I rx ry h;obtain⟨a,b,M,Q,ra,rb,hv,⟨o1,o2,hq⟩,hk⟩:=h;exact qke 15 _ _ X.A s v u o1 o2 (qd9 I hv o1 ra rx) (qd9 I hv o2 rb ry) (by omega) _ _ _ _ ⟨.bl _,H,I,rfl,hk _ M _ H hq (.refl H) hv (by simp only[Rep])⟩
end
section
variable {X:Cx}
def qn1:List (Str×RTE)->RSt->RM->(LKR->RM->Prop)->Prop
 | [],_,M,Q=>Q [] M
 |(k,tv)::r,σ,M,Q=>tv σ M fun y M2=>qn1 r σ M2 fun ps M3=>Q ((Sum.inr k,y)::ps) M3
def qvh(X:Cx)(pos:Pos)(ks:List (Option Expr))(vs:LEx)(kvs:List (Str×RTE)):Prop:=
 ∃ trs,PPs X pos ks vs trs/\∀ σ0 H (Q0:List (V×V)->Hp->Prop) σ M Q,RepSt X.K H σ σ0->View X.K H M->qn1 kvs σ M Q->
  (∀ ps M' ws H',Q ps M'->Ext H H'->View X.K H' M'->RepP X.K H' ps ws->ps.map (·.1)=kvs.map (fun p=>(Sum.inr p.1:Key))->Q0 (ws.map fun kv=>(kV kv.1,kv.2)) H')->qjm trs σ0 H Q0
theorem qBH{pos:Pos}:qvh X pos [] [] []:=⟨[],qqP,fun σ0 H Q0 σ M Q hs hv h k=>k [] M [] H h (.refl H) hv rfl rfl⟩
theorem qvI{pos p:Pos}{x:Str}{j:Nat}{v:Expr}{ks:List (Option Expr)}{vs:LEx}{tv:RTE}{kvs:List (Str×RTE)}(hv:RPE X v tv)(hr:qvh X pos ks vs kvs):
 qvh X pos (some (.Constant (.str x) j p)::ks) (v::vs) ((x,tv)::kvs):=by
 obtain⟨trs,h1,h2⟩:=hr;refine⟨_,qn8 qps hv h1,fun σ0 H Q0 σ M Q hs hw h k=>?_⟩
 refine⟨σ,M,_,hs,hw,h,fun ry M1 y H1 q e1 v1 r1=>?_⟩
 refine h2 σ0 H1 _ σ M1 _ (hs.ext e1) v1 q fun ps M' ws H' q' e' v' r' ek=>?_
 exact k _ M' ((Sum.inr x,y)::ws) H' q' (e1.trans e') v' ⟨y,ws,rfl,Rep.ext e' _ _ r1,r'⟩ (by rw[wae,wae,ek])
def qtt(kvs:List (Str×RTE)):RTE:=fun σ M Q=>∀ p,M p=none->qn1 kvs σ (put M p (.dk [])) fun ps M2=>M2 p=some (.dk [])/\Q (.ref p) (put M2 p (.dk ps))
theorem qwG{pos:Pos}{keys:List (Option Expr)}{values:LEx}{kvs:List (Str×RTE)}(h:qvh X pos keys values kvs)(hnd:(kvs.map (·.1)).Nodup)(hlen:kvs.length<=15)(hall:keys.all (·.isSome)=true:=by rfl)(hl:keys.length=values.length:=by rfl)(h0:keys≠[]:=by exact List.cons_ne_nil _ _)
 (h15:keys.length<=15:=by exact Nat.le_of_ble_eq_true rfl):RPE X (.Dict keys values pos) (qtt kvs):=by
 obtain⟨trs,h1,h2⟩:=h;refine PE.imp (qqV h1 hall hl h0 h15) fun σ0 H Q0 h=>?_
 obtain⟨σ,M,Q,hs,hv,ht,hk⟩:=h;intro p hp;refine h2 σ0 (upd H p (.dK [])) _ σ (put M p (.dk [])) _ (hs.ext (Ext.new hp)) (hv.newPut hp ⟨[],rfl,rfl⟩) (ht p (hv.free hp)) fun ps M' ws H' q' e' v' r' ek=>?_
 obtain⟨hm,q'⟩:=q';obtain⟨ho,e0,ws2,rfl,g2⟩:=v' p _ hm;have hz:ws2= []:=g2;subst hz;have kk:ws.map (·.1)=kvs.map (fun p=>(Sum.inr p.1:Key)):=by rw[<-qgT r'];exact ek
 have kn:(ws.map Prod.fst).Nodup:=by
  have e:ws.map Prod.fst=(kvs.map (·.1)).map (Sum.inr:Str->Key):=by rw[was];exact kk
  rw[e];exact qex hnd
 have kl:ws.length=kvs.length:=by have:=congrArg List.length kk;simpa using this
 refine⟨e0,ws,rfl,by omega,?_⟩
 have em:qcK [] ws=ws:=qdy ws [] (by simpa using kn)
 rw[em];have ex:Ext H' (upd H' p (.dK ws)):=Ext.write e0 rfl;exact hk _ _ _ _ q' (((Ext.new hp).trans e').trans ex) (v'.write hm ⟨ws,rfl,r'.ext ex⟩) (by simp only[Rep])
def kLR(Q:RVK):LR->RM->Prop:=fun rs M=>match rs with
 | [.int i,.int j]=>(-1000000<=i/\i<=1000000/\-1000000<=j/\j<=1000000)/\(j-i).toNat<=1000/\Q (.ls (qd6 i (j-i).toNat)) M
 |_=>False
def qpn(ta tb:RTE):RTE:=fun σ M Q=>qkl ta (qkl tb qn3) σ M (kLR Q)
theorem qgx(a:Int):∀ (vs:LVl) (k:Nat),(∀ (j:Nat) v,vs[j]? =some v->∃ t,v= .int (a+((k+j:Nat):Int)) t)->Vals ((List.range' k vs.length).map fun(j:Nat)=>V.int (a+(j:Int))) vs
 | [],_,_=>.nil
 |v::vs,k,h=>by
  obtain⟨t,e⟩:=h 0 v rfl;rw[wah,List.range'_succ,wae];refine .cons ⟨t,e⟩ (qgx a vs (k+1) fun j u hu=>?_)
  obtain⟨t',e'⟩:=h (j+1) u (by simpa using hu)
  refine⟨t',?_⟩;rw[e',show k+(j+1)=k+1+j by omega]
theorem qgQ{K:Frg}{H:Hp}(a:Int):∀ (l:List Nat),Reps K H (l.map fun(j:Nat)=>RV.int (a+(j:Int))) (l.map fun(j:Nat)=>V.int (a+(j:Int)))
 | []=>Reps.nil
 |j::r=>Reps.cons (by simp only[Rep]) (qgQ a r)
theorem boot_list:bootBuiltins "list" =some (.type "list"):=by decide+kernel
theorem qs6{a b:Expr}{t1 t2:RTE}{p1 p2 pos2 pos:Pos}(hml:X.mg "list" =none)(hmr:X.mg "range" =none)(hc:X.calm=true)(ha:RPE X a t1)(hb:RPE X b t2)(hgl:Gl X "list")(hgr:Gl X "range")
 (hst:starEach [a,b] X.env= [(false,eval a X.env),(false,eval b X.env)]:=by rfl) (hs2:starEach [b] X.env= [(false,eval b X.env)]:=by rfl)
 (he1:starEach [a,b] X.env=(false,eval a X.env)::starEach [b] X.env:=by rfl) (he2:starEach [b] X.env=(false,eval b X.env)::starEach [] X.env:=by rfl)
 (he0:starEach [Expr.Call (.Name "range" p2) [a,b] [] pos2] X.env=(false,eval (Expr.Call (.Name "range" p2) [a,b] [] pos2) X.env)::starEach [] X.env:=by rfl):
 RPE X (.Call (.Name "list" p1) [.Call (.Name "range" p2) [a,b] [] pos2] [] pos) (qpn t1 t2):=by
 intro pins s σ0 H Q0 I h;obtain⟨σ,M,Q,hs,hv,ht,hk⟩:=h;have args:RPA X [a,b] (qkl t1 (qkl t2 qn3)):=qo4 ha (qo4 hb qyi he2) he1;refine Call_ (qfy I hgl hml boot_list (waP ?_ he0 rfl));rw[he0];show wpAny _ _ (spliced ((false,eval (Expr.Call (.Name "range" p2) [a,b] [] pos2) X.env)::backTo pos (starEach [] X.env))) _ _ s;refine Calls.spliced_cons (Call_ (qfy I hgr hmr boot_range (waP (thn (args pos2 pins s σ0 H (fun vs H1=>∃ i j M1,vs= [V.int i,V.int j]/\kLR Q [.int i,.int j] M1/\Ext H H1/\View X.K H1 M1) I ⟨σ,M,_,hs,hv,ht,fun rs M1 vs H1 q e1 v1 r1=>?_⟩) fun us s1 q1=>?_) (by rw[hst,hs2]) (by rw[hs2];rfl))))
 · unfold kLR at q
   split at q
   · simp only[Reps,Rep]at r1
     obtain⟨v,r,rfl,rfl,v',r',rfl,rfl,rfl⟩:=r1;exact⟨_,_,M1,rfl,q,e1,v1⟩
   · exact q.elim
 · obtain⟨vs,H1,I1,rv,i,j,M1,rfl,q,e1,v1⟩:=q1
   obtain⟨u1,us1,rfl,q1,rv⟩:=Vals.cons_inv rv;obtain⟨u2,us2,rfl,q2,rv⟩:=Vals.cons_inv rv;cases rv;obtain⟨tt1,rfl⟩:=q1;obtain⟨tt2,rfl⟩:=q2;obtain⟨⟨b1,b2,b3,b4⟩,hn,q⟩:=q;refine call_range_2 ?_;have I2:=I1.kept (h':=s1.heap.push { cls:=.type "range",data:=.fields #[.int i tt1,.int j tt2,.int 1 s1.toks] }) (t':=s1.toks+1) (fun b o e=>Heap.get?_push_of_some _ e)
   refine Calls.spliced_nil ?_;have hsz:Builtin.Range.rangeSize i j 1=((j-i).toNat:Int):=by rw[rangeSize_one];split<;>omega
   refine call_list_range (I2.ok.hd hc) (IsRange.new s1.heap i j 1 tt1 tt2 s1.toks) (small_one (by omega) (by omega) (by omega) (by omega)) hsz (by omega) fun h' tk acc c' kp hget hit=>?_
   have hfr:=I2.hok.fresh (wac _);have hv2:Vals ((List.range (j-i).toNat).map fun(k:Nat)=>V.int (i+(k:Int))) acc.toList:=by
    have:=qgx i acc.toList 0 fun k v e=>by
     obtain⟨t,e'⟩:=hit.2 k v (by rw[<-Array.getElem?_toList];exact e)
     exact⟨t,by rw[e'];simp⟩
    rw[Array.length_toList,hit.1]at this;rw[List.range_eq_range'];exact this
   refine frozen ⟨.ref _,_,I2.laid kp (wac _) (o:=.lst ((List.range (j-i).toNat).map fun(k:Nat)=>V.int (i+(k:Int)))) ⟨by rw[wab,List.length_range];exact waw hn (by decide),acc.toList,c',hv2,by rw[Array.toArray_toList];exact hget⟩,rfl,H1,_,_,rfl,hfr,rfl,fun o=>?_⟩
   exact hk _ M1 _ _ q (e1.trans (Ext.new hfr)) (v1.new hfr) (qfq hfr (qgQ i _))
end
structure RMt(P:Program)(w:World)(K:Frg)(mg:SOV)(base:Heap)(C:Addr)(k:Nat)(m:Str)(ps:LSt)(sp:RSp):Prop where
 ex:∃ (g:Addr) (fd:FuncData),Meth K C m g/\Binds K fd ps []/\qdC P w K mg base CX0 k g fd ps (qgt K sp)
structure RIn(P:Program)(w:World)(K:Frg)(mg:SOV)(base:Heap)(C:Addr)(k:Nat)(ps:LSt)(sp:RSp):Prop where
 ex:∃ (g:Addr) (fd:FuncData),Mk K C g/\Binds K fd ps []/\qdC P w K mg base CX0 k g fd ps (qgt K sp)
section
variable {X:Cx}{x m:Str}{p pos apos:Pos}{o e:Expr}{es:LEx}{t:RTA}{ta:RTE}{k:Nat}{ps:LSt}{sp:RSp}{C:Addr}
theorem qs3{pl:Sem Bool}(F:RMt X.prog X.w X.K X.mg X.base C k m ps sp)(c:Cls X.K C)(hr:Room k X.A)(he:RPE X o ta)(ha:RPA X (e::es) t)
 (hst:starEach (e::es) X.env=(false,eval e X.env)::starEach es X.env:=by rfl) (hpl:(backTo pos (starEach es X.env)).any (·.1)=false:=by rfl)
 (ht:eval (.Call (.Attribute o m apos) (e::es) [] pos) X.env=(do
  let ov<-eval o X.env
  standAt apos.atName
  let(f,first) <-holding [ov] (getMethod ov m pl)
  callWith pos f first (backTo pos (starEach (e::es) X.env)) (backToKw pos (keywordEach [] X.env))):=by rfl):
 RPE X (.Call (.Attribute o m apos) (e::es) [] pos) (qlJ C m sp ta t):=by
 obtain⟨g,fd,hm,hb,F⟩:=F.ex;exact qwC he c hm F hr hb ha hst hpl ht
theorem qqC{pl:Sem Bool}(F:RMt X.prog X.w X.K X.mg X.base C k m ps sp)(c:Cls X.K C)(hr:Room k X.A)(he:RPE X o ta)
 (ht:eval (.Call (.Attribute o m apos) [] [] pos) X.env=(do
  let ov<-eval o X.env
  standAt apos.atName
  let(f,first) <-holding [ov] (getMethod ov m pl)
  callWith pos f first (backTo pos (starEach [] X.env)) (backToKw pos (keywordEach [] X.env))):=by rfl):
 RPE X (.Call (.Attribute o m apos) [] [] pos) (qlJ C m sp ta qn3):=by
 obtain⟨g,fd,hm,hb,F⟩:=F.ex;exact qs4 he c hm F hr hb ht
theorem qs5(F:RIn X.prog X.w X.K X.mg X.base C k ps sp)(hr:Room (k+1) X.A)(hm:X.mg x=some (.ref C))(ha:RPA X (e::es) t)(hg:Gl X x:=by rfl)(hdb:(x==("__debug__":Str))=false:=by decide)
 (he:starEach (e::es) X.env=(false,eval e X.env)::starEach es X.env:=by rfl) (hpl:(backTo pos (starEach es X.env)).any (·.1)=false:=by rfl):RPE X (.Call (.Name x p) (e::es) [] pos) (qkk C sp t):=by
 obtain⟨g,fd,hM,hb,F⟩:=F.ex;exact qwD (h0:=0) hM F hr hm hb ha hg hdb he hpl
end
section
variable {X:Cx}
def qtq:LR->RM->RVK->Prop:=fun rs M Q=>match rs with
 | [.ref a,.ty T']=>T'= "list"/\(match M a with|some (.lst _)=>Q (.bl true) M|_=>False)
 |_=>False
theorem qkT:qbe X (.builtin "isinstance") (upC X.K qtq):=by
 intro pins s σ H xs us Q0 I rl h;obtain⟨rs,M,Q,rr,hv,hq,hk⟩:=h;unfold qtq at hq;split at hq
 · rename_i a T'
   obtain⟨rfl,hq⟩:=hq;obtain⟨v,w,rfl,r1,r2⟩:=rr.two;obtain⟨u,u',rfl,w1,w2⟩:=vals2 rl;simp only[Rep]at r1 r2;subst r1;subst r2;obtain rfl:u'=Value.type "list":=w2;cases(show u=Value.ref a from w1)
   split at hq
   · rename_i ys em
     obtain⟨ho,e,r⟩:=hv a _ em;obtain⟨vs,rfl,hr⟩:=r;obtain⟨its,_,pt,_⟩:=I.list (SqL.of e);obtain⟨o,h1,h2,_⟩:=pt.isList;exact waU PySem.W.kitx_list I.kIn ⟨o,h1,h2⟩ (qeJ X.K) (fun z=>nomatch z) fun tk=>⟨.bl true,H,I.tok tk,rfl,hk _ M _ H hq (.refl H) hv (by simp only[Rep])⟩
   · exact hq.elim
 · exact hq.elim
end
abbrev TK:=List (Option Key)
def qvw:RV->Option (Option Key)
 | .non=>some none
 | .int i=>some (some (.inl i))
 | .str x=>some (some (.inr x))
 |_=>none
def qsi:LR->Option TK
 | []=>some []
 |r::rs=>match qvw r,qsi rs with
  |some k,some ks=>some (k::ks)
  |_,_=>none
def qhB:RV->Option TK
 | .tup rs=>qsi rs
 |_=>none
def qBk:List (TK×Str)->List (TK×Addr×Value)->Prop
 | [],[]=>True
 |(k,y)::r,(k',_,v)::r'=>k=k'/\(∃ t,v= .str y t)/\qBk r r'
 |_,_=>False
structure qsc(P:Program)(w:World)(K:Frg)(mg:SOV)(x:Str)(kvs:List (TK×Str)):Prop where
 ex:∃ a xs,mg x=some (.ref a)/\(a==sysModules)=false/\(∀ h:Heap,K.In h->h.DictOfH (tupleKind (optKind P w)) a xs)/\qBk kvs xs
section
variable {κ:Type}[DecidableEq κ]{K:Frg}{H:Hp}{k:κ}{v:RV}{u:V}
def lk{α:Type}(kvs:List (κ×α))(k:κ):Option α:=(kvs.find? fun p=>decide (p.1=k)).map (·.2)
theorem qaB{α:Type}{j:κ}{x:α}{r:List (κ×α)}:lk ((j,x)::r) k=if j=k then some x else lk r k:=by
 unfold lk;rw[List.find?_cons]
 by_cases h:j=k
 · rw[if_pos h,decide_eq_true (show(j,x).1=k from h)];rfl
 · rw[if_neg h,decide_eq_false (show ¬(j,x).1=k from h)]
def pt{α:Type}(kvs:List (κ×α))(k:κ)(v:α):List (κ×α):=
 if(kvs.any fun kv=>decide (kv.1=k))=true then kvs.map (fun kv=>if kv.1=k then(kv.1,v)else kv)else kvs++ [(k,v)]
theorem qbI:∀ {kvs:List (κ×RV)} {ws:List (κ×V)},RepP K H kvs ws->(∀ r,lk kvs k=some r->∃ v,qe0 ws k=some v/\Rep K H r v)/\(lk kvs k=none->qe0 ws k=none)
 | [],ws,h=>by
  have h:ws= []:=h;subst h;exact⟨fun r e=>(by cases e),fun _=>rfl⟩
 |(j,x)::t,ws,h=>by
  obtain⟨v,u,rfl,h1,h2⟩:=h;have ih:=qbI h2;rw[qaB]
  by_cases hj:j=k
  · rw[if_pos hj]
    refine⟨fun r e=>⟨v,qcB (p:=(j,v)) hj,?_⟩,fun e=>(by cases e)⟩
    cases e;exact h1
  · rw[if_neg hj]
    exact⟨fun r e=>by rw[qbH (p:=(j,v)) hj];exact ih.1 r e,fun e=>by rw[qbH (p:=(j,v)) hj];exact ih.2 e⟩
theorem qgU:∀ {kvs:List (κ×RV)} {ws:List (κ×V)},RepP K H kvs ws->(kvs.any fun kv=>decide (kv.1=k))=ws.any fun kv=>decide (kv.1=k)
 | [],ws,h=>by have h':ws= []:=h;subst h';rfl
 |(j,x)::r,ws,h=>by
  obtain⟨w,t,rfl,h1,h2⟩:=h;rw[waL,waL,qgU h2]
theorem qem(hv:Rep K H v u):∀ {kvs:List (κ×RV)} {ws:List (κ×V)},RepP K H kvs ws->RepP K H (kvs.map fun kv=>if kv.1=k then(kv.1,v)else kv) (ws.map fun kv=>if kv.1=k then(kv.1,u)else kv)
 | [],ws,h=>by have h':ws= []:=h;subst h';rfl
 |(j,x)::r,ws,h=>by
  obtain⟨w,t,rfl,h1,h2⟩:=h;rw[wae,wae]
  by_cases e:j=k
  · rw[if_pos (show(j,x).1=k from e),if_pos (show(j,w).1=k from e)];exact⟨u,_,rfl,hv,qem hv h2⟩
  · rw[if_neg (show ¬(j,x).1=k from e),if_neg (show ¬(j,w).1=k from e)];exact⟨w,_,rfl,h1,qem hv h2⟩
theorem qlA(hv:Rep K H v u){kvs:List (κ×RV)}{ws:List (κ×V)}(h:RepP K H kvs ws):RepP K H (pt kvs k v) (putK ws k u):=by
 unfold pt putK;rw[qgU h];split
 · exact qem hv h
 · exact qju h ⟨u,[],rfl,hv,rfl⟩
end
theorem qon{K:Frg}{H:Hp}{r:RV}{x:V}{k:Option Key}(e:qvw r=some k)(h:Rep K H r x):x=oV k:=by
 cases r<;>first|(cases e;simp only[Rep]at h;exact h)|cases e
theorem qjy{K:Frg}{H:Hp}:∀ {rs:LR} {vs:LV} {ks:TK},qsi rs=some ks->Reps K H rs vs->vs=ks.map oV
 | [],vs,ks,e,h=>by cases e;exact h
 |r::rs,vs,ks,e,h=>by
  simp only[Reps]at h;obtain⟨v,t,rfl,h1,h2⟩:=h;unfold qsi at e;split at e
  · rename_i a b e1 e2
    cases e;rw[qon e1 h1,qjy e2 h2];rfl
  · cases e
theorem qge{K:Frg}{H:Hp}{r:RV}{x:V}{k:TK}(e:qhB r=some k)(h:Rep K H r x):∃ b,x= .ref b/\H b=some (.tup (k.map oV)):=by
 cases r with
 |tup rs=>
  simp only[Rep]at h;obtain⟨a,vs,rfl,h1,h2⟩:=h;exact⟨a,rfl,by rw[h1,qjy e h2]⟩
 |_=>cases e
def qsn(o:RO)(y:RV):Option (Option RV):=match o with
 | .dk kvs=>(qhC y).map (lk kvs)
 | .dt kvs=>(qhB y).map (lk kvs)
 | .fk kvs=>(qhC y).map (lk kvs)
 | .ft kvs=>(qhB y).map (lk kvs)
 |_=>none
def dAt(M:RM)(x y:RV):Option (Option RV):=match x with
 | .ref a=>(M a).bind (qsn · y)
 |_=>none
def isD(M:RM)(x:RV):Prop:=match x with
 | .ref a=>match M a with
  |some (.dk _)=>True
  |some (.dt _)=>True
  |some (.fk _)=>True
  |some (.ft _)=>True
  |_=>False
 |_=>False
def dPt(M:RM)(x y v:RV)(N:RM->Prop):Prop:=match x with
 | .ref a=>match M a with
  |some (.dk kvs)=>match qhC y with
   |some k=>kvs.length<sizeLine/\N (put M a (.dk (pt kvs k v)))
   |none=>False
  |some (.dt kvs)=>match qhB y with
   |some k=>kvs.length<sizeLine/\N (put M a (.dt (pt kvs k v)))
   |none=>False
  |_=>False
 |_=>False
section
variable {X:Cx}{M:RM}{H:Hp}{x y:RV}{vx vy:V}
theorem qjh{K:Frg}{r:Option RV}(hv:View K H M)(e:dAt M x y=some r)(rx:Rep K H x vx)(ry:Rep K H y vy):
 ∃ a r0,vx= .ref a/\DGet H a vy r0/\(∀ z,r=some z->∃ v,r0=some v/\Rep K H z v)/\(r=none->r0=none):=by
 unfold dAt at e;split at e
 · rename_i a
   simp only[Rep]at rx;cases q:M a with
   |none=>rw[q]at e;cases e
   |some o=>
    rw[q]at e
    replace e:qsn o y=some r:=e
    obtain⟨ho,eo,ro⟩:=hv a o q;unfold qsn at e;split at e
    · rename_i kvs
      obtain⟨ws,rfl,hg⟩:=ro;cases ek:qhC y with
      |none=>rw[ek]at e;cases e
      |some k=>
       rw[ek]at e;have e:lk kvs k=r:=Option.some.inj e;have:=qdo ek ry;subst this;exact⟨a,_,rx,DGet.k eo,fun z hz=>(qbI (k:=k) hg).1 z (e.trans hz),fun hz=>(qbI (k:=k) hg).2 (e.trans hz)⟩
    · rename_i kvs
      obtain⟨ws,rfl,hg⟩:=ro;cases ek:qhB y with
      |none=>rw[ek]at e;cases e
      |some k=>
       rw[ek]at e;have e:lk kvs k=r:=Option.some.inj e;obtain⟨b,rfl,hb⟩:=qge ek ry;exact⟨a,_,rx,DGet.t eo hb,fun z hz=>(qbI (k:=k) hg).1 z (e.trans hz),fun hz=>(qbI (k:=k) hg).2 (e.trans hz)⟩
    · rename_i kvs
      obtain⟨ob,ws,rfl,hg⟩:=ro;cases ek:qhC y with
      |none=>rw[ek]at e;cases e
      |some k=>
       rw[ek]at e;have e:lk kvs k=r:=Option.some.inj e;have:=qdo ek ry;subst this;exact⟨a,_,rx,.inl ⟨ws,k,.inr ⟨ob,eo⟩,rfl,rfl⟩,fun z hz=>(qbI (k:=k) hg).1 z (e.trans hz),fun hz=>(qbI (k:=k) hg).2 (e.trans hz)⟩
    · rename_i kvs
      obtain⟨ob,ws,rfl,hg⟩:=ro;cases ek:qhB y with
      |none=>rw[ek]at e;cases e
      |some k=>
       rw[ek]at e;have e:lk kvs k=r:=Option.some.inj e;obtain⟨b,rfl,hb⟩:=qge ek ry;exact⟨a,_,rx,.inr ⟨ws,k,b,.inr ⟨ob,eo⟩,rfl,hb,rfl⟩,fun z hz=>(qbI (k:=k) hg).1 z (e.trans hz),fun hz=>(qbI (k:=k) hg).2 (e.trans hz)⟩
    · cases e
 · cases e
theorem qrA{K:Frg}(hv:View K H M)(d:isD M x)(rx:Rep K H x vx):∃ a,vx= .ref a/\IsD H a:=by
 unfold isD at d;split at d
 · rename_i a
   simp only[Rep]at rx;split at d
   · rename_i kvs e;obtain⟨ho,eo,ws,rfl,hg⟩:=hv a _ e;exact⟨a,rx,.inl ⟨ws,.inl eo⟩⟩
   · rename_i kvs e;obtain⟨ho,eo,ws,rfl,hg⟩:=hv a _ e;exact⟨a,rx,.inr ⟨ws,.inl eo⟩⟩
   · rename_i kvs e;obtain⟨ho,eo,ob,ws,rfl,hg⟩:=hv a _ e;exact⟨a,rx,.inl ⟨ws,.inr ⟨ob,eo⟩⟩⟩
   · rename_i kvs e;obtain⟨ho,eo,ob,ws,rfl,hg⟩:=hv a _ e;exact⟨a,rx,.inr ⟨ws,.inr ⟨ob,eo⟩⟩⟩
   · exact d.elim
 · exact d.elim
theorem qrO{K:Frg}{v:RV}{vv:V}{N:RM->Prop}(hv:View K H M)(d:dPt M x y v N)(rx:Rep K H x vx)(ry:Rep K H y vy)(rv:Rep K H v vv):
 ∃ a H' M',vx= .ref a/\DPut H a vy vv H'/\N M'/\Ext H H'/\View K H' M':=by
 unfold dPt at d;split at d
 · rename_i a
   simp only[Rep]at rx;split at d
   · rename_i kvs em
     obtain⟨ho,eo,ws,rfl,hg⟩:=hv a _ em;split at d
     · rename_i k ek
       have:=qdo ek ry;subst this;have ex:Ext H (upd H a (.dK (putK ws k vv))):=Ext.write eo rfl;exact⟨a,_,_,rx,DPut.k eo (by rw[<-qa0 hg];exact d.1),d.2,ex,hv.write em ⟨_,rfl,qlA (Rep.ext ex _ _ rv) (hg.ext ex)⟩⟩
     · exact d.elim
   · rename_i kvs em
     obtain⟨ho,eo,ws,rfl,hg⟩:=hv a _ em;split at d
     · rename_i k ek
       obtain⟨b,rfl,hb⟩:=qge ek ry;have ex:Ext H (upd H a (.dT (putK ws k vv))):=Ext.write eo rfl;exact⟨a,_,_,rx,DPut.t eo hb (by rw[<-qa0 hg];exact d.1),d.2,ex,hv.write em ⟨_,rfl,qlA (Rep.ext ex _ _ rv) (hg.ext ex)⟩⟩
     · exact d.elim
   · exact d.elim
 · exact d.elim
end
section
variable {X:Cx}{o i value e f:Expr}{pos pos' apos cpos:Pos}{td ty tv tx:RTE}
def qsE(Q:RVK)(x y:RV)(M:RM):Prop:=match dAt M x y with
 |some (some v)=>Q v M
 |_=>False
def qsF(td ty:RTE):RTE:=fun σ M Q=>td σ M fun x M1=>ty σ M1 fun y M2=>qsE Q x y M2
theorem qqe{Q:RVK}{x y:RV}{M:RM}(h:qsE Q x y M):∃ v,dAt M x y=some (some v)/\Q v M:=by
 unfold qsE at h;split at h
 · rename_i v e;exact⟨v,e,h⟩
 · exact h.elim
theorem qvO(hu:X.A.units+1<cLine)(ho:RPE X o td)(hi:RPE X i ty)(hs:qvG i):RPE X (.Subscript o i pos) (qsF td ty):=PE.imp (qqW hu ho hi hs) fun σ0 H Q0 h=>by
 obtain⟨σ,M,Q,hs,hv,ht,hk⟩:=h;refine⟨σ,M,_,hs,hv,ht,fun rx M1 x H1 q e1 v1 r1=>⟨σ,M1,_,hs.ext e1,v1,q,fun ry M2 y H2 q2 e2 v2 r2=>?_⟩⟩
 obtain⟨v,ev,q2⟩:=qqe q2;obtain⟨a,r0,rfl,g,g1,_⟩:=qjh v2 ev (Rep.ext e2 _ _ r1) r2;obtain⟨w,rfl,rw'⟩:=g1 v rfl;exact⟨a,w,rfl,g,hk _ M2 _ H2 q2 (e1.trans e2) v2 rw'⟩
def uIn(neg:Bool)(Q:RVK)(x y:RV)(M:RM):Prop:=match dAt M x y with
 |some r=>Q (.bl (if neg then !r.isSome else r.isSome)) M
 |none=>False
def qsd(neg:Bool)(ty td:RTE):RTE:=fun σ M Q=>ty σ M fun y M1=>td σ M1 fun x M2=>uIn neg Q x y M2
theorem qcC{neg:Bool}{σ0:L2.St}{H:Hp}{Q0:VK}(h:up X.K (qsd neg ty td) σ0 H Q0):up X.K ty σ0 H fun y H1=>up X.K td σ0 H1 fun x H2=>∃ a r,x= .ref a/\DGet H2 a y r/\Q0 (.bl (if neg then !r.isSome else r.isSome)) H2:=by
 obtain⟨σ,M,Q,hs,hv,ht,hk⟩:=h;refine⟨σ,M,_,hs,hv,ht,fun ry M1 y H1 q e1 v1 r1=>⟨σ,M1,_,hs.ext e1,v1,q,fun rx M2 x H2 q2 e2 v2 r2=>?_⟩⟩
 unfold uIn at q2;split at q2
 · rename_i r er
   obtain⟨a,r0,rfl,g,g1,g2⟩:=qjh v2 er r2 (Rep.ext e2 _ _ r1);refine⟨a,r0,rfl,g,hk _ M2 _ H2 q2 (e1.trans e2) v2 ?_⟩;have:r0.isSome=r.isSome:=by
    cases r with
    |none=>rw[g2 rfl];rfl
    |some z=>obtain⟨v,rfl,_⟩:=g1 z rfl;rfl
   rw[this];simp only[Rep]
 · exact q2.elim
theorem qB1(hu:X.A.units+1<cLine)(hi:RPE X i ty)(ho:RPE X o td)(h1:behindInMarks .In o=false):RPE X (.Compare i [.In] [o] pos) (qsd false ty td):=PE.imp (qpu (qpv hu hi ho) h1) fun σ0 H Q0 h=>qcC h
theorem qqf(hu:X.A.units+1<cLine)(hi:RPE X i ty)(ho:RPE X o td)(h1:behindInMarks .NotIn o=false):RPE X (.Compare i [.NotIn] [o] pos) (qsd true ty td):=PE.imp (qpu (qg6 hu hi ho) h1) fun σ0 H Q0 h=>qcC h
theorem qvN(hu:X.A.units+1<cLine)(hi:RPE X i ty)(ho:RPE X o td)(h1:behindInMarks .In o=false):RPT X (.Compare i [.In] [o] pos) (qfZ (qsd false ty td)):=PT.imp (qlN (qpv hu hi ho) h1) fun σ0 H Q0 h=>by
 obtain⟨σ,M,Q,hs,hv,ht,hk⟩:=h;exact qcC (neg:=false) ⟨σ,M,_,hs,hv,ht,qcn hk⟩
theorem qnG(hu:X.A.units+1<cLine)(hi:RPE X i ty)(ho:RPE X o td)(h1:behindInMarks .NotIn o=false):RPT X (.Compare i [.NotIn] [o] pos) (qfZ (qsd true ty td)):=PT.imp (qlN (qg6 hu hi ho) h1) fun σ0 H Q0 h=>by
 obtain⟨σ,M,Q,hs,hv,ht,hk⟩:=h;exact qcC (neg:=true) ⟨σ,M,_,hs,hv,ht,qcn hk⟩
def qkZ(Q:RVK)(x y z:RV)(M:RM):Prop:=match dAt M x y with
 |some r=>Q (r.getD z) M
 |none=>False
def qpc(td ty:RTE):RTE:=fun σ M Q=>td σ M fun x M1=>isD M1 x/\ty σ M1 fun y M2=>qkZ Q x y .non M2
theorem qnH{K:Frg}{Q:RVK}{x y z:RV}{M:RM}{H:Hp}{a:Addr}{vy vz:V}(h:qkZ Q x y z M)(hv:View K H M)(rx:Rep K H x (.ref a))(ry:Rep K H y vy)(rz:Rep K H z vz):
 ∃ r r0,Q r M/\DGet H a vy r0/\Rep K H r (r0.getD vz):=by
 unfold qkZ at h;split at h
 · rename_i r er
   obtain⟨a',r0,ea,g,g1,g2⟩:=qjh hv er rx ry;cases ea;refine⟨_,r0,h,g,?_⟩;cases r with
   |none=>rw[g2 rfl];exact rz
   |some q=>obtain⟨v,rfl,rw'⟩:=g1 q rfl;exact rw'
 · exact h.elim
theorem qsD(hu:X.A.units+1<cLine)(ho:RPE X o td)(he:RPE X e ty)(m:M1 X o "get" apos e cpos):RPE X (.Call (.Attribute o "get" apos) [e] [] cpos) (qpc td ty):=PE.imp (qog hu ho he m) fun σ0 H Q0 h=>by
 obtain⟨σ,M,Q,hs,hv,ht,hk⟩:=h;refine⟨σ,M,_,hs,hv,ht,fun rx M1 x H1 q e1 v1 r1=>?_⟩
 obtain⟨a,rfl,d⟩:=qrA v1 q.1 r1;refine⟨a,rfl,d,σ,M1,_,hs.ext e1,v1,q.2,fun ry M2 y H2 q2 e2 v2 r2=>?_⟩
 obtain⟨r,r0,q3,g,rr⟩:=qnH q2 v2 (Rep.ext e2 _ _ r1) r2 (show Rep X.K H2 .non .non by simp only[Rep])
 exact⟨r0,g,hk _ M2 _ H2 q3 (e1.trans e2) v2 rr⟩
def qpb(td ty tv:RTE):RTS:=fun D σ M=>tv σ M fun v M1=>td σ M1 fun x M2=>ty σ M2 fun y M3=>dPt M3 x y v (D.nx σ)
theorem qsA(hu:X.A.units+1<cLine)(ho:RPE X o td)(hi:RPE X i ty)(hv:RPE X value tv)(hs:swapsWith value (some (.Subscript o i pos')) pos.line X.env=pure false):RPS X (.Assign [.Subscript o i pos'] value pos) (qpb td ty tv):=PS.imp (qqN hu ho hi hv hs) fun D0 σ0 H h=>by
 obtain⟨σ,M,D,hs,hv,ht,hd⟩:=h;refine⟨σ,M,_,hs,hv,ht,fun rv M1 v H1 q e1 v1 r1=>⟨σ,M1,_,hs.ext e1,v1,q,fun rx M2 x H2 q2 e2 v2 r2=>⟨σ,M2,_,hs.ext (e1.trans e2),v2,q2,fun ry M3 y H3 q3 e3 v3 r3=>?_⟩⟩⟩
 obtain⟨a,H4,M4,rfl,g,n,ex,w⟩:=qrO v3 q3 (Rep.ext e3 _ _ r2) r3 (Rep.ext (e2.trans e3) _ _ r1);have e13:=((e1.trans e2).trans e3).trans ex;exact⟨a,H4,rfl,g,hd.nx σ M4 σ0 H4 n e13 w (hs.ext e13)⟩
def qpp:RTE:=fun _ M Q=>∀ p,M p=none->Q (.ref p) (put M p (.dt []))
theorem qtb:RPE X (.Dict [] [] pos) qpp:=PE.imp qoe fun σ0 H Q0 h=>by
 obtain⟨σ,M,Q,hs,hv,ht,hk⟩:=h;exact fun p hp=>hk _ _ _ _ (ht p (hv.free hp)) (Ext.new hp) (hv.newPut hp ⟨[],rfl,rfl⟩) (by simp only[Rep])
end
section
variable {X:Cx}
def qAI(i j:Nat)(ta:RTA):RTS:=fun D σ M=>ta σ M fun rs M1=>match rs with
 | [v,w]=>D.nx ((σ.set i (some v)).set j (some w)) M1
 |_=>False
theorem qCR{i j:Nat}{x y:Str}{a b:Expr}{ta:RTA}{px py pt:Pos}{kt k2:Nat}{pt2 pos:Pos}(hc:X.calm=true)(hN:X.N.Nodup)(hi:X.N[i]? =some x)(hj:X.N[j]? =some y)(hij:i≠j)
 (hx:X.env.scope.names.lookup x=some .local) (hy:X.env.scope.names.lookup y=some .local) (ha:RPA X [a,b] ta)
 (hw:swappedStores [.Tuple [.Name x px,.Name y py] kt pt] (.Tuple [a,b] k2 pt2) X.env=pure (some [x,y])):
 RPS X (.Assign [.Tuple [.Name x px,.Name y py] kt pt] (.Tuple [a,b] k2 pt2) pos) (qAI i j ta):=PS.imp (qtB hc hN hi hj hij hx hy ha hw) fun D0 σ0 H h=>by
 obtain⟨σ,M,D,hs,hv,ht,hd⟩:=h;refine⟨σ,M,_,hs,hv,ht,fun rs M1 vs H1 q e1 v1 r1=>?_⟩
 split at q
 · rename_i v w
   obtain⟨v',w',rfl,a1,a2⟩:=r1.two;exact⟨v',w',rfl,hd.nx _ M1 _ H1 q e1 v1 (((hs.ext e1).set a1 i).set a2 j)⟩
 · exact q.elim
end
def RawD(h:Heap)(d:Addr)(es:Array DictEntry)(ep:Nat):Prop:=∃ o,h.get? d=some o/\o.ExactDict/\o.data= .dict es ep
section
variable {prog:Program}{w:World}{A:Around}{E:VSP}{s:Shared}{d it:Addr}{es:Array DictEntry}{ep i:Nat}
theorem RawD.ty(x:RawD s.heap d es ep):s.TypeIs (.ref d) "dict":=by
 obtain⟨o,h1,h2,h3⟩:=x;exact⟨o,h1,h2.1⟩
theorem qdN{Q:OVl->Shared->Prop}(hit:s.heap.IsValIter it d i es.size ep)(hm:RawD s.heap d es ep)(hi:i<es.size)
 (hQ:∀ h',h'.IsValIter it d (i+1) es.size ep->Heap.SameBut it s.heap h'->Q (some es[i].val) { s with heap:=h' }):wpAny (model prog w) A (pyNext (.ref it)) Q E s:=by
 obtain⟨o,ho,hc,hd⟩:=id hit;obtain⟨od,hod,hcd,hdd⟩:=id hm;have ow:Builtin.Dict_items.ownsTuple "dict_valueiterator" =false:=by decide
 unfold pyNext;refine wpAny_bind (wpAny_attempt (wpAny_callSpecial?_slot (name:=Str.ofString "__next__") hit.typeIs F.slot_dict_valueiterator_next (wpAny_call_entry F.slot_dict_valueiterator_next hit.typeIs F.entry_dict_valueiterator_next ?_ (F.args_dict_valueiterator_next_1 _))));refine wpAny_bind (wpAny_pure (wpAny_bind (wpAny_bind ?_)))
 first|refine wpAny_bind (wpAny_typeNameOfWhole_valiter hit.typeIs (wpAny_pure (wpAny_bind (wpAny_fieldsOf ho hd ?_))))|refine wpAny_bind (wpAny_typeNameOf_valiter hit.typeIs (wpAny_pure (wpAny_bind (wpAny_fieldsOf ho hd ?_))))
 simp only[ow,waD,if_false];refine(?_:wpAny _ _ (if(Value.ref d==Value.none)=true then _ else _) _ _ s)
 rw[if_neg (show ¬(Value.ref d==Value.none)=true from fun z=>wau z)]
 refine wpAny_bind (wpAny_pure (wpAny_bind (wpAny_dictEntries hod hdd ?_)));rw[if_neg (by simp)];refine wpAny_bind (wpAny_pure (wpAny_bind (wpAny_dictEpoch hod hdd ?_)))
 rw[if_neg (by simp)];refine wpAny_pure ?_
 simp only[show ¬((i:Int)<0) by omega,if_false,Int.toNat_natCast,Array.getElem?_eq_getElem hi]
 first|refine wpAny_bind (wpAny_bind (wpAny_typeNameOfWhole_valiter hit.typeIs (wpAny_pure (wpAny_bind (wpAny_isOneOf_valiter hit.typeIs ?_)))))|refine wpAny_bind (wpAny_bind (wpAny_typeNameOf_valiter hit.typeIs (wpAny_pure (wpAny_bind (wpAny_isOneOf_valiter hit.typeIs ?_)))))
 refine(?_:wpAny _ _ (setField (.ref it) 1 (rawInt ((i:Int)+1)) >>= _) _ _ s);refine wpAny_bind (wpAny_setField ho hd (by simp) ?_)
 have hit':(s.heap.update it (Obj.mapFields fun a=>a.setIfInBounds 1 (rawInt ((i:Int)+1)))).IsValIter it d (i+1) es.size ep:=⟨_,Heap.get?_update_self _ ho (Obj.isFreed_of_fields (Obj.data_mapFields hd _)),(Obj.cls_mapFields ..).trans hc,by rw[Obj.data_mapFields hd];simp[rawInt]⟩
 refine wpAny_bind (wpAny_holding (wpAny_bind (wpAny_isOneOf_valiter (s:={ s with heap:=s.heap.update it (Obj.mapFields fun a=>a.setIfInBounds 1 (rawInt ((i:Int)+1))) }) hit'.typeIs ?_)))
 refine wpAny_bind (wpAny_isOneOf_valiter (s:={ s with heap:=s.heap.update it (Obj.mapFields (·.setIfInBounds 1 (rawInt ((i:Int)+1)))) }) hit'.typeIs (?_:_))
 refine(?_:wpAny _ _ (pure es[i].val) _ _ _);exact wpAny_pure (wpAny_pure ⟨_,rfl,wpAny_pure (hQ _ hit' (Heap.SameBut.update ..))⟩)
theorem qep{Q:OVl->Shared->Prop}(hh:A.handled=none)(hit:s.heap.IsValIter it d i es.size ep)(hm:RawD s.heap d es ep)(hi:es.size<=i)(hQ:∀ h',Heap.ExtBut it s.heap h'->Q none { s with heap:=h' }):
 wpAny (model prog w) A (pyNext (.ref it)) Q E s:=by
 obtain⟨o,ho,hc,hd⟩:=id hit;obtain⟨od,hod,hcd,hdd⟩:=id hm;have ow:Builtin.Dict_items.ownsTuple "dict_valueiterator" =false:=by decide
 unfold pyNext;refine wpAny_bind (wpAny_attempt (wpAny_callSpecial?_slot (name:=Str.ofString "__next__") hit.typeIs F.slot_dict_valueiterator_next (wpAny_call_entry F.slot_dict_valueiterator_next hit.typeIs F.entry_dict_valueiterator_next ?_ (F.args_dict_valueiterator_next_1 _))));refine wpAny_bind (wpAny_pure (wpAny_bind (wpAny_bind ?_)))
 first|refine wpAny_bind (wpAny_typeNameOfWhole_valiter hit.typeIs (wpAny_pure (wpAny_bind (wpAny_fieldsOf ho hd ?_))))|refine wpAny_bind (wpAny_typeNameOf_valiter hit.typeIs (wpAny_pure (wpAny_bind (wpAny_fieldsOf ho hd ?_))))
 simp only[ow,waD,if_false];refine(?_:wpAny _ _ (if(Value.ref d==Value.none)=true then _ else _) _ _ s)
 rw[if_neg (show ¬(Value.ref d==Value.none)=true from fun z=>wau z)]
 refine wpAny_bind (wpAny_pure (wpAny_bind (wpAny_dictEntries hod hdd ?_)));rw[if_neg (by simp)];refine wpAny_bind (wpAny_pure (wpAny_bind (wpAny_dictEpoch hod hdd ?_)))
 rw[if_neg (by simp)];refine wpAny_pure ?_
 simp only[show ¬((i:Int)<0) by omega,if_false,Int.toNat_natCast,Array.getElem?_eq_none hi]
 first|refine wpAny_bind (wpAny_bind (wpAny_typeNameOfWhole_valiter hit.typeIs (wpAny_pure ?_)))|refine wpAny_bind (wpAny_bind (wpAny_typeNameOf_valiter hit.typeIs (wpAny_pure ?_)))
 refine(?_:wpAny _ _ (setField (.ref it) 0 .none >>= _) _ _ s);refine wpAny_bind (wpAny_setField ho hd (by simp) ?_)
 refine(?_:wpAny _ _ (newExc (.type "StopIteration") [] >>= _) _ _ _);simp only[newExc,newTuple];refine wpAny_bind (wpAny_bind (wpAny_newObj_type ?_ (by size_fits)))
 refine wpAny_bind (m:=firstArgMember _ _) (wpAny_of_eq (a:=Value.none) (by first|rfl|(simp only[firstArgMember];rfl)) (wpAny_newObj_type ?_ (by size_fits)))
 simp only[raiseNew];refine wpAny_bind (wpAny_handled ?_);rw[show A.in1.handled=none from hh];refine wpAny_bind (wpAny_pure (wpAny_throw ?_));refine wpAny_bind (wpAny_isInstance (T:="StopIteration") (b:=true) ⟨_,Heap.get?_push_size _ rfl,rfl⟩ isSubtype_stop ?_)
 exact wpAny_pure (hQ _ (((Heap.SameBut.update ..).extBut.push _).push _))
theorem qkf{Q:VSP}{v:Addr}(hv:s.heap.IsValuesView v d)(hm:RawD s.heap d es ep)
 (hQ:Q (.ref s.heap.objs.size) { s with heap:=s.heap.push { cls:=.type "dict_valueiterator",data:=.fields #[.ref d,.int 0 0,.int es.size 0,.int ep 0] } }):wpAny (model prog w) A (pyIter (.ref v)) Q E s:=by
 obtain⟨ov,hov,hcv,hdv⟩:=id hv;obtain⟨o,ho,hc,hdat⟩:=id hm;have ow:Builtin.Dict_items.ownsTuple "dict_valueiterator" =false:=by decide
 refine wpAny_pyIter_slot hv.typeIs F.slot_dict_values_iter (wpAny_call_entry F.slot_dict_values_iter hv.typeIs F.entry_dict_values_iter ?_ (F.args_dict_values_iter_1 _));unfold Builtin.«dict_values.__iter__» Builtin.Dict_items.dictOf Builtin.Dict_items.newIterator;refine wpAny_bind (wpAny_pure (wpAny_bind (wpAny_bind (wpAny_field hov hdv (x:=.ref d) rfl (wpAny_pure (wpAny_bind (wpAny_bind (wpAny_dictEntries ho hdat (wpAny_bind (wpAny_dictEpoch ho hdat ?_))))))))));simp only[ow,waD,if_false];refine wpAny_newObj_type (wpAny_pure ⟨_,rfl,"dict_valueiterator",_,⟨_,Heap.get?_push_size _ rfl,rfl⟩,F.slot_dict_valueiterator_next.lookup,?_⟩);simpa[rawInt]using hQ
theorem qix(hd:(d==sysModules)=false):MeetsIn prog w (Builtin.«dict.values» ⟨[.ref d],[]⟩) (fun _ R s=>(∃ es ep,RawD s.heap d es ep)/\R (.ok (.ret (.ref s.heap.objs.size))) { s with heap:=s.heap.push { cls:=.type "dict_values",data:=.fields #[.ref d] } }):=
 .of_wp fun A R s ⟨⟨es,ep,hm⟩,h⟩=>by
  have e0:Builtin.Dict.showsAll d=pure ():=by unfold Builtin.Dict.showsAll;rw[if_neg (by rw[hd];exact wau)]
  refine wpAny_bind ?_;unfold Builtin.Dict.noArgs;refine wpAny_bind (wpAny_notOrdered_dict hm.ty ?_);refine(wpAny_pure ?_:wpAny _ _ (pure d) _ _ s);refine(?_:wpAny _ _ (Builtin.Dict.showsAll d >>= _) _ _ s);rw[e0];exact wpAny_bind (wpAny_pure (wpAny_bind (wpAny_newObj_type (wpAny_pure ⟨_,rfl,h⟩))))
end
def qvx:HO->Nat
 | .dK kvs=>kvs.length
 | .dT kvs=>kvs.length
 |_=>0
def quj(u:HO)(i:Nat)(H:Hp)(x:V):Prop:=match u with
 | .dK kvs=>∃ kv,kvs[i]? =some kv/\x=kV kv.1
 | .dT kvs=>∃ kv b,kvs[i]? =some kv/\x= .ref b/\H b=some (.tup (kv.1.map oV))
 |_=>False
def valAt(u:HO)(i:Nat)(x:V):Prop:=match u with
 | .dK kvs=>∃ kv,kvs[i]? =some kv/\x=kv.2
 | .dT kvs=>∃ kv,kvs[i]? =some kv/\x=kv.2
 |_=>False
theorem qcG{α β:Type}{F:α->β->Prop}:∀ {l:List α} {m:List β} {i:Nat} {b:β},Paired F l m->m[i]? =some b->∃ a,l[i]? =some a/\F a b
 |_,_,_,_,.nil,e=>by simp at e
 |_,_,0,_,.cons r _,e=>by simp at e;subst e;exact⟨_,rfl,r⟩
 |_,_,i+1,b,.cons _ t,e=>by
  obtain⟨a,h1,h2⟩:=qcG (i:=i) t (by simpa using e)
  exact⟨a,by simpa using h1,h2⟩
theorem qhD{k:Key}{u:Value}(h:qfg k u=true):RelV (kV k) u:=by
 rcases qar h with⟨i,t,rfl,rfl⟩|⟨x,t,rfl,rfl⟩
 · exact⟨t,rfl⟩
 · exact⟨t,rfl⟩
section
variable {X:Cx}{pins:LAO}{σ:L2.St}{H:Hp}{s:Shared}{a:Addr}{o:Obj}{u:HO}
theorem qcb(I:Inv X pins σ H s)(h:H a=some (.frz o u))(du:qnD u=true):∃ es ep,o.data= .dict es ep/\RawD s.heap a es ep/\(a==sysModules)=false/\es.size=qvx u/\qvx u<=sizeLine/\
 ∀ i (hi:i<es.size),(∃ x,quj u i H x/\RelV x es[i].key)/\∃ x,valAt u i x/\RelV x es[i].val:=by
 obtain⟨g,hz⟩:=I.hok a _ h;cases u<;>first|(cases du;done)|skip
 · rename_i kvs
   obtain⟨z,y,vs,r,o',es,ep,e,c,dd,ks,ps,nd⟩:=hz;rw[g]at e;cases e;have hl:es.size=kvs.length:=by have:=ps.length;have h2:=Paired.length r;simp at this;omega
   refine⟨es,ep,dd,⟨o,g,c,dd⟩,y,hl,z,fun i hi=>?_⟩
   have hv:i<vs.length:=by have:=ps.length;simp at this;omega
   obtain⟨p1,p2⟩:=ps.get? (e:=es[i]) (i:=i) (k:=vs[i].1) (v:=vs[i].2) (by simp[hi]) (by simp[hv])
   obtain⟨kv,k1,k2,k3⟩:=qcG (i:=i) r (by simp[hv]:vs[i]? =some vs[i])
   refine⟨⟨kV kv.1,⟨kv,k1,rfl⟩,?_⟩,kv.2,⟨kv,k1,rfl⟩,by rw[p2];exact k3⟩
   rw[k2];exact qhD p1
 · rename_i kvs
   obtain⟨z,y,xs,r,o',es,ep,e,c,dd,he,nd⟩:=hz;rw[g]at e;cases e;have hl:es.size=kvs.length:=by have h2:=Paired.length r;have:=congrArg List.length he;simp at this;omega
   refine⟨es,ep,dd,⟨o,g,c,dd⟩,y,hl,z,fun i hi=>?_⟩
   have hx:i<xs.length:=by have:=congrArg List.length he;simp at this;omega
   have he':es[i]=entryOfKey (tupleKind (optKind X.prog X.w)) xs[i]:=by
    have:=entry_at (knd:=tupleKind (optKind X.prog X.w)) he i;simpa[hi,hx]using this
   obtain⟨kv,k1,k2,k3,k4⟩:=qcG (i:=i) r (by simp[hx]:xs[i]? =some xs[i])
   rw[he'];exact⟨⟨.ref xs[i].2.1,⟨kv,xs[i].2.1,k1,rfl,k3⟩,rfl⟩,kv.2,⟨kv,k1,rfl⟩,k4⟩
end
def Itq(o:Obj)(a:Addr)(k:Bool):It:=
 ⟨fun i H=>∃ u,H a=some (.frz o u)/\qnD u=true/\i<qvx u,fun i H x H'=>H'=H/\∃ u,H a=some (.frz o u)/\(if k=true then quj u i H x else valAt u i x),fun i H=>∃ u,H a=some (.frz o u)/\qnD u=true/\qvx u<=i⟩
section
variable {P:Program}{w:World}{K:Frg}{tg:Expr}{o:Obj}{a it:Addr}{es:Array DictEntry}{ep:Nat}
theorem qk0(hd:o.data= .dict es ep):Turn P w K tg (Itq o a false) [it] it (fun i h=>h.IsValIter it a i es.size ep) where
 mem:=by simp
 obj:=fun i h st b hb=>by
  have e:b=it:=by simpa using hb
  subst e;obtain⟨o,e,c,d⟩:=st;exact⟨o,e,fun v z=>by rw[d]at z;cases z⟩
 keep:=fun i h h' st k=>by obtain⟨o,e,c,d⟩:=st;exact⟨o,k it (by simp) o e,c,d⟩
 item:=by
  intro X hP hw hK hc i pins s σ H E I hf st ⟨u,hg,du,hi⟩;subst hP hw hK;obtain⟨es',ep',d',rd,hS,hl,_,hall⟩:=qcb I hg du;rw[hd]at d';cases d';have hi':i<es.size:=by rw[hl];exact hi
  obtain⟨f0,f1,f2,f3,f4,f5⟩:=hf it (by simp)
  refine qdN st rd hi' fun h' st' sb=>?_
  have I1:Inv X pins σ H { s with heap:=h' }:=I.turned (t':=s.toks) (fun b o hb e=>(sb.2 b hb).trans e) f0 f1 f3 f4 f5
  obtain⟨_,x,k1,k2⟩:=hall i hi';obtain⟨oi,e,c,d⟩:=id st';exact⟨_,rfl,qmR (s:={ s with heap:=h' }) e c d (by decide) ⟨x,H,I1,k2,⟨rfl,u,hg,by rw[if_neg (by decide)];exact k1⟩,st',fun b hb=>(hf b hb).1⟩⟩
 done:=by
  intro X hP hw hK hc i pins s σ H E I hf st ⟨u,hg,du,hi⟩;subst hP hw hK;obtain⟨es',ep',d',rd,hS,hl,_,hall⟩:=qcb I hg du;rw[hd]at d';cases d';obtain⟨f0,f1,f2,f3,f4,f5⟩:=hf it (by simp)
  exact qep (I.ok.hd hc) st rd (by rw[hl];exact hi) fun h' eb=>⟨rfl,I.turned (t':=s.toks) (fun b o hb e=>eb b o hb e) f0 f1 f3 f4 f5⟩
 self:=fun _ _ _ _ _ st h=>wpAny_pyIter_valiter st h
end
def kR:Key->RV
 | .inl i=>.int i
 | .inr x=>.str x
def oR:qbW->RV
 |none=>.non
 |some k=>kR k
def qnO(k:Bool)(kvs:LKR):LR:=if k=true then kvs.map (fun kv=>kR kv.1)else kvs.map (·.2)
def qld(k:Bool)(kvs:List (TK×RV)):LR:=if k=true then kvs.map (fun kv=>.tup (kv.1.map oR))else kvs.map (·.2)
theorem qlz{K:Frg}{H:Hp}(k:Key):Rep K H (kR k) (kV k):=by cases k<;>simp only[kR,kV,Rep]
theorem qta{K:Frg}{H:Hp}(k:qbW):Rep K H (oR k) (oV k):=by
 cases k with
 |none=>simp only[oR,oV,Rep]
 |some k=>exact qlz k
theorem qly{K:Frg}{H:Hp}:∀ ks:TK,Reps K H (ks.map oR) (ks.map oV)
 | []=>Reps.nil
 |k::ks=>Reps.cons (qta k) (qly ks)
theorem qdf{κ:Type}{K:Frg}{H:Hp}:∀ {xs:List (κ×RV)} {ws:List (κ×V)} {i:Nat} {w:κ×V},RepP K H xs ws->ws[i]? =some w->∃ r,xs[i]? =some (w.1,r)/\Rep K H r w.2
 | [],ws,i,w,h,e=>by have h:ws= []:=h;subst h;simp at e
 |(k,x)::r,ws,i,w,h,e=>by
  obtain⟨v,t,rfl,h1,h2⟩:=h;cases i with
  |zero=>simp at e;subst e;exact⟨x,by simp,h1⟩
  |succ i=>
   obtain⟨q,a,b⟩:=qdf (i:=i) h2 (by simpa using e)
   exact⟨q,by simpa using a,b⟩
section
variable {H0 Hs:Hp}{K:Frg}{H1:Hp}{a:Addr}{o:Obj}{k:Bool}
theorem qpF{kvs:LKR}{ws:List (Key×V)}{un:RM->RM}(h:H1 a=some (.frz o (.dK ws)))(r:RepP K H1 kvs ws)
 (th:∀ H M,Ext H1 H->View K H M->M a=some (.fk kvs)->∃ H',Thaw H0 H H'/\ExtW H H'/\Ext Hs H'/\View K H' (un M)):qkW H0 Hs K (Itq o a k) (qnO k kvs) (fun M=>M a=some (.fk kvs)) un H1 where
 turn:=fun i H M e hv hm x hx=>by
  have hH:=e.frzs _ _ _ h;have hl:(qnO k kvs).length=ws.length:=by rw[<-qa0 r];unfold qnO;split<;>simp
  have hi:i<ws.length:=by rw[<-hl];exact(List.getElem?_eq_some_iff.mp hx).1
  refine⟨⟨_,hH,rfl,hi⟩,fun v H' y=>?_⟩
  obtain⟨rfl,u,hu,y⟩:=y;rw[hH]at hu;cases hu;refine⟨.refl _,fun _ w=>w,?_⟩
  cases k with
  |true=>
   rw[if_pos rfl]at y;obtain⟨kv,e1,rfl⟩:=y;obtain⟨q,e2,_⟩:=qdf r e1;have:x=kR kv.1:=by simpa[qnO,e2]using hx.symm
   rw[this];exact qlz _
  |false=>
   rw[if_neg (by decide)]at y
   obtain⟨kv,e1,rfl⟩:=y;obtain⟨q,e2,rq⟩:=qdf r e1;have:x=q:=by simpa[qnO,e2]using hx.symm
   rw[this];exact Rep.ext e _ _ rq
 stop:=fun i H M e hv hm hi=>by
  have hl:(qnO k kvs).length=ws.length:=by rw[<-qa0 r];unfold qnO;split<;>simp
  exact⟨_,e.frzs _ _ _ h,rfl,by rw[hl]at hi;exact hi⟩
 thaw:=th
theorem qpE{kvs:List (TK×RV)}{ws:List (TK×V)}{un:RM->RM}(h:H1 a=some (.frz o (.dT ws)))(r:RepP K H1 kvs ws)
 (th:∀ H M,Ext H1 H->View K H M->M a=some (.ft kvs)->∃ H',Thaw H0 H H'/\ExtW H H'/\Ext Hs H'/\View K H' (un M)):qkW H0 Hs K (Itq o a k) (qld k kvs) (fun M=>M a=some (.ft kvs)) un H1 where
 turn:=fun i H M e hv hm x hx=>by
  have hH:=e.frzs _ _ _ h;have hl:(qld k kvs).length=ws.length:=by rw[<-qa0 r];unfold qld;split<;>simp
  have hi:i<ws.length:=by rw[<-hl];exact(List.getElem?_eq_some_iff.mp hx).1
  refine⟨⟨_,hH,rfl,hi⟩,fun v H' y=>?_⟩
  obtain⟨rfl,u,hu,y⟩:=y;rw[hH]at hu;cases hu;refine⟨.refl _,fun _ w=>w,?_⟩
  cases k with
  |true=>
   rw[if_pos rfl]at y;obtain⟨kv,b,e1,rfl,hb⟩:=y;obtain⟨q,e2,_⟩:=qdf r e1;have:x= .tup (kv.1.map oR):=by simpa[qld,e2]using hx.symm
   rw[this];simp only[Rep];exact⟨b,_,rfl,hb,qly _⟩
  |false=>
   rw[if_neg (by decide)]at y
   obtain⟨kv,e1,rfl⟩:=y;obtain⟨q,e2,rq⟩:=qdf r e1;have:x=q:=by simpa[qld,e2]using hx.symm
   rw[this];exact Rep.ext e _ _ rq
 stop:=fun i H M e hv hm hi=>by
  have hl:(qld k kvs).length=ws.length:=by rw[<-qa0 r];unfold qld;split<;>simp
  exact⟨_,e.frzs _ _ _ h,rfl,by rw[hl]at hi;exact hi⟩
 thaw:=th
end
noncomputable def qsk (k:Bool)(Q:LR->(RM->Prop)->(RM->RM)->RM->Prop):RVK:=fun v M1=>match v with
 | .ref a=>match M1 a with
  |some (.dk kvs)=>Q (qnO k kvs) (fun M=>M a=some (.fk kvs)) (fun M=>put M a (.dk kvs)) (put M1 a (.fk kvs))
  |some (.dt kvs)=>Q (qld k kvs) (fun M=>M a=some (.ft kvs)) (fun M=>put M a (.dt kvs)) (put M1 a (.ft kvs))
  |some (.fk kvs)=>Q (qnO k kvs) (fun M=>M a=some (.fk kvs)) id M1
  |some (.ft kvs)=>Q (qld k kvs) (fun M=>M a=some (.ft kvs)) id M1
  |_=>False
 |_=>False
def qAV(k:Bool)(te:RTE):RTI:=fun σ M Q=>te σ M (qsk k Q)
section
variable {X:Cx}{tg:Expr}
theorem hold{pins:LAO}{σ0:L2.St}{H H1:Hp}{s:Shared}{k:Bool}{Q:LR->(RM->Prop)->(RM->RM)->RM->Prop}{rv:RV}{v:V}{M1:RM}(I:Inv X pins σ0 H1 s)(e1:Ext H H1)(v1:View X.K H1 M1)(r1:Rep X.K H1 rv v)(q:qsk k Q rv M1):
 ∃ a o u H2 xs ok un M2,v= .ref a/\Inv X pins σ0 H2 s/\H2 a=some (.frz o u)/\qnD u=true/\qkW X.H₀ H X.K (Itq o a k) xs ok un H2/\Q xs ok un M2/\Ext H H2/\View X.K H2 M2:=by
 cases rv<;>first|(exact(show False from q).elim)|skip
 rename_i a;simp only[Rep]at r1;unfold qsk at q;simp only at q;split at q
 · rename_i kvs em
   obtain⟨ho,eh,ws,rfl,r⟩:=v1 a _ em;obtain⟨ob,g,I2,n0⟩:=qi9 I eh rfl;have ex:Ext H1 (upd H1 a (.frz ob (.dK ws))):=Ext.write eh rfl;refine⟨a,ob,.dK ws,_,_,_,_,_,r1,I2,qah,rfl,qpF qah (r.ext ex) fun H2 M e hv hm=>?_,q,e1.trans ex,v1.write em ⟨ob,ws,rfl,r.ext ex⟩⟩
   have hH:=e.frzs _ _ _ (qah (H:=H1) (a:=a) (o:=.frz ob (.dK ws)));have xw:ExtW H2 (upd H2 a (.dK ws)):=ExtW.thaw hH rfl;refine⟨upd H2 a (.dK ws),.inr ⟨a,ob,_,hH,rfl,n0,rfl⟩,xw,⟨fun b xs z=>?_,fun b o' u' z=>?_⟩,hv.write hm ⟨ws,rfl,RepP.extw xw (r.ext (ex.trans e))⟩⟩
   · have z1:=e.tups _ _ (ex.tups _ _ (e1.tups _ _ z))
     rw[qaa (by rintro rfl;rw[hH]at z1;cases z1)];exact z1
   · have z0:=e1.frzs _ _ _ z
     rw[qaa (by rintro rfl;rw[eh]at z0;cases z0)];exact e.frzs _ _ _ (ex.frzs _ _ _ z0)
 · rename_i kvs em
   obtain⟨ho,eh,ws,rfl,r⟩:=v1 a _ em;obtain⟨ob,g,I2,n0⟩:=qi9 I eh rfl;have ex:Ext H1 (upd H1 a (.frz ob (.dT ws))):=Ext.write eh rfl;refine⟨a,ob,.dT ws,_,_,_,_,_,r1,I2,qah,rfl,qpE qah (r.ext ex) fun H2 M e hv hm=>?_,q,e1.trans ex,v1.write em ⟨ob,ws,rfl,r.ext ex⟩⟩
   have hH:=e.frzs _ _ _ (qah (H:=H1) (a:=a) (o:=.frz ob (.dT ws)));have xw:ExtW H2 (upd H2 a (.dT ws)):=ExtW.thaw hH rfl;refine⟨upd H2 a (.dT ws),.inr ⟨a,ob,_,hH,rfl,n0,rfl⟩,xw,⟨fun b xs z=>?_,fun b o' u' z=>?_⟩,hv.write hm ⟨ws,rfl,RepP.extw xw (r.ext (ex.trans e))⟩⟩
   · have z1:=e.tups _ _ (ex.tups _ _ (e1.tups _ _ z))
     rw[qaa (by rintro rfl;rw[hH]at z1;cases z1)];exact z1
   · have z0:=e1.frzs _ _ _ z
     rw[qaa (by rintro rfl;rw[eh]at z0;cases z0)];exact e.frzs _ _ _ (ex.frzs _ _ _ z0)
 · rename_i kvs em
   obtain⟨ho,eh,ob,ws,rfl,r⟩:=v1 a _ em;exact⟨a,ob,.dK ws,H1,_,_,_,_,r1,I,eh,rfl,qpF eh r (qbX e1),q,e1,v1⟩
 · rename_i kvs em
   obtain⟨ho,eh,ob,ws,rfl,r⟩:=v1 a _ em;exact⟨a,ob,.dT ws,H1,_,_,_,_,r1,I,eh,rfl,qpE eh r (qbX e1),q,e1,v1⟩
 · exact q.elim
theorem qmW{pins:LAO}{σ0:L2.St}{H:Hp}{s:Shared}{a:Addr}{o:Obj}{u:HO}(I:Inv X pins σ0 H s)(h:H a=some (.frz o u))(du:qnD u=true):s.TypeIs (.ref a) "dict"/\∀ b,Value.ref a= .ref b->∃ ob,s.heap.get? b=some ob/\ob.dict=none:=by
 obtain⟨es,ep,hd,rd,_⟩:=qcb I h du;refine⟨rd.ty,fun b e=>?_⟩
 cases e;obtain⟨o1,h1,h2,h3⟩:=rd;exact⟨o1,h1,h2.2.1⟩
theorem qxH{l:Expr}{te:RTE}{ap p:Pos}(hl:RPE X l te)(hbase:attributeBase l "values" X.env (eval l X.env)=eval l X.env)(hline:(ap.endLine==p.line)=true):RPI X tg (.Call (.Attribute l "values" ap) [] [] p) (qAV false te):=by
 intro pins s σ0 H R I h;obtain⟨σ,M,Q,hs,hv,ht,hk⟩:=h;refine wpAny_Call_method (T:="dict") (id:="dict.values") hbase rfl hline F.plainAttrs_dict F.slot_dict_values F.type_dict_values (thn (hl pins s σ0 H (fun x H1=>∃ rv M1,Rep X.K H1 rv x/\qsk false Q rv M1/\Ext H H1/\View X.K H1 M1) I ⟨σ,M,_,hs,hv,ht,fun rv M1 v H1 q e1 v1 r1=>⟨rv,M1,r1,q,e1,v1⟩⟩) fun uv s1 ⟨v,H1,I1,rl,rv,M1,r1,q,e1,v1⟩=>?_)
 obtain⟨a,o,u,H2,xs,ok,un,M2,rfl,I2,hH,du,it,q,e2,v2⟩:=hold I1 e1 v1 r1 q;cases(show uv=Value.ref a from rl)
 obtain⟨es,ep,hd,rd,hS,_⟩:=qcb I2 hH du;obtain⟨t1,t2⟩:=qmW I2 hH du;refine⟨t1,t2,method_meetsIn F.slot_dict_values F.entry_dict_values rfl (PySem.evalArgs_none ⟨rfl,t1,F.args_dict_values_1 _,_,qix hS,⟨es,ep,rd⟩,?_⟩)⟩;have I3:Inv X pins σ0 H2 { s1 with heap:=s1.heap.push { cls:=.type "dict_values",data:=.fields #[.ref a] } }:=I2.kept (t':=s1.toks) fun b o e=>Heap.get?_push_of_some _ e
 have rd3:RawD (s1.heap.push { cls:=.type "dict_values",data:=.fields #[.ref a] }) a es ep:=by obtain⟨o1,h1,h2⟩:=rd;exact⟨o1,Heap.get?_push_of_some _ h1,h2⟩
 refine qkf (s:={ s1 with heap:=s1.heap.push { cls:=.type "dict_values",data:=.fields #[.ref a] } }) ⟨_,Heap.get?_push_size _ rfl,rfl,rfl⟩ rd3 ?_
 refine⟨_,[_],_,_,H2,rfl,I3.kept (t':=s1.toks) fun b o e=>Heap.get?_push_of_some _ e,qk0 hd,⟨_,Heap.get?_push_size _ rfl,rfl,rfl⟩,fun b hb=>?_,hk xs ok un M2 _ H2 q e2 v2 it⟩
 have e:=wam.mp hb;subst e;exact I3.fpOk (wac _) (I3.hok.fresh (wac _))
end
def Itm(o:Obj)(a:Addr):It:=
 ⟨fun i H=>∃ ws:List (Key×V),H a=some (.frz o (.dK ws))/\i<ws.length,fun i H x H'=>∃ (ws:List (Key×V)) (kv:Key×V) (p:Addr),H a=some (.frz o (.dK ws))/\ws[i]? =some kv/\x= .ref p/\H p=none/\H'=upd H p (.tup [kV kv.1,kv.2]),fun i H=>∃ ws:List (Key×V),H a=some (.frz o (.dK ws))/\ws.length<=i⟩
section
variable {X:Cx}
theorem qgi{pins:LAO}{σ:L2.St}{H:Hp}{s:Shared}{a:Addr}{o:Obj}{ws:List (Key×V)}(I:Inv X pins σ H s)(h:H a=some (.frz o (.dK ws))):∃ vs es ep,o.data= .dict es ep/\KV ws vs/\s.heap.DictAt (qap X.prog X.w) a vs ep/\(a==sysModules)=false/\vs.length=es.size:=by
 obtain⟨g,z,y,vs,r,o',es,ep,e,c,dd,ks,ps,nd⟩:=I.hok a _ h;rw[g]at e;cases e;exact⟨vs,es,ep,dd,r,⟨o,es,g,c,dd,ks,ps,nd⟩,y,by have:=ps.length;simp at this;omega⟩
theorem qdY:entryFor table "dict_itemiterator.__iter__" =some Builtin.«dict_keyiterator.__iter__»:=entryFor_alias (id':="dict_keyiterator.__iter__") (by kernel_rfl) rfl (by decide+kernel) (by kernel_rfl)
theorem qjX{P:Program}{w:World}{K:Frg}{o:Obj}{a it:Addr}{es:Array DictEntry}{ep:Nat}{ts:LEx}{tk:Nat}{tp:Pos}(hd:o.data= .dict es ep):Turn P w K (.Tuple ts tk tp) (Itm o a) [it] it (fun i h=>∃ ok ov,IsItemIter h it a i es.size ep ok ov) where
 mem:=by simp
 obj:=fun i h st b hb=>by
  have e:b=it:=by simpa using hb
  subst e;obtain⟨_,_,st⟩:=st;exact⟨_,st,fun v z=>by cases z⟩
 keep:=fun i h h' st k=>by obtain⟨x,y,st⟩:=st;exact⟨x,y,k it (by simp) _ st⟩
 item:=by
  intro X hP hw hK hc i pins s σ H E I hf ⟨x0,y0,st⟩ ⟨ws,hg,hi⟩;subst hP hw hK;obtain⟨vs,es',ep',d',r,da,hS,hl⟩:=qgi I hg;rw[hd]at d';cases d';have hv:i<vs.length:=by have:=Paired.length r;omega
  obtain⟨kv,k1,k2,k3⟩:=qcG (i:=i) r (by simp[hv]:vs[i]? =some vs[i])
  obtain⟨f0,f1,f2,f3,f4,f5⟩:=hf it (by simp)
  refine wpAny_pyNext_items_item (knd:=qap X.prog X.w) (k:=vs[i].1) (v:=vs[i].2) (by rw[hl];exact st) da (by simp[hv]) fun key h' hk st' tp' sz kp=>⟨_,rfl,?_⟩
  refine wpAny_letOwnedTupleGo_items (s:={ s with heap:=h' }) st' fun h2 st2 sb=>?_
  have hfr:=I.hok.fresh (wac s.heap.objs.size);have hpi:s.heap.objs.size≠it:=Nat.ne_of_gt (waj st);have t2:h2.get? s.heap.objs.size=some { cls:=.type "tuple",data:=.seq #[key,vs[i].2] }:=sb.extBut _ _ hpi tp';have rk:Vals [kV kv.1,kv.2] [key,vs[i].2]:=.cons (by rw[k2];exact qhD hk) (.cons k3 .nil)
  have I1:Inv X pins σ (upd H s.heap.objs.size (.tup [kV kv.1,kv.2])) { s with heap:=s.heap.push { cls:=.type "tuple",data:=.seq #[key,vs[i].2] },toks:=s.toks }:=
   I.laid (fun b o e=>Heap.get?_push_of_some _ e) (wac _) ⟨by show 2<=sizeLine;decide,[key,vs[i].2],rk,IsTup.new s.heap _⟩
  have I2:Inv X pins σ (upd H s.heap.objs.size (.tup [kV kv.1,kv.2])) { s with heap:=h2 }:=Inv.turned (s:={ s with heap:=s.heap.push { cls:=.type "tuple",data:=.seq #[key,vs[i].2] },toks:=s.toks }) (h':=h2) (t':=s.toks) (it:=it) I1 (fun b o hb e=>?_) (by rw[qaa hpi.symm];exact f0) f1 f3 f4 f5
  · exact⟨.ref s.heap.objs.size,_,I2,rfl,⟨ws,kv,_,hg,k1,rfl,hfr,rfl⟩,⟨_,_,by rw[<-hl];exact st2⟩,fun b hb=>by
     have e:b=it:=by simpa using hb
     subst e;rw[qaa hpi.symm];exact f0⟩
  · rcases Heap.get?_push_cases e with⟨rfl,rfl⟩|e'
    · exact t2
    · exact sb.extBut b o hb (kp b o hb e')
 done:=by
  intro X hP hw hK hc i pins s σ H E I hf ⟨x0,y0,st⟩ ⟨ws,hg,hi⟩;subst hP hw hK;obtain⟨vs,es',ep',d',r,da,hS,hl⟩:=qgi I hg;rw[hd]at d';cases d';have hv:vs.length<=i:=by have:=Paired.length r;omega
  obtain⟨f0,f1,f2,f3,f4,f5⟩:=hf it (by simp)
  exact wpAny_pyNext_items_end (knd:=qap X.prog X.w) (I.ok.hd hc) (by rw[hl];exact st) da (by simp[hv]) fun h' eb=>⟨rfl,I.turned (t':=s.toks) (fun b o hb e=>eb b o hb e) f0 f1 f3 f4 f5⟩
 self:=fun A i s Q E st h=>by
  obtain⟨x,y,st⟩:=st;have hT:s.TypeIs (.ref it) "dict_itemiterator":=⟨_,st,rfl⟩;refine wpAny_pyIter_slot hT F.slot_dict_itemiterator_iter (wpAny_call_entry F.slot_dict_itemiterator_iter hT qdY ?_ (F.args_dict_itemiterator_iter_1 _));refine(?_:wpAny _ _ (ret (.ref it)) _ _ s);exact wpAny_pure ⟨_,rfl,"dict_itemiterator",_,hT,F.slot_dict_itemiterator_next.lookup,h⟩
def qbU(kvs:LKR):LR:=kvs.map fun kv=>.tup [kR kv.1,kv.2]
theorem qpG{H0 Hs:Hp}{K:Frg}{H1:Hp}{a:Addr}{o:Obj}{kvs:LKR}{ws:List (Key×V)}{un:RM->RM}(h:H1 a=some (.frz o (.dK ws)))(r:RepP K H1 kvs ws)
 (th:∀ H M,Ext H1 H->View K H M->M a=some (.fk kvs)->∃ H',Thaw H0 H H'/\ExtW H H'/\Ext Hs H'/\View K H' (un M)):qkW H0 Hs K (Itm o a) (qbU kvs) (fun M=>M a=some (.fk kvs)) un H1 where
 turn:=fun i H M e hv hm x hx=>by
  have hH:=e.frzs _ _ _ h;have hl:(qbU kvs).length=ws.length:=by rw[<-qa0 r];simp[qbU]
  have hi:i<ws.length:=by rw[<-hl];exact(List.getElem?_eq_some_iff.mp hx).1
  refine⟨⟨_,hH,hi⟩,fun v H' y=>?_⟩
  obtain⟨ws',kv,p,hu,e1,rfl,hn,rfl⟩:=y;rw[hH]at hu;cases hu;obtain⟨q,e2,rq⟩:=qdf r e1;have:x= .tup [kR kv.1,q]:=by simpa[qbU,e2]using hx.symm
  rw[this];exact⟨Ext.new hn,fun _ w=>w.new hn,qcq hn (Reps.cons (qlz _) (Reps.cons (Rep.ext e _ _ rq) Reps.nil))⟩
 stop:=fun i H M e hv hm hi=>by
  have hl:(qbU kvs).length=ws.length:=by rw[<-qa0 r];simp[qbU]
  exact⟨_,e.frzs _ _ _ h,by rw[hl]at hi;exact hi⟩
 thaw:=th
def qsj(Q:LR->(RM->Prop)->(RM->RM)->RM->Prop):RVK:=fun v M1=>match v with
 | .ref a=>match M1 a with
  |some (.dk kvs)=>Q (qbU kvs) (fun M=>M a=some (.fk kvs)) (fun M=>put M a (.dk kvs)) (put M1 a (.fk kvs))
  |some (.fk kvs)=>Q (qbU kvs) (fun M=>M a=some (.fk kvs)) id M1
  |_=>False
 |_=>False
def qAU(te:RTE):RTI:=fun σ M Q=>te σ M (qsj Q)
theorem qxL{pins:LAO}{σ0:L2.St}{H H1:Hp}{s:Shared}{Q:LR->(RM->Prop)->(RM->RM)->RM->Prop}{rv:RV}{v:V}{M1:RM}(I:Inv X pins σ0 H1 s)(e1:Ext H H1)(v1:View X.K H1 M1)(r1:Rep X.K H1 rv v)(q:qsj Q rv M1):
 ∃ a o ws H2 xs ok un M2,v= .ref a/\Inv X pins σ0 H2 s/\H2 a=some (.frz o (.dK ws))/\qkW X.H₀ H X.K (Itm o a) xs ok un H2/\Q xs ok un M2/\Ext H H2/\View X.K H2 M2:=by
 cases rv<;>first|(exact(show False from q).elim)|skip
 rename_i a;simp only[Rep]at r1;unfold qsj at q;simp only at q;split at q
 · rename_i kvs em
   obtain⟨ho,eh,ws,rfl,r⟩:=v1 a _ em;obtain⟨ob,g,I2,n0⟩:=qi9 I eh rfl;have ex:Ext H1 (upd H1 a (.frz ob (.dK ws))):=Ext.write eh rfl;refine⟨a,ob,ws,_,_,_,_,_,r1,I2,qah,qpG qah (r.ext ex) fun H2 M e hv hm=>?_,q,e1.trans ex,v1.write em ⟨ob,ws,rfl,r.ext ex⟩⟩
   have hH:=e.frzs _ _ _ (qah (H:=H1) (a:=a) (o:=.frz ob (.dK ws)));have xw:ExtW H2 (upd H2 a (.dK ws)):=ExtW.thaw hH rfl;refine⟨upd H2 a (.dK ws),.inr ⟨a,ob,_,hH,rfl,n0,rfl⟩,xw,⟨fun b xs z=>?_,fun b o' u' z=>?_⟩,hv.write hm ⟨ws,rfl,RepP.extw xw (r.ext (ex.trans e))⟩⟩
   · have z1:=e.tups _ _ (ex.tups _ _ (e1.tups _ _ z))
     rw[qaa (by rintro rfl;rw[hH]at z1;cases z1)];exact z1
   · have z0:=e1.frzs _ _ _ z
     rw[qaa (by rintro rfl;rw[eh]at z0;cases z0)];exact e.frzs _ _ _ (ex.frzs _ _ _ z0)
 · rename_i kvs em
   obtain⟨ho,eh,ob,ws,rfl,r⟩:=v1 a _ em;exact⟨a,ob,ws,H1,_,_,_,_,r1,I,eh,qpG eh r (qbX e1),q,e1,v1⟩
 · exact q.elim
theorem quB{l:Expr}{te:RTE}{ap p:Pos}{ts:LEx}{tk:Nat}{tp:Pos}(hl:RPE X l te)(hbase:attributeBase l "items" X.env (eval l X.env)=eval l X.env)(hline:(ap.endLine==p.line)=true):RPI X (.Tuple ts tk tp) (.Call (.Attribute l "items" ap) [] [] p) (qAU te):=by
 intro pins s σ0 H R I h;obtain⟨σ,M,Q,hs,hv,ht,hk⟩:=h;refine wpAny_Call_method (T:="dict") (id:="dict.items") hbase rfl hline F.plainAttrs_dict F.slot_dict_items F.type_dict_items (thn (hl pins s σ0 H (fun x H1=>∃ rv M1,Rep X.K H1 rv x/\qsj Q rv M1/\Ext H H1/\View X.K H1 M1) I ⟨σ,M,_,hs,hv,ht,fun rv M1 v H1 q e1 v1 r1=>⟨rv,M1,r1,q,e1,v1⟩⟩) fun uv s1 ⟨v,H1,I1,rl,rv,M1,r1,q,e1,v1⟩=>?_)
 obtain⟨a,o,ws,H2,xs,ok,un,M2,rfl,I2,hH,it,q,e2,v2⟩:=qxL I1 e1 v1 r1 q;cases(show uv=Value.ref a from rl)
 obtain⟨vs,es,ep,hd,r,da,hS,hl⟩:=qgi I2 hH;obtain⟨t1,t2⟩:=qmW I2 hH rfl;refine⟨t1,t2,method_meetsIn F.slot_dict_items F.entry_dict_items rfl (PySem.evalArgs_none ⟨rfl,t1,F.args_dict_items_1 _,_,meets_dict_items (qap X.prog X.w) a hS,⟨vs,da.dictOf⟩,?_⟩)⟩;have I3:Inv X pins σ0 H2 { s1 with heap:=s1.heap.push { cls:=.type "dict_items",data:=.fields #[.ref a] } }:=I2.kept (t':=s1.toks) fun b o e=>Heap.get?_push_of_some _ e
 refine wpAny_pyIter_items (s:={ s1 with heap:=s1.heap.push { cls:=.type "dict_items",data:=.fields #[.ref a] } }) ⟨_,Heap.get?_push_size _ rfl,rfl,rfl⟩ (da.push _) ?_
 have hlt:a<s1.heap.objs.size:=da.lt_size;refine⟨_,[_],_,_,H2,rfl,I3.kept (t':=s1.toks) fun b o e=>Heap.get?_push_of_some _ e,qjX hd,⟨_,_,by rw[<-hl];exact Heap.get?_push_size _ rfl⟩,fun b hb=>?_,hk xs ok un M2 _ H2 q e2 v2 it⟩
 have e:=wam.mp hb;subst e;exact I3.fpOk (wac _) (I3.hok.fresh (wac _))
end
def kin:qbW->qbW->Bool
 |some (.inl _),some (.inl _)=>true
 |some (.inr _),some (.inr _)=>true
 |_,_=>false
def qk3(r:TK):RV:=.tup (r.map oR)
section
variable {X:Cx}
def qAY:LR->RM->RVK->Prop:=fun rs M Q=>∃ bs:List Bool,rs= [.ls (bs.map RV.bl)]/\Q (.bl (bs.any id)) M
theorem range_any(bs:List Bool):(List.range bs.length).any (fun i=>bs.getD i true)=bs.any id:=by
 induction bs with
 |nil=>rfl
 |cons b bs ih=>
  rw[wah,wa1,waL,List.any_map,waL];have:((fun i=>(b::bs).getD i true) ∘ Nat.succ)=fun i=>bs.getD i true:=by funext i;rfl
  rw[this,ih];rfl
theorem qoZ(hc:X.calm=true):qbe X (.builtin "any") (upC X.K qAY):=by
 intro pins s σ H xs us Q0 I rl h;obtain⟨rs,M,Q,rr,hv,⟨bs,rfl,hq⟩,hk⟩:=h;obtain⟨v,rfl,r1⟩:=rr.one;simp only[Rep]at r1;obtain⟨a,vs,rfl,h1,h2⟩:=r1;have:=qiw h2;subst this;obtain⟨u,rfl,ru⟩:=rl.one;cases ru;obtain⟨its,rv,p,hz⟩:=I.list h1.sq;have:=qib rv;subst this;have hlt:a<s.heap.objs.size:=by obtain⟨o,n,e,_⟩:=p;exact waj e
 refine call_any_walk (wpAny_pyIter_list p.isList ?_);have hd:X.A.in1.handled=none:=I.ok.hd hc;refine⟨s.heap.objs.size,_,_,_,_,_,fun i=>bs.getD i true,rfl,Walks.list hd s.heap.objs.size a (wat hlt) (bs.map Value.bool).toArray,⟨⟨_,Heap.get?_push_size _ rfl,rfl,rfl⟩,p.isList.push _⟩,?_,?_⟩
 · intro i v s' Q' E' hP hQ'
   have hP':(bs.map Value.bool)[i]? =some v:=by simpa using hP
   rw[List.getElem?_map]at hP';cases e:bs[i]? with
   |none=>rw[e]at hP';cases hP'
   |some b=>
    rw[e]at hP';have hb:bs.getD i true=b:=by rw[List.getD_eq_getElem?_getD,e];rfl
    cases hP';have hQ2:Q' (bs.getD i true) s':=hQ';rw[hb]at hQ2;exact wpAny_truthy_bool hQ2
 · intro h' tk hk'
   have I1:Inv X pins σ H { s with heap:=s.heap.push { cls:=.type "list_iterator",data:=.fields #[.ref a,.int 0 0] } }:=I.kept (t':=s.toks) fun b o e=>Heap.get?_push_of_some _ e
   obtain⟨f0,f1,f2,f3,f4,f5⟩:=I.fpOk (wac _) (I.hok.fresh (wac _));have I2:Inv X pins σ H { s with heap:=h',toks:=tk }:=by
    have z:=I1.turned (h':=h') (t':=tk) (it:=s.heap.objs.size) (fun b o hb e=>hk' b o (by simpa using hb) e) f0 f1 f3 f4 f5
    exact z
   refine⟨.bl (bs.any id),H,I2,?_,hk _ M _ H hq (.refl H) hv (by simp only[Rep])⟩
   show _=_;rw[<-range_any];simp
theorem qu2:bootBuiltins "any" =some (.builtin "any"):=by decide+kernel
def qwR:LR->RM->RVK->Prop:=fun rs M Q=>match rs with
 | [.bl b]=>Q (.int (if b then 1 else 0)) M
 |_=>False
theorem qDZ:qbe X (.type "int") (upC X.K qwR):=by
 intro pins s σ H xs us Q0 I rl h;obtain⟨rs,M,Q,rr,hv,hq,hk⟩:=h;unfold qwR at hq;split at hq
 · rename_i b
   obtain⟨v,rfl,r1⟩:=rr.one;simp only[Rep]at r1;subst r1;obtain⟨u,rfl,ru⟩:=rl.one;cases ru;exact call_int_bool ⟨.int _,H,I.kept fun b o e=>e,⟨_,rfl⟩,hk _ M _ H hq (.refl H) hv (by simp only[Rep])⟩
 · exact hq.elim
variable {tg:Expr}{pos:Pos}
def qvp(ss:LSt):RTI:=fun _ M Q=>Q (ss.map RV.str) okT id M
theorem qlx{K:Frg}{H:Hp}:∀ {ss:LSt},Reps K H (ss.map RV.str) (ss.map V.str)
 | []=>Reps.nil
 |_::_=>Reps.cons (by simp only[Rep]) qlx
theorem qDL{x:Str}{ss:LSt}(h:qsa X.K X.mg x ss)(hg:Gl X x)(hd:(x==("__debug__":Str))=false):RPI X tg (.Name x pos) (qvp ss):=by
 obtain⟨a,hm,hr⟩:=h;intro pins s σ0 H R I h;obtain⟨σ,M,Q,hs,hv,ht,hk⟩:=h;refine thn (qlT (v:=.ref a) hg hm rfl hd pins s σ0 H (fun x H1=>x= .ref a/\H1=H) I ⟨rfl,rfl⟩) fun u s1 ⟨v,H1,I1,r1,q1⟩=>?_
 obtain⟨rfl,rfl⟩:=q1;cases r1;have h1:SqT X.K H1 a (ss.map V.str):=.inr hr;obtain⟨its,rv,p,hz⟩:=I1.tuple h1;refine wpAny_pyIter_tuple (show s1.heap.IsTuple a its.toArray from p) ?_
 refine⟨s1.heap.objs.size,[s1.heap.objs.size],_,_,H1,rfl,I1.kept (t':=s1.toks) fun b o e=>Heap.get?_push_of_some _ e,qfn a _,⟨_,Heap.get?_push_size _ rfl,rfl,rfl⟩,fun b hb=>?_,hk _ okT id M _ H1 ht (.refl H1) hv (qpC h1 qlx (.refl H1))⟩
 have e:b=s1.heap.objs.size:=by simpa using hb
 subst e;exact I1.fpOk (wac _) (I1.hok.fresh (wac _))
end
section
variable {prog:Program}{w:World}{A:Around}{E:VSP}{s:Shared}
theorem qdH{sl:Addr}{u:Tok}{Q:Int×Int×Nat->Shared->Prop}(hs:s.heap.IsSliceOf sl .none .none (.int (-1) u))
 (h:Q (1,-1,2) s):wpAny (model prog w) A (Builtin.Slice.sliceApplied (.ref sl) (pure ((2:Nat):Int))) Q E s:=by
 obtain⟨os,hos,hcs,hds⟩:=id hs;unfold Builtin.Slice.sliceApplied Builtin.Slice.sliceFields;refine wpAny_bind (wpAny_bind (wpAny_field hos hds (x:=.none) rfl (wpAny_bind (wpAny_field hos hds (x:=.none) rfl (wpAny_bind (wpAny_field hos hds (x:=.int (-1) u) rfl (wpAny_pure ?_)))))));refine wpAny_bind (slicePart_int ?_);show wpAny _ _ (if((-1:Int)==0)=true then _ else _) _ _ s
 rw[if_neg (by decide)]
 exact wpAny_bind (slicePart_none (wpAny_bind (slicePart_none (wpAny_bind (wpAny_pure (wpAny_pure h))))))
theorem qhI{t sl:Addr}{a b:Value}{u:Tok}{Q:VSP}(ht:IsTup s.heap t #[a,b])(hs:s.heap.IsSliceOf sl .none .none (.int (-1) u))
 (h:Q (.ref s.heap.objs.size) { s with heap:=s.heap.push { cls:=.type "tuple",data:=.seq #[b,a] } }):wpAny (model prog w) A (getItem (.ref t) (.ref sl)) Q E s:=by
 have htake:sizeOk (.seq #[b,a]):=by show 2<=sizeLine;decide
 obtain⟨os,hos,hcs,hds⟩:=id hs;have hTs:s.TypeIs (.ref sl) "slice":=⟨os,hos,hcs⟩;unfold getItem
 try with_reducible refine wpAny_holding ?_
 first|refine wpAny_bind (wpAny_pure ?_)|skip
 refine wpAny_bind (wpAny_sequenceKey ht.typeIs (by decide) ?_)
 refine wpAny_bind (wpAny_callSpecial?_slot (name:=Str.ofString "__getitem__") ht.typeIs waA
  (wpAny_call_entry waA ht.typeIs entry_tuple_getitem ?_ (args_tuple_getitem _ _)))
 show wpAny _ _ (Builtin.Tuple.tupleItemsOf (.ref t) >>= _) _ _ s;refine wpAny_bind (tupleItemsOf_ ht ?_);refine wpAny_bind (wpAny_typeOf hTs ?_);rw[if_pos (by decide)]
 refine wpAny_bind (qdH hs ?_);show wpAny _ _ (if((1:Int)==0&&(-1:Int)==1&&(2:Nat)==2)=true then _ else _) _ _ s
 rw[if_neg (by decide)]
 first
  |exact wpAny_bind (m:=Builtin.Tuple.tupleExact _) (wpAny_newObj_type (wpAny_pure ⟨_,rfl,wpAny_pure h⟩) htake)
  |exact wpAny_bind (m:=Builtin.Tuple.tupleExact _) (wpAny_newObj_type (wpAny_bind (wpAny_pure (wpAny_pure ⟨_,rfl,wpAny_pure h⟩))) htake)
end
section
variable {X:Cx}{e:Expr}{te:RTE}{j:Nat}{p1 p2 p3 pos:Pos}
def qvz(Q:RVK):RVK:=fun x M=>match x with
 | .tup [a,b]=>Q (.tup [b,a]) M
 |_=>False
def qAF(te:RTE):RTE:=fun σ M Q=>te σ M (qvz Q)
theorem qDk(he:RPE X e te)(hm:RPE X (.UnaryOp .USub (.Constant (.int 1) j p1) p3) (rUn qs9 (rC (.int 1)))):RPE X (.Subscript e (.Slice none none (some (.UnaryOp .USub (.Constant (.int 1) j p1) p3)) p2) pos) (qAF te):=by
 intro pins s σ0 H Q0 I h;obtain⟨σ,M,Q,hs,hv,ht,hk⟩:=h;refine Subscript_ (thn (he pins s σ0 H (fun v H1=>∃ a b M1,∃ p va vb,v= .ref p/\H1 p=some (.tup [va,vb])/\Rep X.K H1 a va/\Rep X.K H1 b vb/\Q (.tup [b,a]) M1/\Ext H H1/\View X.K H1 M1) I ⟨σ,M,_,hs,hv,ht,fun rv M1 v H1 q e1 v1 r1=>?_⟩) fun v s1 ⟨x,H1,I1,r1,q1⟩=>?_)
 · unfold qvz at q
   split at q
   · rename_i a b
     simp only[Rep,Reps]at r1;obtain⟨p,vs,rfl,hp,va,r,rfl,ra,vb,r2,rfl,rb,rfl⟩:=r1;exact⟨a,b,M1,p,va,vb,rfl,hp,ra,rb,q,e1,v1⟩
   · exact q.elim
 · obtain⟨a,b,M1,p,va,vb,rfl,hp,ra,rb,q,e1,v1⟩:=q1
   cases r1;refine wpAny_Slice ?_;rw[evalPart_none];refine wpAny_pure ?_;refine wpAny_pure ?_;rw[evalPart_some];refine thn (hm pins s1 σ0 H1 (fun v H2=>v= .int (-1)/\Ext H1 H2/\View X.K H2 M1) I1 ⟨σ,M1,fun v M2=>v= .int (-1)/\M2=M1,hs.ext e1,v1,⟨rfl,rfl⟩,fun rv M2 v H2 q e2 v2 r2=>?_⟩) fun v s2 ⟨x,H2,I2,r2,q2⟩=>?_
   · obtain⟨rfl,rfl⟩:=q;simp only[Rep]at r2;exact⟨r2,e2,v2⟩
   · obtain⟨rfl,e2,v2⟩:=q2
     obtain⟨u,rfl⟩:=r2;have I4:Inv X pins σ0 H2 { s2 with heap:=s2.heap.push { cls:=.type "slice",data:=.fields #[.none,.none,.int (-1) u] } }:=I2.kept (t':=s2.toks) fun b ob q=>Heap.get?_push_of_some _ q
     have hp2:SqT X.K H2 p [va,vb]:=SqT.ext e2 (SqT.of hp);obtain⟨its,r,ht,hz⟩:=I4.tuple hp2;obtain⟨x1,_,rfl,y1,r⟩:=Vals.cons_inv r;obtain⟨x2,_,rfl,y2,r⟩:=Vals.cons_inv r;cases r;refine tail_any (ops:=[.ref p,.ref s2.heap.objs.size]) ht.typeIs PyProof.Rows.slot_tuple_getitem.lookup (qhI (u:=u) ht (Heap.IsSliceOf.new ..) ?_) (by with_unfolding_all rfl)
     have hf:=I4.hok.fresh (wac _);refine⟨.ref _,_,I4.laid (t':=s2.toks) (o:=.tup [vb,va]) (fun b ob q=>Heap.get?_push_of_some _ q) (wac _) ?_,rfl,hk _ M1 _ _ q ((e1.trans e2).trans (Ext.new hf)) (v2.new hf) ?_⟩
     · exact⟨(by decide:2<=sizeLine),_,.cons y2 (.cons y1 .nil),IsTup.new _ _⟩
     · exact qcq hf (Reps.cons (Rep.ext e2 _ _ rb) (Reps.cons (Rep.ext e2 _ _ ra) Reps.nil))
end
inductive T where
 |v (i:Nat)|i (n:Int)|s (x:Str)|b (x:Bool)|n
 |g (x:Str)|ty (x:String)
 |op (o:Operator) (a b:T)|cm (o:CmpOp) (a b:T)|ch (o p:CmpOp) (a b c:T)
 |an (a b:T)|or (a b:T)|no (a:T)|ie (t a b:T)
 |tu (a:T)|ll (a:T)|lm (a:T)|e0|ec (a r:T)
 |ix (a b:T)|sl (a l h:T)|p0|p1 (a:T)
 |fl (c:Nat) (f:Str) (a:T)
 |ca (f:Nat) (a:T)|me (f:Nat) (o a:T)|mk (c:Nat) (a:T)
 |bf (f:Str) (a:T)|bt (f:Str) (a:T)
 |ap (o a:T)
 |dg (d k:T)|dn (neg:Bool) (k d:T)|d1 (d k:T)|dk|dt
 |ic (neg:Bool) (a:T) (x:Str)
 |tx (x:Str) (a:T)|tn (x:Str) (a:T)
 |cv (i:Nat) (a:T)
 |cp (md tup:Bool) (nm:LSt) (cap:List (Nat×Str)) (it t e:T)
 |sc (i:Nat) (md tup:Bool) (nm:LSt) (cap:List (Nat×Str)) (it t e:T)
 |lr (a b:T)
 |iv (a:T)|im (a:T)
 |pr (i j:Nat) (a:T)|dd (d k:T)
 |is (a:T)|r1 (a:T)|st (a:T)
 |set (i:Nat) (a:T)|un (is:List Nat) (a:T)|sf (c:Nat) (f:Str) (o a:T)|dp (d k a:T)|sp (l i a:T)
 |re (a:T)|if_ (t a b:T)|fo (tup:Bool) (is:List Nat) (it b:T)|ex (a:T)|ra
 |se (a b:T)|en
 |rv (a:T)|ig (x:Str)|dy (ks:LSt) (a:T)
structure FD where
 kind:Nat
 cls:Nat
 name:Str
 ps:LSt
 N:LSt
 body:T
structure SI where
 gi:List (Str×Int)
 gt:List (Str×LSt)
 tb:LSt
 tt:List (Str×List (TK×Str))
 cl:LSt
 fs:List (Nat×Str)
 bl:LSt
 fd:List FD
structure G where
 S:SI
 tb:Str->LKR
 C:Nat->Addr
 fn:Nat->RSp
 ini:Nat->RSp
 cvs:List (Addr×RSp)
def opR:Operator->RR2
 | .Add=>qA0| .Sub=>qAD| .Mult=>qAN| .Mod=>qAO| .FloorDiv=>qAX| .Pow=>qAH
 |_=>fun _ _ _ _=>False
def cmR:CmpOp->RR2
 | .Lt=>rLt| .LtE=>rLe| .Gt=>rGt| .GtE=>rGe| .Eq=>qAW| .NotEq=>qAM| .Is=>rIs| .IsNot=>qpo| .In=>qvr false| .NotIn=>qvr true
def isT:String->RV->Option Bool:=fun x=>if x= "int" then qpI else if x= "bool" then is_bool else if x= "str" then qpH else if x= "tuple" then qjG else if x= "list" then qmn else fun _=>none
def qwQ:LR->RM->RVK->Prop:=fun rs M Q=>match rs with
 | [.ref a,.ty "list"]=>match M a with|some (.lst _)=>Q (.bl true) M|_=>False
 | [x,.ty t]=>match isT t x with|some c=>Q (.bl c) M|none=>False
 |_=>False
def qlK:LR->RM->RVK->Prop:=fun rs M Q=>match rs with
 | [.ref a]=>match M a with
  |some (.lst xs)=>Q (.int xs.length) M
  |some (.dk kvs)=>Q (.int kvs.length) M
  |_=>False
 |rs=>qvo rs M Q
def bfR(f:Str):LR->RM->RVK->Prop:=
 if f= "len" then qlK else if f= "isinstance" then qwQ else if f= "all" then qAZ else if f= "ord" then qAJ else if f= "any" then qAY else fun _ _ _=>False
def btR(f:Str):LR->RM->RVK->Prop:=
 if f= "tuple" then qlH else if f= "int" then qwR else fun _ _ _=>False
def kFl(C:Addr)(f:Str)(Q:RVK):RVK:=fun x M=>match x with
 | .ref a=>match M a with
  |some (.ins C' fs)=>C'=C/\match fs.lookup f with
   |some v=>Q v M
   |none=>False
  |_=>False
 |_=>False
def uFl(C:Addr)(f:Str)(ta:RTE):RTE:=fun σ M Q=>ta σ M (kFl C f Q)
def kSf(C:Addr)(f:Str)(y:RV)(N:RM->Prop):RVK:=fun x M=>match x with
 | .ref a=>match M a with
  |some (.ins C' fs)=>C'=C/\fs.length<1000/\N (put M a (.ins C (qg3 f y fs)))
  |_=>False
 |_=>False
def uSf(C:Addr)(f:Str)(ta tv:RTE):RTS:=fun D σ M=>tv σ M fun y M1=>ta σ M1 (kSf C f y (D.nx σ))
def kMe(C:Addr)(m:Str)(sp:RSp)(t:RTA)(σ:RSt)(Q:RVK):RVK:=fun x M=>match x with
 | .ref a=>match M a with
  |some (.ins C' fs)=>C'=C/\fs.lookup m=none/\t σ M fun rs M2=>sp (.ref a::rs) M2 Q
  |_=>False
 |_=>False
def uMe(C:Addr)(m:Str)(sp:RSp)(ta:RTE)(t:RTA):RTE:=fun σ M Q=>ta σ M (kMe C m sp t σ Q)
def qbT:RTE:=fun _ _ _=>False
structure Sm where
 E:RTE:=fun _ _ _=>False
 T:RTT:=fun _ _ _=>False
 A:RTA:=fun _ _ _=>False
 I:RTI:=fun _ _ _=>False
 P:RTO:=fun _ _ _=>False
 S:RTS:=fun _ _ _=>False
 L:List RTE:=[]
def ex(e:RTE):Sm:={ E:=e,T:=qfZ e }
noncomputable def tr (Γ:G):T->Sm
 | .v i=>ex (qqH i)
 | .i n=>ex (rC (.int n))
 | .s x=>ex (rC (.str x))
 | .b x=>ex (rC (.bl x))
 | .n=>ex (rC .non)
 | .g x=>ex (match Γ.S.gi.lookup x with|some i=>rC (.int i)|none=>qbT)
 | .ty x=>ex (rC (.ty x))
 | .op o a b=>ex (rOp (opR o) (tr Γ a).E (tr Γ b).E)
 | .cm o a b=>ex (rOp (cmR o) (tr Γ a).E (tr Γ b).E)
 | .ch o p a b c=>ex (qfu (cmR o) (cmR p) (tr Γ a).E (tr Γ b).E (tr Γ c).E)
 | .an a b=>{ E:=qn4 (tr Γ a).E (tr Γ b).E,T:=qvu (tr Γ a).T (tr Γ b).T }
 | .or a b=>{ E:=qvn (tr Γ a).E (tr Γ b).E,T:=rOr (tr Γ a).T (tr Γ b).T }
 | .no a=>{ E:=qto (tr Γ a).E,T:=qAK (tr Γ a).T }
 | .ie t a b=>ex (rIf (tr Γ t).T (tr Γ a).E (tr Γ b).E)
 | .tu a=>ex (qAC (tr Γ a).A)
 | .ll a=>ex (qAQ (tr Γ a).A)
 | .lm a=>ex (qAP (tr Γ a).A)
 | .e0=>{ A:=qn3 }
 | .ec a r=>{ A:=qkl (tr Γ a).E (tr Γ r).A,L:=(tr Γ a).E::(tr Γ r).L }
 | .ix a b=>ex (rOp rIx (tr Γ a).E (tr Γ b).E)
 | .sl a l h=>ex (rSl (tr Γ a).E (tr Γ l).P (tr Γ h).P)
 | .p0=>{ P:=qAL }
 | .p1 a=>{ P:=qtn (tr Γ a).E }
 | .fl c f a=>ex (uFl (Γ.C c) f (tr Γ a).E)
 | .ca f a=>ex (qfa (Γ.fn f) (tr Γ a).A)
 | .me f o a=>ex (match Γ.S.fd[f]? with|some d=>uMe (Γ.C d.cls) d.name (Γ.fn f) (tr Γ o).E (tr Γ a).A|none=>qbT)
 | .mk f a=>ex (match Γ.S.fd[f]? with|some d=>qkk (Γ.C d.cls) (Γ.ini f) (tr Γ a).A|none=>qbT)
 | .bf f a=>ex (qfa (bfR f) (tr Γ a).A)
 | .bt f a=>ex (qfa (btR f) (tr Γ a).A)
 | .ap o a=>ex (qvt (tr Γ o).E (tr Γ a).A)
 | .dg d k=>ex (qsF (tr Γ d).E (tr Γ k).E)
 | .dn neg k d=>ex (qsd neg (tr Γ k).E (tr Γ d).E)
 | .d1 d k=>ex (qpc (tr Γ d).E (tr Γ k).E)
 | .dk=>ex qtu
 | .dt=>ex qpp
 | .ic neg a x=>ex (match Γ.S.gt.lookup x with|some ss=>qsh neg ss (tr Γ a).E|none=>qbT)
 | .tx x a=>ex (qvm (Γ.tb x) (tr Γ a).E)
 | .tn x a=>ex (qf0 (Γ.tb x) (tr Γ a).E)
 | .cv i a=>ex (qpq Γ.cvs (qqH i) (tr Γ a).A)
 | .cp md tup nm cap it t e=>ex (qft (qjP tup nm.length) md (tr Γ it).I (cap.map Prod.fst) (tr Γ t).T (tr Γ e).E)
 | .sc i md tup nm cap it t e=>{ S:=qtm i (qft (qjP tup nm.length) md (tr Γ it).I (cap.map Prod.fst) (tr Γ t).T (tr Γ e).E) }
 | .lr a b=>ex (qpn (tr Γ a).E (tr Γ b).E)
 | .iv a=>{ I:=qAV false (tr Γ a).E }
 | .im a=>{ I:=qAU (tr Γ a).E }
 | .pr i j a=>{ S:=qAI i j (tr Γ a).A }
 | .dd d k=>{ S:=qpm (tr Γ d).E (tr Γ k).E }
 | .is a=>{ I:=qAS (tr Γ a).E }
 | .r1 a=>{ I:=qAT (tr Γ a).E }
 | .st a=>{ I:=qAR (tr Γ a).E }
 | .set i a=>{ S:=qtm i (tr Γ a).E }
 | .un is a=>{ S:=qwT (tr Γ a).E (rgU is) }
 | .sf c f o a=>{ S:=uSf (Γ.C c) f (tr Γ o).E (tr Γ a).E }
 | .dp d k a=>{ S:=qpb (tr Γ d).E (tr Γ k).E (tr Γ a).E }
 | .sp l i a=>{ S:=qwT (tr Γ a).E (qs8 (tr Γ l).E (tr Γ i).E qiE) }
 | .re a=>{ S:=qAG (tr Γ a).E }
 | .if_ t a b=>{ S:=qvs (tr Γ t).T (tr Γ a).S (tr Γ b).S }
 | .fo tup is it b=>{ S:=qtr (tr Γ it).I (match tup,is with|true,is=>rgU is|false,[i]=>rgN i|_,_=>fun _ _ _ _=>False) (tr Γ b).S }
 | .ex a=>{ S:=qts (tr Γ a).E }
 | .ra=>{ S:=fun _ _ _=>False }
 | .se a b=>{ S:=qAE (tr Γ a).S (tr Γ b).S }
 | .en=>{ S:=qtp }
 | .rv a=>ex (qAF (tr Γ a).E)
 | .ig x=>{ I:=match Γ.S.gt.lookup x with|some ss=>qvp ss|none=>fun _ _ _=>False }
 | .dy ks a=>ex (qtt (ks.zip (tr Γ a).L))
inductive Nd where
 |e (x:Expr)|t (x:Expr)|a (xs:LEx)|i (tg x:Expr)|p (x:Option Expr)|s (x:Stmt)|b (xs:List Stmt)|l (xs:LEx)
def glb(sc:Scope)(x:Str):Bool:=sc.names.lookup x==some .globalImplicit&& !(x==("__debug__":Str))
def qnL(tup:Bool)(tg:Expr)(nm:LSt):Bool:=match tup,tg with
 |false,.Name x _=>nm==[x]
 |true,.Tuple es _ _=>qgz es==some nm
 |_,_=>false
def qcJ(N:LSt):List Nat->LEx->Bool
 | [],[]=>true
 |i::is,.Name x _::es=>(N[i]? ==some x)&&qcJ N is es
 |_,_=>false
def loc(sc:Scope)(x:Str):Bool:=sc.names.lookup x==some .local||sc.names.lookup x==some .cell
def cf(sc:Scope)(x:Str):Bool:=sc.names.lookup x==some .cell||sc.names.lookup x==some .free
def dbg(x:Str):Bool:=!(x==("__debug__":Str))&& !(x==("__classdict__":Str))
noncomputable def qsg (N:LSt)(sc scope:Scope)(nm:LSt)(cap:List (Nat×Str)):Bool:=
 cap.all (fun p=>(N[p.1]? ==some p.2)&&(scope.names.lookup p.2==some .free)&&cf sc p.2)&&scope.names.all (fun y=>y.2 != .free||cf sc y.1)&&scope.names.all (fun y=>y.2 != .cell)&&scope.kind== .function&&
 scope.names.all (fun y=>y.2 != .local||scope.names.lookup y.1==some .local)&&nm.all (fun x=>scope.names.lookup x==some .local)&&decide (nm++cap.map Prod.snd).Nodup&&(nm++cap.map Prod.snd).all dbg
def bfN:LSt:=["len","isinstance","all","ord","any"]
def btN:LSt:=["tuple","int"]
def nLn(ap p:Pos):Bool:=ap.endLine==p.line
def qrq(t:T):Bool:=if h:t.ctorIdx=3 then T.b.elim t h id else false
@[elab_as_elim] theorem qhM {α:Type} [BEq α] [LawfulBEq α] {z c:α} {b:Bool} {C:α->Prop} (h:((z==c)&&b)=true) (k:b=true->C c):C z:=by
 rw[waa,beq_iff_eq]at h;rw[h.1];exact k h.2
theorem qdB{a b:Bool}(h:(a&&b)=true):a=true/\b=true:=by rwa [waa]at h
theorem di{c:Prop}[Decidable c]{t:c->Bool}{C:Prop}(h:(if h:c then t h else false)=true)(k:c->(if h:c then t h else false)=true->C):C:=
 if i:c then k i h else by rw[dif_neg i]at h;cases h
def dN(e:Expr)(f:Str->Pos->Bool):Bool:=if h:e.ctorIdx=23 then Expr.Name.elim e h f else false
@[elab_as_elim] theorem qc4 {e f} {C:Expr->Prop} (h:dN e f=true) (k:∀ a b,f a b=true->C (.Name a b)):C e:=di h fun i=>Expr.Name.elim e i k
def dK(e:Expr)(f:Const->Nat->Pos->Bool):Bool:=if h:e.ctorIdx=19 then Expr.Constant.elim e h f else false
@[elab_as_elim] theorem qkQ {e f} {C:Expr->Prop} (h:dK e f=true) (k:∀ a b c,f a b c=true->C (.Constant a b c)):C e:=di h fun i=>Expr.Constant.elim e i k
def dB(e:Expr)(f:Expr->Operator->Expr->Pos->Bool):Bool:=if h:e.ctorIdx=2 then Expr.BinOp.elim e h f else false
@[elab_as_elim] theorem qx3 {e f} {C:Expr->Prop} (h:dB e f=true) (k:∀ a b c d,f a b c d=true->C (.BinOp a b c d)):C e:=di h fun i=>Expr.BinOp.elim e i k
def dC(e:Expr)(f:Expr->List CmpOp->LEx->Pos->Bool):Bool:=if h:e.ctorIdx=15 then Expr.Compare.elim e h f else false
@[elab_as_elim] theorem quS {e f} {C:Expr->Prop} (h:dC e f=true) (k:∀ a b c d,f a b c d=true->C (.Compare a b c d)):C e:=di h fun i=>Expr.Compare.elim e i k
def dQ(e:Expr)(f:BoolOp->LEx->Pos->Bool):Bool:=if h:e.ctorIdx=0 then Expr.BoolOp.elim e h f else false
@[elab_as_elim] theorem qoU {e f} {C:Expr->Prop} (h:dQ e f=true) (k:∀ a b c,f a b c=true->C (.BoolOp a b c)):C e:=di h fun i=>Expr.BoolOp.elim e i k
def dU(e:Expr)(f:UnaryOp->Expr->Pos->Bool):Bool:=if h:e.ctorIdx=3 then Expr.UnaryOp.elim e h f else false
@[elab_as_elim] theorem qrM {e f} {C:Expr->Prop} (h:dU e f=true) (k:∀ a b c,f a b c=true->C (.UnaryOp a b c)):C e:=di h fun i=>Expr.UnaryOp.elim e i k
def dI(e:Expr)(f:Expr->Expr->Expr->Pos->Bool):Bool:=if h:e.ctorIdx=5 then Expr.IfExp.elim e h f else false
@[elab_as_elim] theorem qx2 {e f} {C:Expr->Prop} (h:dI e f=true) (k:∀ a b c d,f a b c d=true->C (.IfExp a b c d)):C e:=di h fun i=>Expr.IfExp.elim e i k
def dT(e:Expr)(f:LEx->Nat->Pos->Bool):Bool:=if h:e.ctorIdx=25 then Expr.Tuple.elim e h f else false
@[elab_as_elim] theorem qm2 {e f} {C:Expr->Prop} (h:dT e f=true) (k:∀ a b c,f a b c=true->C (.Tuple a b c)):C e:=di h fun i=>Expr.Tuple.elim e i k
def dL(e:Expr)(f:LEx->Pos->Bool):Bool:=if h:e.ctorIdx=24 then Expr.List.elim e h f else false
@[elab_as_elim] theorem quP {e f} {C:Expr->Prop} (h:dL e f=true) (k:∀ a b,f a b=true->C (.List a b)):C e:=di h fun i=>Expr.List.elim e i k
def dS(e:Expr)(f:Expr->Expr->Pos->Bool):Bool:=if h:e.ctorIdx=21 then Expr.Subscript.elim e h f else false
@[elab_as_elim] theorem qhT {e f} {C:Expr->Prop} (h:dS e f=true) (k:∀ a b c,f a b c=true->C (.Subscript a b c)):C e:=di h fun i=>Expr.Subscript.elim e i k
def dX(e:Expr)(f:Option Expr->Option Expr->Option Expr->Pos->Bool):Bool:=if h:e.ctorIdx=26 then Expr.Slice.elim e h f else false
@[elab_as_elim] theorem quO {e f} {C:Expr->Prop} (h:dX e f=true) (k:∀ a b c d,f a b c d=true->C (.Slice a b c d)):C e:=di h fun i=>Expr.Slice.elim e i k
def dA(e:Expr)(f:Expr->Str->Pos->Bool):Bool:=if h:e.ctorIdx=20 then Expr.Attribute.elim e h f else false
@[elab_as_elim] theorem qrR {e f} {C:Expr->Prop} (h:dA e f=true) (k:∀ a b c,f a b c=true->C (.Attribute a b c)):C e:=di h fun i=>Expr.Attribute.elim e i k
def dF(e:Expr)(f:Expr->LEx->List Keyword->Pos->Bool):Bool:=if h:e.ctorIdx=16 then Expr.Call.elim e h f else false
@[elab_as_elim] theorem quR {e f} {C:Expr->Prop} (h:dF e f=true) (k:∀ a b c d,f a b c d=true->C (.Call a b c d)):C e:=di h fun i=>Expr.Call.elim e i k
def dD(e:Expr)(f:List (Option Expr)->LEx->Pos->Bool):Bool:=if h:e.ctorIdx=6 then Expr.Dict.elim e h f else false
@[elab_as_elim] theorem qrQ {e f} {C:Expr->Prop} (h:dD e f=true) (k:∀ a b c,f a b c=true->C (.Dict a b c)):C e:=di h fun i=>Expr.Dict.elim e i k
def dG(e:Expr)(f:Expr->List Comprehension->Scope->Pos->Bool):Bool:=if h:e.ctorIdx=8 then Expr.ListComp.elim e h f else false
@[elab_as_elim] theorem quQ {e f} {C:Expr->Prop} (h:dG e f=true) (k:∀ a b c d,f a b c d=true->C (.ListComp a b c d)):C e:=di h fun i=>Expr.ListComp.elim e i k
def tA(e:Stmt)(f:LEx->Expr->Pos->Bool):Bool:=if h:e.ctorIdx=5 then Stmt.Assign.elim e h f else false
@[elab_as_elim] theorem qv5 {e f} {C:Stmt->Prop} (h:tA e f=true) (k:∀ a b c,f a b c=true->C (.Assign a b c)):C e:=di h fun i=>Stmt.Assign.elim e i k
def tD(e:Stmt)(f:LEx->Pos->Bool):Bool:=if h:e.ctorIdx=4 then Stmt.Delete.elim e h f else false
@[elab_as_elim] theorem qv1 {e f} {C:Stmt->Prop} (h:tD e f=true) (k:∀ a b,f a b=true->C (.Delete a b)):C e:=di h fun i=>Stmt.Delete.elim e i k
def tR(e:Stmt)(f:Option Expr->Pos->Bool):Bool:=if h:e.ctorIdx=3 then Stmt.Return.elim e h f else false
@[elab_as_elim] theorem qvS {e f} {C:Stmt->Prop} (h:tR e f=true) (k:∀ a b,f a b=true->C (.Return a b)):C e:=di h fun i=>Stmt.Return.elim e i k
def tI(e:Stmt)(f:Expr->List Stmt->List Stmt->Pos->Bool):Bool:=if h:e.ctorIdx=12 then Stmt.If.elim e h f else false
@[elab_as_elim] theorem qvW {e f} {C:Stmt->Prop} (h:tI e f=true) (k:∀ a b c d,f a b c d=true->C (.If a b c d)):C e:=di h fun i=>Stmt.If.elim e i k
def tF(e:Stmt)(f:Expr->Expr->List Stmt->List Stmt->Pos->Bool):Bool:=if h:e.ctorIdx=9 then Stmt.For.elim e h f else false
@[elab_as_elim] theorem qvX {e f} {C:Stmt->Prop} (h:tF e f=true) (k:∀ a b c d g,f a b c d g=true->C (.For a b c d g)):C e:=di h fun i=>Stmt.For.elim e i k
def tE(e:Stmt)(f:Expr->Pos->Bool):Bool:=if h:e.ctorIdx=24 then Stmt.Expr.elim e h f else false
@[elab_as_elim] theorem qvY {e f} {C:Stmt->Prop} (h:tE e f=true) (k:∀ a b,f a b=true->C (.Expr a b)):C e:=di h fun i=>Stmt.Expr.elim e i k
section
variable {α:Type}{xs:List α}{b:Bool}{x:Option α}{e:Expr}{s:Stmt}
def l0(xs:List α)(b:Bool):Bool:=match xs with| []=>b|_=>false
def lc(xs:List α)(f:α->List α->Bool):Bool:=match xs with|x::r=>f x r|_=>false
def l1(xs:List α)(f:α->Bool):Bool:=lc xs fun x r=>l0 r (f x)
def l2(xs:List α)(f:α->α->Bool):Bool:=lc xs fun x r=>l1 r (f x)
def o0(x:Option α)(b:Bool):Bool:=match x with|none=>b|_=>false
def o1(x:Option α)(f:α->Bool):Bool:=match x with|some y=>f y|_=>false
variable {C:List α->Prop}{D:Option α->Prop}{E:Expr->Prop}{F:Stmt->Prop}
@[elab_as_elim] theorem qdn (h:l0 xs b=true) (k:b=true->C []):C xs:=by cases xs<;>first|exact k h|cases h
@[elab_as_elim] theorem qcR {f} (h:lc xs f=true) (k:∀ x r,f x r=true->C (x::r)):C xs:=by cases xs<;>first|exact k _ _ h|cases h
@[elab_as_elim] theorem qdU {f} (h:l1 xs f=true) (k:∀ y,f y=true->C [y]):C xs:=qcR h fun y _ h=>qdn h (k y)
@[elab_as_elim] theorem qmf {f} (h:l2 xs f=true) (k:∀ y z,f y z=true->C [y,z]):C xs:=qcR h fun y _ h=>qdU h (k y)
@[elab_as_elim] theorem qoq (h:o0 x b=true) (k:b=true->D none):D x:=by cases x<;>first|exact k h|cases h
@[elab_as_elim] theorem qop {f} (h:o1 x f=true) (k:∀ y,f y=true->D (some y)):D x:=by cases x<;>first|exact k _ h|cases h
def dFN(e:Expr)(f:Str->Pos->LEx->Pos->Bool):Bool:=dF e fun g es ks p=>dN g fun x q=>l0 ks (f x q es p)
@[elab_as_elim] theorem qdA {f} (h:dFN e f=true) (k:∀ x q es p,f x q es p=true->E (.Call (.Name x q) es [] p)):E e:=quR h fun _ es _ p h=>qc4 h fun x q h=>qdn h (k x q es p)
def dFA(e:Expr)(f:Expr->Str->Pos->LEx->Pos->Bool):Bool:=dF e fun g es ks p=>dA g fun x m q=>l0 ks (f x m q es p)
@[elab_as_elim] theorem qhU {f} (h:dFA e f=true) (k:∀ x m q es p,f x m q es p=true->E (.Call (.Attribute x m q) es [] p)):E e:=quR h fun _ es _ p h=>qrR h fun x m q h=>qdn h (k x m q es p)
def dC1(e:Expr)(f:Expr->CmpOp->Expr->Pos->Bool):Bool:=dC e fun x os ys p=>l1 os fun o=>l1 ys fun y=>f x o y p
@[elab_as_elim] theorem qhV {f} (h:dC1 e f=true) (k:∀ x o y p,f x o y p=true->E (.Compare x [o] [y] p)):E e:=quS h fun x _ _ p h=>qdU h fun o h=>qdU h fun y=>k x o y p
def tA1(s:Stmt)(f:Expr->Expr->Pos->Bool):Bool:=tA s fun z v p=>l1 z fun t=>f t v p
@[elab_as_elim] theorem qef {f} (h:tA1 s f=true) (k:∀ t v p,f t v p=true->F (.Assign [t] v p)):F s:=qv5 h fun _ v p h=>qdU h fun t=>k t v p
end
def okE(e:Expr):Bool:=!([22,7,26,9,10].contains e.ctorIdx)
def isC(e:Expr):Bool:=e.ctorIdx==8
def qrr(e:Expr):Bool:=[0,5,15].contains e.ctorIdx||dU e fun o _ _=>o== .Not
def qdZ(e:Expr):Bool:=dFN e fun _ _ es _=>es.isEmpty
def onE(nd:Nd)(f:Expr->Bool):Bool:=match nd with
 | .e x=>okE x&&f x
 | .t x=>!qrr x&&f x
 |_=>false
def onC(nd:Nd)(f:Expr->Bool):Bool:=match nd with
 | .e x=>okE x&&f x
 | .t x=>f x
 |_=>false
def onS(nd:Nd)(f:Stmt->Bool):Bool:=match nd with
 | .s x=>f x
 |_=>false
def onA(nd:Nd)(f:(LEx->Nd)->LEx->Bool):Bool:=match nd with
 | .a x=>f .a x
 | .l x=>f .l x
 |_=>false
def onI(nd:Nd)(f:Expr->Expr->Bool):Bool:=match nd with
 | .i tg x=>f tg x
 |_=>false
def onP(nd:Nd)(f:Option Expr->Bool):Bool:=match nd with
 | .p x=>f x
 |_=>false
def onL(nd:Nd)(f:List Stmt->Bool):Bool:=match nd with
 | .b x=>f x
 |_=>false
def onT(nd:Nd)(f g:Expr->Bool):Bool:=match nd with
 | .e x=>okE x&&f x
 | .t x=>g x
 |_=>false
def qvy:LSt->List (Option Expr)->Bool
 | [],z=>z.isEmpty
 |k::ks,z=>lc z fun x zs=>o1 x (fun e=>dK e fun c _ _=>c== .str k)&&qvy ks zs
noncomputable def mt (S:SI)(fc:Bool)(N:LSt)(sc:Scope):T->Nd->Bool
 | .v i,nd=>onE nd fun y0=>dN y0 fun x _=>N[i]? ==some x
 | .i n,nd=>onE nd fun y0=>dK y0 fun z _ _=>z== .int n
 | .s x,nd=>onE nd fun y0=>dK y0 fun z _ _=>z== .str x
 | .b x,nd=>onE nd fun y0=>dK y0 fun z _ _=>z== .bool x
 | .n,nd=>onE nd fun y0=>dK y0 fun z _ _=>z== .none
 | .g x,nd=>onE nd fun y0=>dN y0 fun y _=>(x==y)&&(S.gi.lookup x).isSome&&glb sc x
 | .ty x,nd=>onE nd fun y0=>dN y0 fun y _=>(Str.ofString x==y)&&["int","bool","str","tuple","list"].contains x&&S.bl.contains y&&glb sc y
 | .op o a b,nd=>onE nd fun y0=>dB y0 fun x o' y _=>(o==o')&&mt S fc N sc a (.e x)&&mt S fc N sc b (.e y)
 | .cm o a b,nd=>onC nd fun y0=>dC1 y0 fun x o' y _=>(o==o')&&mt S fc N sc a (.e x)&&mt S fc N sc b (.e y)
 | .ch o p a b c,nd=>onC nd fun y0=>dC y0 fun x z1 z2 _=>l2 z1 fun o' p'=>l2 z2 fun y z=>(o==o')&&(p==p')&&mt S fc N sc a (.e x)&&mt S fc N sc b (.e y)&&mt S fc N sc c (.e z)
 | .dn neg k d,nd=>onC nd fun y0=>dC1 y0 fun x o' y _=>(o'==if neg then .NotIn else .In)&&mt S fc N sc k (.e x)&&mt S fc N sc d (.e y)
 | .an a b,nd=>onT nd (fun y0=>dQ y0 fun z1 z2 p=>(z1== .And)&&(lc z2 fun x z3=>lc z3 fun y r=>mt S fc N sc a (.e x)&&mt S fc N sc b (.e (if r.isEmpty then y else .BoolOp .And (y::r) p)))) (fun y0=>dQ y0 fun z1 z2 p=>(z1== .And)&&(lc z2 fun x z3=>lc z3 fun y r=>mt S fc N sc a (.t x)&&mt S fc N sc b (.t (if r.isEmpty then y else .BoolOp .And (y::r) p))))
 | .or a b,nd=>onT nd (fun y0=>dQ y0 fun z1 z2 p=>(z1== .Or)&&(lc z2 fun x z3=>lc z3 fun y r=>mt S fc N sc a (.e x)&&mt S fc N sc b (.e (if r.isEmpty then y else .BoolOp .Or (y::r) p)))) (fun y0=>dQ y0 fun z1 z2 p=>(z1== .Or)&&(lc z2 fun x z3=>lc z3 fun y r=>mt S fc N sc a (.t x)&&mt S fc N sc b (.t (if r.isEmpty then y else .BoolOp .Or (y::r) p))))
 | .no a,nd=>onT nd (fun y0=>dU y0 fun z1 x _=>(z1== .Not)&&(mt S fc N sc a (.e x))) (fun y0=>dU y0 fun z1 x _=>(z1== .Not)&&(mt S fc N sc a (.t x)))
 | .ie t a b,nd=>onE nd fun y0=>dI y0 fun x y z _=>mt S fc N sc t (.t x)&&mt S fc N sc a (.e y)&&mt S fc N sc b (.e z)
 | .tu a,nd=>onE nd fun y0=>dT y0 fun es _ _=>mt S fc N sc a (.a es)
 | .ll a,nd=>onE nd fun y0=>dL y0 fun es _=>mt S fc N sc a (.a es)
 | .lm a,nd=>onE nd fun y0=>dL y0 fun es _=>mt S fc N sc a (.a es)
 | .e0,nd=>onA nd fun _ y0=>l0 y0 <|true
 | .ec a r,nd=>onA nd fun mk y0=>lc y0 fun x xs=>mt S fc N sc a (.e x)&&mt S fc N sc r (mk xs)
 | .ix a b,nd=>onE nd fun y0=>dS y0 fun x y _=>mt S fc N sc a (.e x)&&mt S fc N sc b (.e y)
 | .sl a l h,nd=>onE nd fun y0=>dS y0 fun x z1 _=>dX z1 fun lo hi z2 _=>o0 z2 <|mt S fc N sc a (.e x)&&mt S fc N sc l (.p lo)&&mt S fc N sc h (.p hi)
 | .p0,nd=>onP nd fun y0=>o0 y0 <|true
 | .p1 a,nd=>onP nd fun y0=>o1 y0 fun x=>mt S fc N sc a (.e x)
 | .fl c f a,nd=>onE nd fun y0=>dA y0 fun x f' _=>(f==f')&&S.fs.contains (c,f)&& !qdZ x&&mt S fc N sc a (.e x)
 | .ca f a,nd=>onE nd fun y0=>dFN y0 fun x _ es _=>(match S.fd[f]? with|some d=>d.kind==0&&d.name==x|none=>false)&&glb sc x&&mt S fc N sc a (.a es)
 | .me f o a,nd=>onE nd fun y0=>dFA y0 fun x m ap es p=>(match S.fd[f]? with|some d=>d.kind==1&&d.name==m|none=>false)&& !qdZ x&&nLn ap p&&decide (es.length<29)&&mt S fc N sc o (.e x)&&mt S fc N sc a (.a es)
 | .mk f a,nd=>onE nd fun y0=>dFN y0 fun x _ es _=>(match S.fd[f]? with|some d=>d.kind==2&&S.cl[d.cls]? ==some x|none=>false)&&glb sc x&&mt S fc N sc a (.a es)
 | .bf f a,nd=>onE nd fun y0=>dFN y0 fun x _ es _=>(f==x)&&bfN.contains x&&S.bl.contains x&&glb sc x&& !es.isEmpty&&mt S fc N sc a (.a es)
 | .bt f a,nd=>onE nd fun y0=>dFN y0 fun x _ es _=>(f==x)&&btN.contains x&&S.bl.contains x&&glb sc x&& !es.isEmpty&&mt S fc N sc a (.a es)
 | .ap o a,nd=>onE nd fun y0=>dFA y0 fun x m ap z1 p=>l1 z1 fun y=>(m==("append":Str))&& !qdZ x&&nLn ap p&&mt S fc N sc o (.e x)&&mt S fc N sc a (.a [y])
 | .dg d k,nd=>onE nd fun y0=>dS y0 fun x y _=>mt S fc N sc d (.e x)&&mt S fc N sc k (.e y)
 | .d1 d k,nd=>onE nd fun y0=>dFA y0 fun x m ap z1 p=>l1 z1 fun y=>(m==("get":Str))&& !qdZ x&&nLn ap p&&mt S fc N sc d (.e x)&&mt S fc N sc k (.e y)
 | .dk,nd=>onE nd fun y0=>dD y0 fun z1 z2 _=>l0 z1 <|l0 z2 <|true
 | .dt,nd=>onE nd fun y0=>dD y0 fun z1 z2 _=>l0 z1 <|l0 z2 <|true
 | .ic neg a x,nd=>onC nd fun y0=>dC1 y0 fun y o z1 _=>dN z1 fun x' _=>(o==if neg then .NotIn else .In)&&(x==x')&&(S.gt.lookup x).isSome&&glb sc x&&mt S fc N sc a (.e y)
 | .tx x a,nd=>onE nd fun y0=>dS y0 fun z1 y _=>dN z1 fun x' _=>(x==x')&&S.tb.contains x&&glb sc x&&mt S fc N sc a (.e y)
 | .tn x a,nd=>onT nd (fun _=>false) fun y0=>dC1 y0 fun y o z1 _=>dN z1 fun x' _=>(o== .NotIn)&&(x==x')&&S.tb.contains x&&glb sc x&&mt S fc N sc a (.e y)
 | .cv i a,nd=>onE nd fun y0=>dFN y0 fun x _ es _=>(N[i]? ==some x)&& !es.isEmpty&&mt S fc N sc a (.a es)
 | .lr a b,nd=>onE nd fun y0=>dFN y0 fun x _ z1 _=>l1 z1 fun z2=>dFN z2 fun y _ z3 _=>l2 z3 fun z w=>(x==("list":Str))&&(y==("range":Str))&&S.bl.contains x&&S.bl.contains y&&glb sc x&&glb sc y&&mt S fc N sc a (.e z)&&mt S fc N sc b (.e w)
 | .cp _ tup nm cap it t e,nd=>onE nd fun y0=>dG y0 fun el z1 scope _=>l1 z1 fun z2=>match z2 with|⟨tg,ite,ifs,as⟩=>fc&&(as==0)&&qnL tup tg nm&&qsg N sc scope nm cap&&okE ite&&mt S fc N sc it (.i tg ite)&&mt S false (nm++cap.map Prod.snd) scope e (.e el)&&(match ifs with| []=>qrq t| [c]=>mt S false (nm++cap.map Prod.snd) scope t (.t c)|_=>false)
 | .iv a,nd=>onI nd fun _=>fun y0=>dFA y0 fun x m ap z1 p=>l0 z1 <|(m==("values":Str))&& !qdZ x&&nLn ap p&&mt S fc N sc a (.e x)
 | .im a,nd=>onI nd fun tg=>fun y0=>dFA y0 fun x m ap z1 p=>l0 z1 <|(tg.ctorIdx==25)&&(m==("items":Str))&& !qdZ x&&nLn ap p&&mt S fc N sc a (.e x)
 | .pr i j a,nd=>onS nd fun y0=>tA1 y0 fun z1 z2 _=>dT z1 fun z3 _ _=>l2 z3 fun z4 z5=>dN z4 fun x px=>dN z5 fun y py=>dT z2 fun z6 _ _=>l2 z6 fun u v=>fc&&(N[i]? ==some x)&&(N[j]? ==some y)&&(i != j)&&(sc.names.lookup x==some .local)&&(sc.names.lookup y==some .local)&&(py.line==px.line)&& !(y==x)&& !([u,v].all (foldedForSure 8))&& !([u,v].all (constantsAlone 8))&&mt S fc N sc a (.a [u,v])
 | .dd d k,nd=>onS nd fun y0=>tD y0 fun z1 _=>l1 z1 fun z2=>dS z2 fun x y _=>mt S fc N sc d (.e x)&&mt S fc N sc k (.e y)
 | .is a,nd=>onI nd fun _ x=>okE x&&mt S fc N sc a (.e x)
 | .st a,nd=>onI nd fun _ x=>okE x&&mt S fc N sc a (.e x)
 | .r1 a,nd=>onI nd fun _=>fun y0=>dFN y0 fun x _ z1 _=>l1 z1 fun y=>(x==("range":Str))&&S.bl.contains x&&glb sc x&&mt S fc N sc a (.e y)
 | .set i a,nd=>onS nd fun y0=>tA1 y0 fun z1 e _=>dN z1 fun x p=>fc&&(N[i]? ==some x)&&(!isC e||sc.names.lookup x==some .cell)&&mt S fc N sc a (.e e)
 | .sc i _ tup nm cap it t e,nd=>onS nd fun y0=>tA1 y0 fun z1 z2 _=>dN z1 fun x p=>dG z2 fun el z3 scope p2=>l1 z3 fun z4=>match z4 with|⟨tg,ite,ifs,as⟩=>fc&&(N[i]? ==some x)&&(sc.names.lookup x==some .local)&&(p.line==p2.line)&& !(scope.names.any fun y=>y.1==x&&(y.2== .local||y.2== .cell))&&(as==0)&&qnL tup tg nm&&qsg N sc scope nm cap&&okE ite&&mt S fc N sc it (.i tg ite)&&mt S false (nm++cap.map Prod.snd) scope e (.e el)&&(match ifs with| []=>qrq t| [c]=>mt S false (nm++cap.map Prod.snd) scope t (.t c)|_=>false)
 | .un is a,nd=>onS nd fun y0=>tA1 y0 fun z1 e _=>dT z1 fun es _ _=>fc&&qcJ N is es&& !isC e&&(e.ctorIdx != 25)&&mt S fc N sc a (.e e)
 | .sf c f o a,nd=>onS nd fun y0=>tA1 y0 fun z1 e _=>dA z1 fun x f' _=>(f==f')&&S.fs.contains (c,f)&& !isC e&&mt S fc N sc o (.e x)&&mt S fc N sc a (.e e)
 | .dp d k a,nd=>onS nd fun y0=>tA1 y0 fun z1 e _=>dS z1 fun x y _=>!isC e&&mt S fc N sc d (.e x)&&mt S fc N sc k (.e y)&&mt S fc N sc a (.e e)
 | .sp l i a,nd=>onS nd fun y0=>tA1 y0 fun z1 e _=>dS z1 fun x y _=>!isC e&&mt S fc N sc l (.e x)&&mt S fc N sc i (.e y)&&mt S fc N sc a (.e e)
 | .re a,nd=>onS nd fun y0=>tR y0 fun z1 _=>o1 z1 fun e=>mt S fc N sc a (.e e)
 | .if_ t a b,nd=>onS nd fun y0=>tI y0 fun x y z _=>mt S fc N sc t (.t x)&&mt S fc N sc a (.b y)&&mt S fc N sc b (.b z)
 | .fo tup is it b,nd=>onS nd fun y0=>tF y0 fun tg x y z1 _=>l0 z1 <|fc&&okE x&&cond tup (dT tg fun es _ _=>qcJ N is es) (dN tg fun z _=>l1 is fun i=>N[i]? ==some z)&&mt S fc N sc it (.i tg x)&&mt S fc N sc b (.b y)
 | .ex a,nd=>onS nd fun y0=>tE y0 fun e _=>!isC e&&mt S fc N sc a (.e e)
 | .ra,nd=>match nd with| .s _=>true| .b _=>true|_=>false
 | .se a b,nd=>onL nd fun y0=>lc y0 fun x y=>mt S fc N sc a (.s x)&&mt S fc N sc b (.b y)
 | .en,nd=>onL nd fun y0=>l0 y0 <|true
 | .rv a,nd=>onE nd fun y0=>dS y0 fun x z1 _=>dX z1 fun z2 z3 z4 _=>o0 z2 <|o0 z3 <|o1 z4 fun m=>dU m fun o z _=>(o== .USub)&&(dK z fun c _ _=>(c== .int 1)&&mt S fc N sc a (.e x))
 | .ig x,nd=>onI nd fun _ y0=>dN y0 fun y _=>(x==y)&&(S.gt.lookup x).isSome&&glb sc x
 | .dy ks a,nd=>onE nd fun y0=>dD y0 fun z1 z2 _=>qvy ks z1&& !ks.isEmpty&&decide (ks.length<=15)&&decide ks.Nodup&&(z2.length==ks.length)&&mt S fc N sc a (.l z2)
section
variable {S:SI}{fc:Bool}{N:LSt}{sc:Scope}
theorem qaH{t:T}{x:Expr}(h:mt S fc N sc t (.e x)=true):okE x=true:=by
 cases t<;>first|exact(qdB h).1|exact absurd h wau
theorem qbc{e:Expr}{es:LEx}{env:Env}(h:okE e=true):starEach (e::es) env=(false,eval e env)::starEach es env:=by
 cases e<;>first|rfl|cases h
theorem qiJ{i:Expr}(h:okE i=true):∀ o v,subscripted i false o v=operate [o,v] (getItem o v):=by
 intro o v;cases i<;>first|rfl|cases h
theorem qbf{op:CmpOp}{e:Expr}(h:okE e=true):behindInMarks op e=false:=by
 cases e<;>first|rfl|cases h
theorem qgj{e:Expr}{env:Env}(h:okE e=true):∀ x,foldedSetIterable e env x=pure x:=by
 intro x;cases e<;>first|rfl|cases h
theorem qda{e:Expr}{tg:Option Expr}{l:Nat}{env:Env}(h:okE e=true)(hc:isC e=false):swapsWith e tg l env=pure false:=by
 cases e<;>first|rfl|(cases hc;done)|(cases h;done)
theorem qdr{o:Expr}{m:Str}{env:Env}(h:qdZ o=false):attributeBase o m env (eval o env)=eval o env:=by
 cases o<;>first|rfl|skip
 rename_i f as ks p;cases f<;>first|rfl|skip
 cases as<;>first|rfl|skip
 cases ks<;>first|rfl|cases h
theorem qqi{e:Expr}{env:Env}(h:qrr e=false):∀ whole,isTrue e env whole=(do let v<-whole;standAt e.pos;holding [v] (truthy v)):=by
 intro w;cases e<;>first|rfl|cases h|skip
 rename_i o x p;cases o<;>first|rfl|cases h
theorem qbz:∀ {r:T} {xs:LEx},mt S fc N sc r (.a xs)=true->xs.all okE=true
 |r,[],_=>rfl
 |r,x::xs,h=>by
  cases r<;>first|exact absurd h wau|skip
  have h:=qdB h;rw[wal,qaH h.1,qbz h.2];rfl
theorem qd2{env:Env}:∀ {xs:LEx},xs.all okE=true->starEach xs env=xs.map fun e=>(false,eval e env)
 | [],_=>rfl
 |x::xs,h=>by
  rw[wal,waa]at h;rw[qbc h.1,qd2 h.2];rfl
theorem qcj{env:Env}{p:Pos}{xs:LEx}(h:xs.all okE=true):(backTo p (starEach xs env)).any (·.1)=false:=by
 rw[qd2 h];unfold backTo;simp
theorem qgs{env:Env}{p:Pos}{xs:LEx}(h:xs.all okE=true):(backTo p (starEach xs env)).all (fun x=>!x.1)=true:=by
 rw[qd2 h];unfold backTo;simp
theorem back_eq{env:Env}{p:Pos}{xs:LEx}(h:xs.all okE=true):backTo p (starEach xs env)=xs.map fun e=>(false,eval e env):=by
 rw[qd2 h];unfold backTo;simp[was,Function.comp_def]
theorem ql4{o:Expr}{m:Str}{apos pos:Pos}{es:LEx}{env:Env}(hb:qdZ o=false)(ha:es.all okE=true)(hl:es.length<29)(hn:nLn apos pos=true):
 eval (.Call (.Attribute o m apos) es [] pos) env=(do
  let ov<-eval o env
  standAt apos.atName
  let(f,first) <-holding [ov] (getMethod ov m (do return (<-importBound o env).getD true))
  callWith pos f first (backTo pos (starEach es env)) (backToKw pos (keywordEach [] env))):=by
 have e1:eval (.Call (.Attribute o m apos) es [] pos) env=(do
  let ov<-attributeBase o m env (eval o env)
  standAt apos.atName
  methodCall o m apos pos env ov (es.length+([]:List Keyword).length) (backTo pos (starEach es env)) (backToKw pos (keywordEach [] env))):=rfl
 rw[e1,qdr hb];have few:methodCallForm (es.length+([]:List Keyword).length) (backTo pos (starEach es env)) (backToKw pos (keywordEach [] env))=true:=by
  unfold methodCallForm;rw[qgs ha];have:es.length+0+0<30:=by omega
  simp[backToKw,keywordEach,this];omega
 have hpos:methodCallPos true o env apos pos=pure pos:=by
  unfold methodCallPos;unfold nLn at hn;rw[if_pos (by rw[hn];rfl)]
 unfold methodCall;rw[few,hpos];rfl
end
structure Wd(P:Program)(w:World)(K:Frg)(mg:SOV)(base:Heap)(Γ:G)(k:Nat):Prop where
 bl:∀ x∈Γ.S.bl,mg x=none
 gi:∀ x i,Γ.S.gi.lookup x=some i->qyj mg x i
 gt:∀ x l,Γ.S.gt.lookup x=some l->qsa K mg x l
 tb:∀ x∈Γ.S.tb,KTab P w K mg x (Γ.tb x)
 tt:∀ x l,Γ.S.tt.lookup x=some l->qsc P w K mg x l
 cl:∀ i c,Γ.S.cl[i]? =some c->Cls K (Γ.C i)/\mg c=some (.ref (Γ.C i))
 fs:∀ c f,(c,f)∈Γ.S.fs->Cls K (Γ.C c)/\NoAttr K (Γ.C c) f
 fn:∀ (i:Nat) d,Γ.S.fd[i]? =some d->d.kind=0->RFn P w K mg base k d.name d.ps (Γ.fn i)
 me:∀ (i:Nat) d,Γ.S.fd[i]? =some d->d.kind=1->Cls K (Γ.C d.cls)/\RMt P w K mg base (Γ.C d.cls) k d.name d.ps (Γ.fn i)
 ini:∀ (i:Nat) d,Γ.S.fd[i]? =some d->d.kind=2->∃ j,j+1<=k/\RIn P w K mg base (Γ.C d.cls) j d.ps (Γ.ini i)
 cvs:∀ q∈Γ.cvs,∃ fd ps,PySem.W.keepIn K (.ref q.1)=true/\Binds K fd ps []/\qdC P w K mg base CX0 k q.1 fd ps (qgt K q.2)
structure OkX(k:Nat)(fc:Bool)(N:LSt)(sc:Scope)(X:Cx):Prop where
 hN:X.N=N
 vis:∀ x∈N,Vis X.env.scope x/\dbg x=true
 gl:∀ x,sc.names.lookup x=some .globalImplicit->Gl X x
 calm:X.calm=true
 room:Room k X.A
 fn:fc=true->X.env.scope=sc/\N.Nodup/\(∀ x∈N,Loc sc x)/\(∀ x,X.fn x=true)/\PassesOwn (model X.prog X.w) X.A X.env X.xe/\X.env.blockKind= .function/\∀ x,X.env.kindOf x=sc.names.lookup x
def RPL(X:Cx):LEx->List RTE->Prop
 | [],ts=>ts= []
 |x::xs,ts=>∃ t r,ts=t::r/\RPE X x t/\RPL X xs r
def Good(Γ:G)(X:Cx)(t:T):Nd->Prop
 | .e x=>RPE X x (tr Γ t).E
 | .t x=>RPT X x (tr Γ t).T
 | .a xs=>RPA X xs (tr Γ t).A
 | .i tg x=>RPI X tg x (tr Γ t).I
 | .p x=>RPO X x (tr Γ t).P
 | .s x=>RPS X x (tr Γ t).S
 | .b xs=>qnF X xs (tr Γ t).S
 | .l xs=>RPL X xs (tr Γ t).L
section
variable {X:Cx}{Γ:G}{t:T}{r:RTE}{f:Expr->Bool}{nd:Nd}
theorem qeN(e:tr Γ t=ex r)(he:∀ x,f x=true->RPE X x r)(h:onE nd f=true):Good Γ X t nd:=by
 cases nd<;>first|(cases h;done)|skip
 · show RPE X _ (tr Γ t).E;rw[e];exact he _ (qdB h).2
 · rename_i x
   have h':(!qrr x&&f x)=true:=h;rw[waa,Bool.not_eq_true']at h';show RPT X _ (tr Γ t).T;rw[e];exact qwu (he _ h'.2) (qqi h'.1)
theorem qcT(e:tr Γ t=ex r)(he:∀ x,f x=true->RPE X x r/\RPT X x (qfZ r))(h:onC nd f=true):Good Γ X t nd:=by
 cases nd<;>first|(cases h;done)|skip
 · show RPE X _ (tr Γ t).E;rw[e];exact(he _ (qdB h).2).1
 · show RPT X _ (tr Γ t).T;rw[e];exact(he _ h).2
theorem RPE.imp{e:Expr}{t t':RTE}(h:RPE X e t)(i:∀ σ M Q,t' σ M Q->t σ M Q):RPE X e t':=PE.imp h fun σ0 H Q0 h=>by
 obtain⟨σ,M,Q,hs,hv,ht,hk⟩:=h;exact⟨σ,M,Q,hs,hv,i _ _ _ ht,hk⟩
theorem RPS.imp{e:Stmt}{t t':RTS}(h:RPS X e t)(i:∀ D σ M,t' D σ M->t D σ M):RPS X e t':=PS.imp h fun D0 σ0 H h=>by
 obtain⟨σ,M,D,hs,hv,ht,hd⟩:=h;exact⟨σ,M,D,hs,hv,i _ _ _ ht,hd⟩
theorem ql2{e:Expr}:RPE X e qbT:=fun pins s σ0 H Q0 I h=>by
 obtain⟨σ,M,Q,hs,hv,ht,hk⟩:=h;exact ht.elim
theorem qos{g:Value->Value->Sem Value}:ROp X g (fun _ _ _ _=>False):=fun pins s σ H x y v u Q0 I rx ry h=>by
 obtain⟨a,b,M,Q,ra,rb,hv,hq,hk⟩:=h;exact hq.elim
theorem qt1:∀ o:Operator,ROp X (binaryOp o) (opR o):=by
 intro o;cases o<;>first|exact qDI|exact qDy|exact qDD|exact qDE|exact qDH|exact qDA|exact qos
theorem qfG(hu:X.A.units+64<cLine):∀ o:CmpOp,ROp X (compareOp o) (cmR o):=by
 intro o;cases o<;>first|exact olt|exact ole|exact ogt|exact oge|exact qDG hu|exact qDC hu|exact ois|exact qt3|exact oin hu|exact qt2 hu
theorem qeY{o p:CmpOp}{b c:Expr}(h:okE c=true):lastMarks [o,p] [b,c]=false:=qbf h
end
section
variable {X:Cx}
theorem qya:qbe X (.builtin "isinstance") (upC X.K qwQ):=by
 intro pins s σ H xs us Q0 I rl h;obtain⟨rs,M,Q,rr,hv,hq,hk⟩:=h;unfold qwQ at hq;split at hq
 · rename_i a
   exact qkT pins s σ H xs us Q0 I rl ⟨_,M,Q,rr,hv,⟨rfl,hq⟩,hk⟩
 · rename_i x t _
   by_cases h1:t= "int"
   · subst h1;exact qoW pins s σ H xs us Q0 I rl ⟨_,M,Q,rr,hv,⟨rfl,hq⟩,hk⟩
   by_cases h2:t= "bool"
   · subst h2;exact qna pins s σ H xs us Q0 I rl ⟨_,M,Q,rr,hv,⟨rfl,hq⟩,hk⟩
   by_cases h3:t= "str"
   · subst h3;exact qoV pins s σ H xs us Q0 I rl ⟨_,M,Q,rr,hv,⟨rfl,hq⟩,hk⟩
   by_cases h4:t= "tuple"
   · subst h4;exact qkS pins s σ H xs us Q0 I rl ⟨_,M,Q,rr,hv,⟨rfl,hq⟩,hk⟩
   by_cases h5:t= "list"
   · subst h5;exact qm9 pins s σ H xs us Q0 I rl ⟨_,M,Q,rr,hv,⟨rfl,hq⟩,hk⟩
   · unfold isT at hq
     rw[if_neg h1,if_neg h2,if_neg h3,if_neg h4,if_neg h5]at hq;exact hq.elim
 · exact hq.elim
theorem qx9:qbe X (.builtin "len") (upC X.K qlK):=by
 intro pins s σ H xs us Q0 I rl h;obtain⟨rs,M,Q,rr,hv,hq,hk⟩:=h;unfold qlK at hq;split at hq
 · rename_i a
   split at hq
   · rename_i ys e
     exact qA9 pins s σ H xs us Q0 I rl ⟨_,M,Q,rr,hv,by simp only[qvo,e];exact hq,hk⟩
   · rename_i kvs e
     exact qx6 pins s σ H xs us Q0 I rl ⟨_,M,Q,rr,hv,⟨a,kvs,rfl,e,hq⟩,hk⟩
   · exact hq.elim
 · exact qA9 pins s σ H xs us Q0 I rl ⟨_,M,Q,rr,hv,hq,hk⟩
variable {x:Str}{p pos:Pos}{e:Expr}{es:LEx}{t:RTA}
theorem qye(hc:X.calm=true)(hx:bfN.contains x=true)(hm:X.mg x=none)(hg:Gl X x)(hd:(x==("__debug__":Str))=false)(ha:RPA X (e::es) t)(ho:(e::es).all okE=true):RPE X (.Call (.Name x p) (e::es) [] pos) (qfa (bfR x) t):=by
 rw[wal,waa]at ho;have s1:=qbc (es:=es) (env:=X.env) ho.1;have s2:=qcj (env:=X.env) (p:=pos) ho.2;have hm':x= "len"∨x= "isinstance"∨x= "all"∨x= "ord"∨x= "any":=by simpa[bfN]using hx
 rcases hm' with rfl|rfl|rfl|rfl|rfl
 · exact qgX qx9 hm qu1 ha hg (by decide) hd s1 s2
 · exact qgX qya hm qgq ha hg (by decide) hd s1 s2
 · exact qgX (qo0 hc) hm qu3 ha hg (by decide) hd s1 s2
 · exact qgX qDY hm qu0 ha hg (by decide) hd s1 s2
 · exact qgX (qoZ hc) hm qu2 ha hg (by decide) hd s1 s2
theorem quY(hc:X.calm=true)(hx:btN.contains x=true)(hm:X.mg x=none)(hg:Gl X x)(hd:(x==("__debug__":Str))=false)(ha:RPA X (e::es) t)(ho:(e::es).all okE=true):RPE X (.Call (.Name x p) (e::es) [] pos) (qfa (btR x) t):=by
 rw[wal,waa]at ho;have s1:=qbc (es:=es) (env:=X.env) ho.1;have s2:=qcj (env:=X.env) (p:=pos) ho.2;have hm':x= "tuple"∨x= "int":=by simpa[btN]using hx
 rcases hm' with rfl|rfl
 · exact qpk quU hm qjN ha hg (by decide) hd s1 s2
 · exact qpk qDZ hm qpW ha hg (by decide) hd s1 s2
theorem qvP{y:String}(hx:["int","bool","str","tuple","list"].contains y=true)(hm:X.mg (Str.ofString y)=none)(hg:Gl X (Str.ofString y)):RPE X (.Name (Str.ofString y) pos) (rC (.ty y)):=by
 have hm':y= "int"∨y= "bool"∨y= "str"∨y= "tuple"∨y= "list":=by simpa using hx
 rcases hm' with rfl|rfl|rfl|rfl|rfl
 · exact qqx hm hg
 · exact qnT hm hg
 · exact qqw hm hg
 · exact qlv hm hg
 · exact qnS hm hg
theorem qus{C:Addr}{f:Str}{Q:RVK}:kFl C f Q=(fun x M1=>match x with| .ref a=>∃ fs v,M1 a=some (.ins C fs)/\fs.lookup f=some v/\Q v M1|_=>False):=by
 funext x M1;cases x with
 |ref a=>
  refine propext ⟨fun h=>?_,fun⟨fs,v,e1,e2,q⟩=>?_⟩
  · unfold kFl at h
    simp only at h;split at h
    · rename_i C' fs e1
      obtain⟨rfl,h'⟩:=h;split at h'
      · rename_i v e2;exact⟨fs,v,e1,e2,h'⟩
      · exact h'.elim
    · exact h.elim
  · unfold kFl;simp only[e1,e2];exact⟨trivial,q⟩
 |_=>rfl
theorem qxU{C:Addr}{f:Str}{ta:RTE}(hc:Cls X.K C)(hn:NoAttr X.K C f)(he:RPE X e ta)(hb:qdZ e=false):RPE X (.Attribute e f pos) (uFl C f ta):=RPE.imp (qDo hc hn he (qdr hb)) fun σ M Q h=>by
 unfold uFl at h;rw[qus]at h;exact h
theorem qwc{C:Addr}{f:Str}{o value:Expr}{ta tv:RTE}{pos':Pos}(hc:Cls X.K C)(hn:NoAttr X.K C f)(ha:RPE X o ta)(hv:RPE X value tv)(hs:swapsWith value (some (.Attribute o f pos')) pos.line X.env=pure false):RPS X (.Assign [.Attribute o f pos'] value pos) (uSf C f ta tv):=RPS.imp (qCU hc hn ha hv hs) fun D σ M h=>by
 unfold uSf at h;have:∀ y,kSf C f y (D.nx σ)=(fun x M2=>match x with| .ref a=>∃ fs,M2 a=some (.ins C fs)/\fs.length<1000/\D.nx σ (put M2 a (.ins C (qg3 f y fs)))|_=>False):=fun y=>by
  funext x M1;cases x with
  |ref a=>
   refine propext ⟨fun h=>?_,fun⟨fs,e1,q⟩=>?_⟩
   · unfold kSf at h
     simp only at h;split at h
     · rename_i C' fs e1
       obtain⟨rfl,h'⟩:=h;exact⟨fs,e1,h'⟩
     · exact h.elim
   · unfold kSf;simp only[e1];exact⟨trivial,q⟩
  |_=>rfl
 simp only[this]at h;exact h
theorem qpB{C:Addr}{m:Str}{sp:RSp}{t:RTA}{σ:RSt}{Q:RVK}:kMe C m sp t σ Q=(fun x M1=>match x with| .ref a=>∃ fs,M1 a=some (.ins C fs)/\fs.lookup m=none/\t σ M1 fun rs M2=>sp (.ref a::rs) M2 Q|_=>False):=by
 funext x M1;cases x with
 |ref a=>
  refine propext ⟨fun h=>?_,fun⟨fs,e1,e2,q⟩=>?_⟩
  · unfold kMe at h
    simp only at h;split at h
    · rename_i C' fs e1
      obtain⟨rfl,h'⟩:=h;exact⟨fs,e1,h'⟩
    · exact h.elim
  · unfold kMe;simp only[e1];exact⟨trivial,e2,q⟩
 |_=>rfl
theorem qt5{C:Addr}{m:Str}{sp:RSp}{o:Expr}{ta:RTE}{apos:Pos}{k:Nat}{ps:LSt}(F:RMt X.prog X.w X.K X.mg X.base C k m ps sp)(c:Cls X.K C)(hr:Room k X.A)(he:RPE X o ta)(hb:qdZ o=false)(hn:nLn apos pos=true):
 RPE X (.Call (.Attribute o m apos) [] [] pos) (uMe C m sp ta qn3):=RPE.imp (qqC F c hr he (ql4 hb rfl (by decide) hn)) fun σ M Q h=>by
 unfold uMe at h;rw[qpB]at h;exact h
theorem qxn{C:Addr}{m:Str}{sp:RSp}{o:Expr}{ta:RTE}{apos:Pos}{k:Nat}{ps:LSt}(F:RMt X.prog X.w X.K X.mg X.base C k m ps sp)(c:Cls X.K C)(hr:Room k X.A)(he:RPE X o ta)(ha:RPA X (e::es) t)(hb:qdZ o=false)(ho:(e::es).all okE=true)(hl:(e::es).length<29)(hn:nLn apos pos=true):
 RPE X (.Call (.Attribute o m apos) (e::es) [] pos) (uMe C m sp ta t):=by
 have ho':=ho;rw[wal,waa]at ho;refine RPE.imp (qs3 F c hr he ha (qbc ho.1) (qcj ho.2) (ql4 hb ho' hl hn)) fun σ M Q h=>?_
 unfold uMe at h;rw[qpB]at h;exact h
end
theorem qrI{S:SI}{fc:Bool}{N:LSt}{sc:Scope}{r:T}(h:mt S fc N sc r (.a [])=true):r= .e0:=by
 cases r<;>first|rfl|exact absurd h wau
section
variable {X:Cx}{C:Addr}
theorem qqD{x:Str}{p pos:Pos}{k:Nat}{ps:LSt}{sp:RSp}(F:RIn X.prog X.w X.K X.mg X.base C k ps sp)(hr:Room (k+1) X.A)(hm:X.mg x=some (.ref C))(hg:Gl X x)(hdb:(x==("__debug__":Str))=false):RPE X (.Call (.Name x p) [] [] pos) (qkk C sp qn3):=by
 obtain⟨g,fd,hM,hb,F⟩:=F.ex;refine PE.imp (qoc hM F hr hg hm hb .nil qiG hdb) fun σ0 H Q0 h=>?_
 obtain⟨σ,M,Q,hs,hv,ht,hk⟩:=h;refine fun a dx na nd ne=>?_
 have ex1:Ext H (upd H dx (.own a)):=Ext.new nd;have na':(upd H dx (.own a)) a=none:=by rw[qaa (Ne.symm ne)];exact na
 have ex2:Ext H (upd (upd H dx (.own a)) a (.ins C dx [])):=ex1.trans (Ext.new na');refine⟨[.ref a],put M a (.ins C []),_,Reps.cons (by simp only[Rep]) Reps.nil,(hv.new nd).newPut na' ⟨dx,[],rfl,rfl⟩,ht a (hv.free na),fun rv M2 v H2 q2 e2 v2 r2=>?_⟩
 obtain⟨rfl,q2⟩:=q2;simp only[Rep]at r2;exact⟨r2,hk _ M2 _ H2 q2 (ex2.trans e2) v2 (by simp only[Rep])⟩
theorem qbs{sc:Scope}{x:Str}(h:glb sc x=true):sc.names.lookup x=some .globalImplicit/\(x==("__debug__":Str))=false:=by
 unfold glb at h;rw[waa,beq_iff_eq,Bool.not_eq_true']at h;exact h
theorem quM{x:Str}(h:dbg x=true):(x==("__debug__":Str))=false/\(x==("__classdict__":Str))=false:=by
 unfold dbg at h
 rwa [waa,Bool.not_eq_true',Bool.not_eq_true']at h
theorem qjn{tg e:Expr}{l:Nat}{env:Env}(h:okE e=true)(hc:isC e=false):swapsWithSole [tg] e l env=pure false:=qda h hc
theorem mem_of{α:Type}[BEq α][LawfulBEq α]{a:α}{l:List α}(h:l.contains a=true):a∈l:=by simpa using h
theorem qr8{o i:Expr}{p:Pos}(h:okE i=true):∀ v,assign (.Subscript o i p) X.env v=(do
 let ov<-holding [v] (eval o X.env)
 let iv<-holding [v,ov] (eval i X.env)
 standAt p
 holding [v,ov,iv] (setItem ov iv v)
 release [v,ov,iv] []):=by intro v;cases i<;>first|rfl|cases h
theorem qmr{K:Frg}{neg:Bool}{ss:LSt}{ta:RTE}{σ0:L2.St}{H:Hp}{Q0:VK}(h:up K (qsh neg ss ta) σ0 H Q0):tOp (upO K (qvq K neg)) (up K ta) (up K (rCT K ss)) σ0 H Q0:=by
 obtain⟨σ,M,Q,hs,hv,ht,hk⟩:=h;refine⟨σ,M,_,hs,hv,ht,fun rx M1 x H1 q e1 v1 r1=>?_⟩
 refine⟨σ,M1,fun y M2=>∃ p,y= .ref p/\qvf K p ss/\M2=M1,hs.ext e1,v1,fun p hp=>⟨p,rfl,hp,rfl⟩,fun ry M2 y H2 q2 e2 v2 r2=>?_⟩
 obtain⟨p,rfl,hp,rfl⟩:=q2;exact⟨rx,.ref p,_,Q,Rep.ext e2 _ _ r1,r2,v2,⟨ss,hp,q.1,q.2⟩,hk.ext (e1.trans e2)⟩
theorem qpK{neg:Bool}{op:CmpOp}{ss:LSt}{a:Expr}{ta:RTE}{x:Str}{p pos:Pos}(ho:ROp X (compareOp op) (qvq X.K neg))(h:qsa X.K X.mg x ss)(ha:RPE X a ta)(hg:Gl X x)(hd:(x==("__debug__":Str))=false):RPE X (.Compare a [op] [.Name x p] pos) (qsh neg ss ta)/\RPT X (.Compare a [op] [.Name x p] pos) (qfZ (qsh neg ss ta)):=
 ⟨PE.imp (qlU ho ha (rgt h hg hd) (qbf rfl)) fun _ _ _ h=>qmr h,PT.imp (qlM ho ha (rgt h hg hd) (qbf rfl)) fun σ0 H Q0 h=>by
  obtain⟨σ,M,Q,hs,hv,ht,hk⟩:=h;exact qmr ⟨σ,M,_,hs,hv,ht,qcn hk⟩⟩
theorem qxo{o e:Expr}{m:Str}{ap p:Pos}(h0:qdZ o=false)(hn:nLn ap p=true)(he:okE e=true):M1 X o m ap e p where
 base:=qdr h0
 few:=by rw[qgs (by rw[wal,he];rfl)];rfl
 line:=hn
 trees:=back_eq (by rw[wal,he];rfl)
end
section
variable {X:Cx}{Γ:G}{k:Nat}{fc:Bool}{N:LSt}{sc:Scope}
theorem OkX.var(O:OkX k fc N sc X){i:Nat}{x:Str}{pos:Pos}(h:N[i]? =some x):RPE X (.Name x pos) (qqH i):=by
 have m:=O.vis x (List.mem_of_getElem? h);have d:=quM m.2;exact rv i (by rw[O.hN];exact h) m.1 d.1 d.2
theorem OkX.setN(O:OkX k true N sc X){i:Nat}{x:Str}{e:Expr}{te:RTE}{pos pos':Pos}(h:N[i]? =some x)(he:RPE X e te)(hs:swapsWith e (some (.Name x pos')) pos.line X.env=pure false):RPS X (.Assign [.Name x pos'] e pos) (qtm i te):=by
 obtain⟨hsc,nd,hl,hf,_⟩:=O.fn rfl;exact sset i he (by rw[O.hN];exact nd) (by rw[O.hN];exact h) (by rw[hsc];exact hl x (List.mem_of_getElem? h)) hs (.inl (hf x))
theorem OkX.gN(O:OkX k true N sc X){i:Nat}{x:Str}{pos:Pos}(h:N[i]? =some x):RPG X (.Name x pos) (rgN i):=by
 obtain⟨hsc,nd,hl,hf,_⟩:=O.fn rfl;exact qxO i (by rw[O.hN];exact nd) (by rw[O.hN];exact h) (by rw[hsc];exact hl x (List.mem_of_getElem? h)) (.inl (hf x))
theorem qhc(O:OkX k true N sc X):∀ (is:List Nat) (es:LEx),qcJ N is es=true->PGs X es (qoL is)/\(assignEach es X.env).length=is.length/\(assignEach es X.env).findIdx? (·.1)=none
 | [],[],_=>⟨qlS,rfl,rfl⟩
 | [],_::_,h=>by simp[qcJ]at h
 |i::is,[],h=>by simp[qcJ]at h
 |i::is,e::es,h=>by
  cases e<;>first|(simp[qcJ]at h;done)|skip
  rename_i x p;simp only[qcJ,waa,beq_iff_eq]at h;obtain⟨hsc,nd,hl,hf,_⟩:=O.fn rfl;obtain⟨a,b,c⟩:=qhc O is es h.2;have hd:(assignEach (.Name x p::es) X.env)=(false,assign (.Name x p) X.env)::assignEach es X.env:=rfl;refine⟨qjw (qf3 (i:=i) (by rw[O.hN];exact nd) (by rw[O.hN];exact h.1) (by rw[hsc];exact hl x (List.mem_of_getElem? h.1)) (.inl (hf x))) a,by rw[hd,wah,b];rfl,by rw[hd,List.findIdx?_cons,c];rfl⟩
theorem gT(O:OkX k true N sc X){is:List Nat}{es:LEx}{j:Nat}{pos:Pos}(h:qcJ N is es=true):RPG X (.Tuple es j pos) (rgU is):=by
 obtain⟨a,b,c⟩:=qhc O is es h;exact qDS O.calm a rfl b c
theorem qgr{scope:Scope}{nm:LSt}{cap:List (Nat×Str)}{cl:List (Str×Addr)}{C:Addr}{s:Shared}{H:Hp}{fp:List Addr}(O:OkX k fc N sc X)(hs:qsg N sc scope nm cap=true):
 OkX k false (nm++cap.map Prod.snd) scope (blk X scope cl C (nm++cap.map Prod.snd) s H fp):=by
 unfold qsg at hs;simp only[waa,wav,beq_iff_eq]at hs;obtain⟨⟨⟨⟨⟨⟨⟨hcap,_⟩,_⟩,_⟩,_⟩,hnm⟩,_⟩,hdb⟩:=hs;refine⟨rfl,fun x hx=>⟨?_,hdb x hx⟩,fun x h=>glB h,O.calm,O.room,fun h=>by cases h⟩
 rcases wap.mp hx with hx|hx
 · exact .inl (lookup_relabel_local (hnm x hx))
 · obtain⟨p,hp,rfl⟩:=wan.mp hx
   exact .inr (qdt (hcap p hp).1.2)
theorem quW{x:Str}(h:cf sc x=true):sc.names.lookup x=some .cell∨sc.names.lookup x=some .free:=by
 unfold cf at h
 rwa [Bool.or_eq_true,beq_iff_eq,beq_iff_eq]at h
theorem qsJ{tup:Bool}{tg:Expr}{nm:LSt}(h:qnL tup tg nm=true):qsK tup tg nm:=by
 unfold qnL at h;unfold qsK;split at h
 · simpa using h
 · simpa using h
 · cases h
structure qnC(X:Cx)(N:LSt)(sc scope:Scope)(nm:LSt)(cap:List (Nat×Str)):Prop where
 hcaps:∀ p∈cap,N[p.1]? =some p.2/\scope.names.lookup p.2=some .free/\(sc.names.lookup p.2=some .cell∨sc.names.lookup p.2=some .free)
 hfr:∀ y∈scope.names,y.2= .free->(sc.names.lookup y.1=some .cell∨sc.names.lookup y.1=some .free)
 hcell:∀ y∈scope.names,y.2≠.cell
 hkind:scope.kind= .function
 hnames:∀ y∈scope.names,y.2= .local->scope.names.lookup y.1=some .local
 hx:∀ x∈nm,scope.names.lookup x=some .local
 hnd:(nm++cap.map Prod.snd).Nodup
theorem qhW{scope:Scope}{nm:LSt}{cap:List (Nat×Str)}(hs:qsg N sc scope nm cap=true):qnC X N sc scope nm cap:=by
 unfold qsg at hs;simp only[waa,wav,beq_iff_eq,decide_eq_true_eq]at hs;obtain⟨⟨⟨⟨⟨⟨⟨hcap,hfr⟩,hcell⟩,hkind⟩,hnames⟩,hnm⟩,hnd⟩,hdb⟩:=hs;refine⟨fun p hp=>⟨(hcap p hp).1.1,(hcap p hp).1.2,quW (hcap p hp).2⟩,fun y hy e=>?_,fun y hy e=>?_,hkind,fun y hy e=>?_,hnm,hnd⟩
 · have:=hfr y hy
   rw[e]at this;exact quW (by simpa using this)
 · have:=hcell y hy
   rw[e]at this;simp at this
 · have:=hnames y hy
   rw[e]at this;simpa using this
end
section
variable {Γ:G}{k:Nat}{X:Cx}{fc:Bool}{N:LSt}{sc:Scope}
theorem qv7{el:Expr}{gs:List Comprehension}{scope:Scope}{p:Pos}{x:Str}{px:Pos}{l:Nat}(O:OkX k true N sc X)(h:sc.names.lookup x=some .cell):swapsWith (.ListComp el gs scope p) (some (.Name x px)) l X.env=pure false:=by
 obtain⟨_,_,_,_,_,hb,hk⟩:=O.fn rfl;show(pure (X.env.blockKind== .function&&X.env.kindOf x==some .local&&px.line==p.line&& !(scope.names.any fun(n,k)=>n==x&&(k== .local||k== .cell))):Sem Bool)=_
 rw[hk,h,show((some NameKind.cell:Option NameKind)==some .local)=false from by decide]
 simp
theorem qv6{el:Expr}{gs:List Comprehension}{scope:Scope}{p:Pos}{x:Str}{px:Pos}{l:Nat}(O:OkX k true N sc X)(h:sc.names.lookup x=some .local)(hl:px.line=p.line)(ha:(scope.names.any fun y=>y.1==x&&(y.2== .local||y.2== .cell))=false):swapsWith (.ListComp el gs scope p) (some (.Name x px)) l X.env=pure true:=by
 obtain⟨_,_,_,_,_,hb,hk⟩:=O.fn rfl;show(pure (X.env.blockKind== .function&&X.env.kindOf x==some .local&&px.line==p.line&& !(scope.names.any fun(n,k)=>n==x&&(k== .local||k== .cell))):Sem Bool)=_
 rw[hk,h,hb,hl];have:(scope.names.any fun(n,k)=>n==x&&(k== .local||k== .cell))=false:=ha
 rw[this];simp
theorem qsW{elt iter tg:Expr}{nm:LSt}{tup md:Bool}{y:Str}{py:Pos}{scope:Scope}{pos spos:Pos}{ti:RTI}{tt:RTT}{te:RTE}{ifs:LEx}{cap:List (Nat×Str)}(O:OkX k true N sc X)(i:Nat)(c:qnC X N sc scope nm cap)(htg:qsK tup tg nm)(hi:RPI X tg iter ti)
 (hif:∀ cl C s H fp,qsb (blk X scope cl C (nm++cap.map Prod.snd) s H fp) ifs tt) (hel:∀ cl C s H fp,RPE (blk X scope cl C (nm++cap.map Prod.snd) s H fp) elt te) (hs:∀ v,foldedSetIterable iter X.env v=pure v) (hiN:N[i]? =some y)
 (hsw:swapsWith (.ListComp elt [⟨tg,iter,ifs,0⟩] scope pos) (some (.Name y py)) spos.line X.env=pure true):
 RPS X (.Assign [.Name y py] (.ListComp elt [⟨tg,iter,ifs,0⟩] scope pos) spos) (qtm i (qft (qjP tup nm.length) md ti (cap.map Prod.fst) tt te)):=by
 obtain⟨hsc,nd,hl,hf,_⟩:=O.fn rfl;intro pins s σ0 H D0 I h;obtain⟨σ,M,D,hst,hv,ht,hd⟩:=h;rw[exec_Assign_Name_used _ _ _ _ hsw];refine wpAny_bind (wpAny_standAt (wpAny_bind ?_));show wpAny _ _ (do let _<-comprehension (.ListComp elt [⟨tg,iter,ifs,0⟩] scope pos) scope X.env _ (newList []) false (eval iter X.env) (some (assign (.Name y py) X.env))) _ _ s
 refine wpAny_bind (wpAny_mono (qjL (PP:=fun _ s'=>∃ σ' H',Inv X pins σ' H' s'/\D0.nx σ' H') cap htg O.calm hi hif hel hsc O.hN c.hcaps c.hfr c.hcell c.hkind c.hnames c.hx c.hnd hs I (Q0:=fun v H'=>D0.nx (σ0.set i (some v)) H') ⟨σ,M,_,hst,hv,ht,fun rx M1 v H1 q e1 v1 r1=>hd.nx _ M1 _ H1 q e1 v1 ((hst.ext e1).set r1 i)⟩ ?_) (fun _ s' hq=>wpAny_pure (wpAny_pure hq)) fun _ _ e=>e)
 intro D C s5 m5 H5 hn inv q hC hL hS hce hpi;have J:Inv X pins σ0 H5 s5:=inv s5.heap (Heap.SameBut.refl ..);refine wpAny_assign_Name (qgE J (by rw[O.hN];exact nd) (by rw[O.hN];exact hiN) (by rw[hsc];exact hl y (List.mem_of_getElem? hiN)) (v:=.ref D) rfl (fun s6 I6 sb=>?_) (.inl (hf y)))
 obtain⟨a,sb,ha⟩:=sb;have hCa:C≠a:=by
  rcases ha with rfl|e
  · exact hL
  · exact fun z=>hce y a e z.symm
 obtain⟨o,es,ep,ho,r⟩:=hn;refine⟨m5,⟨o,es,ep,sb.extBut _ _ hCa ho,r⟩,fun h' sb'=>⟨_,H5,Inv.turned (t':=s6.toks) (it:=C) I6 (fun b o hb e=>sb'.extBut b o hb e) hC hL (.inr hS) hce hpi,q⟩⟩
theorem qtd{elt iter tg:Expr}{nm:LSt}{tup md:Bool}{scope:Scope}{pos:Pos}{ti:RTI}{tt:RTT}{te:RTE}{ifs:LEx}{cap:List (Nat×Str)}(O:OkX k true N sc X)(c:qnC X N sc scope nm cap)(htg:qsK tup tg nm)(hi:RPI X tg iter ti)
 (hif:∀ cl C s H fp,qsb (blk X scope cl C (nm++cap.map Prod.snd) s H fp) ifs tt) (hel:∀ cl C s H fp,RPE (blk X scope cl C (nm++cap.map Prod.snd) s H fp) elt te) (hs:∀ v,foldedSetIterable iter X.env v=pure v):
 RPE X (.ListComp elt [⟨tg,iter,ifs,0⟩] scope pos) (qft (qjP tup nm.length) md ti (cap.map Prod.fst) tt te):=by
 obtain⟨hsc,nd,hl,hf,_⟩:=O.fn rfl;intro pins s σ0 H Q0 I hw;rw[eval_ListComp];exact qjL cap htg O.calm hi hif hel hsc O.hN c.hcaps c.hfr c.hcell c.hkind c.hnames c.hx c.hnd hs I hw (use:=none) fun D C s5 m5 H5 hn inv q hC hL hS hce hpi=>⟨m5,hn,fun h' sb=>⟨.ref D,H5,inv h' sb,rfl,q⟩⟩
end
section
variable {X:Cx}{Γ:G}{t:T}{nd:Nd}
theorem qjv{op:BoolOp}{vs:LEx}{p:Pos}{t:RTT}(h:RPT X (.BoolOp op vs p) t):RPW X (.BoolOp op vs p) t:=fun whole pins s σ H Q I w=>h pins s σ H Q I w
theorem qjH{f g:Expr->Bool}(he:∀ x,f x=true->RPE X x (tr Γ t).E)(ht:∀ x,g x=true->RPT X x (tr Γ t).T)(h:onT nd f g=true):Good Γ X t nd:=by
 cases nd<;>first|(cases h;done)|exact ht _ h|exact he _ (qdB h).2
theorem quE{f:Stmt->Bool}(he:∀ x,f x=true->RPS X x (tr Γ t).S)(h:onS nd f=true):Good Γ X t nd:=by
 cases nd<;>first|(cases h;done)|exact he _ h
theorem qpP{f:(LEx->Nd)->LEx->Bool}(he:∀ x,f .a x=true->RPA X x (tr Γ t).A)(hl:∀ x,f .l x=true->RPL X x (tr Γ t).L)(h:onA nd f=true):Good Γ X t nd:=by
 cases nd<;>first|(cases h;done)|exact he _ h|exact hl _ h
theorem qfC{f:Expr->Expr->Bool}(he:∀ tg x,f tg x=true->RPI X tg x (tr Γ t).I)(h:onI nd f=true):Good Γ X t nd:=by
 cases nd<;>first|(cases h;done)|exact he _ _ h
theorem qpN{f:Option Expr->Bool}(he:∀ x,f x=true->RPO X x (tr Γ t).P)(h:onP nd f=true):Good Γ X t nd:=by
 cases nd<;>first|(cases h;done)|exact he _ h
theorem qpO{f:List Stmt->Bool}(he:∀ x,f x=true->qnF X x (tr Γ t).S)(h:onL nd f=true):Good Γ X t nd:=by
 cases nd<;>first|(cases h;done)|exact he _ h
theorem qCT{st:Stmt}:RPS X st (fun _ _ _=>False):=fun pins s σ0 H D0 I h=>by
 obtain⟨σ,M,D,hs,hv,ht,hd⟩:=h;exact ht.elim
theorem qwb{st:List Stmt}:qnF X st (fun _ _ _=>False):=fun pins s σ0 H D0 I h=>by
 obtain⟨σ,M,D,hs,hv,ht,hd⟩:=h;exact ht.elim
end
theorem qv8{x y:Str}{px py pt pt2:Pos}{kt k2:Nat}{u v:Expr}{env:Env}(hb:env.blockKind= .function)(hx:env.kindOf x=some .local)(hy:env.kindOf y=some .local)(hl:py.line=px.line)(ne:¬y=x)(ho:[u,v].all okE=true)(hf:[u,v].all (foldedForSure 8)=false)(hc:[u,v].all (constantsAlone 8)=false):
 swappedStores [.Tuple [.Name x px,.Name y py] kt pt] (.Tuple [u,v] k2 pt2) env=pure (some [x,y]):=by
 unfold swappedStores;have en:([x,y]:LSt).eraseDups.length=2:=by
  have:(y==x)=false:=by simpa using ne
  simp[List.eraseDups_cons,this]
 simp only[wal,List.all_nil,Bool.and_true,waa]at ho;simp[hb,hx,hy,hl,hf,hc,en,Expr.pos];rintro (z|z)
 · split at z
   · cases ho.1
   · cases z
 · split at z
   · cases ho.2
   · cases z
theorem qfF{Γ:G}{k:Nat}{X:Cx}{N:LSt}{sc:Scope}{t:T}{ifs:LEx}(O:OkX k false N sc X)(W:Wd X.prog X.w X.K X.mg X.base Γ k)
 (ih:∀ {fc:Bool} {N:LSt} {sc:Scope} {X:Cx},OkX k fc N sc X->Wd X.prog X.w X.K X.mg X.base Γ k->∀ {nd},mt Γ.S fc N sc t nd=true->Good Γ X t nd)
 (h:(match ifs with| []=>qrq t| [c]=>mt Γ.S false N sc t (.t c)|_=>false)=true):qsb X ifs (tr Γ t).T:=by
 split at h
 · revert h
   exact fun h=>di h fun i=>T.b.elim t i fun b h=>by cases b<;>first|exact qB3|cases h
 · exact qB2 (ih O W h)
 · cases h
set_option hygiene false in
local macro_rules
 | `(tactic|walk_at "g0")=>`(tactic|(intro fc N sc X O W nd h))
 | `(tactic|walk_at "gE")=>`(tactic|(walk_at "g0";refine qeN rfl (fun x hx=>?_) h))
 | `(tactic|walk_at "gS")=>`(tactic|(walk_at "g0";refine quE (fun x hx=>?_) h))
 | `(tactic|walk_at "ga")=>`(tactic|simp only[waa,beq_iff_eq]at hx)
theorem qsr{X:Cx}{pos:Pos}:∀ {ks:LSt} {keys:List (Option Expr)} {vals:LEx} {ts:List RTE},qvy ks keys=true->vals.length=ks.length->RPL X vals ts->qvh X pos keys vals (ks.zip ts)/\(ks.zip ts).map (·.1)=ks/\keys.length=ks.length/\keys.all (·.isSome)=true
 | [],keys,[],ts,h,_,hr=>by cases keys with|nil=>exact⟨qBH,rfl,rfl,rfl⟩|cons a b=>cases h
 | [],keys,_::_,ts,h,hl,hr=>by cases hl
 |k::ks,keys,[],ts,h,hl,hr=>by cases hl
 |k::ks,keys,v::vals,ts,h,hl,hr=>by
  obtain⟨t,r,rfl,h1,h2⟩:=hr;revert h;unfold qvy;intro h;refine qcR h fun x zs h=>?_
  obtain⟨ha,hb⟩:=qdB h;obtain⟨i1,i2,i3,i4⟩:=qsr (pos:=pos) hb (Nat.succ.inj hl) h2;refine qop ha fun e ha=>?_
  refine qkQ ha fun c _ _ ha=>?_
  obtain rfl:=eq_of_beq ha;exact⟨qvI h1 i1,by rw[List.zip_cons_cons,wae,i2],by rw[wah,i3];rfl,by rw[wal,i4];rfl⟩
theorem sound{Γ:G}{k:Nat}:∀ (t:T) {fc:Bool} {N:LSt} {sc:Scope} {X:Cx},OkX k fc N sc X->Wd X.prog X.w X.K X.mg X.base Γ k->∀ {nd},mt Γ.S fc N sc t nd=true->Good Γ X t nd:=by
 intro t
 induction t with
 |v i=>
  walk_at "gE";refine qc4 hx fun _ _ hx=>?_
  exact O.var (by simpa using hx)
 |i n=>
  walk_at "gE";refine qkQ hx fun m _ _ hx=>?_
  obtain rfl:=eq_of_beq hx;exact ri
 |s n=>
  walk_at "gE";refine qkQ hx fun m _ _ hx=>?_
  obtain rfl:=eq_of_beq hx;exact rs
 |b n=>
  walk_at "gE";refine qkQ hx fun m _ _ hx=>?_
  obtain rfl:=eq_of_beq hx;exact rb
 |n=>
  walk_at "gE";refine qkQ hx fun _ _ _ hx=>?_
  obtain rfl:=eq_of_beq hx;exact rn
 |g x0=>
  walk_at "gE";refine qc4 hx fun _ _ hx=>?_
  walk_at "ga";obtain⟨⟨rfl,h1⟩,h2⟩:=hx;obtain⟨h2,h3⟩:=qbs h2;obtain⟨i,hi⟩:=waS.mp h1;rw[hi];exact rgi (W.gi _ _ hi) (O.gl _ h2) h3
 |ty x0=>
  walk_at "gE";refine qc4 hx fun _ _ hx=>?_
  walk_at "ga";obtain⟨⟨⟨rfl,h1⟩,h2⟩,h3⟩:=hx;exact qvP h1 (W.bl _ (mem_of h2)) (O.gl _ (qbs h3).1)
 |op o a b iha ihb=>
  walk_at "gE";refine qx3 hx fun _ _ _ _ hx=>?_
  walk_at "ga";obtain⟨⟨rfl,h1⟩,h2⟩:=hx;exact rop (qt1 o) (iha O W h1) (ihb O W h2)
 |cm o a b iha ihb=>
  walk_at "g0";refine qcT rfl (fun x hx=>?_) h
  refine qhV hx fun _ _ _ _ hx=>?_
  walk_at "ga";obtain⟨⟨rfl,h1⟩,h2⟩:=hx;exact⟨qDp (qfG O.room.units o) (iha O W h1) (ihb O W h2) (qbf (qaH h2)),qww (qfG O.room.units o) (iha O W h1) (ihb O W h2) (qbf (qaH h2))⟩
 |ch o p a b c iha ihb ihc=>
  walk_at "g0";refine qcT rfl (fun x hx=>?_) h
  refine quS hx fun _ z1 z2 _ hx=>?_
  refine qmf hx fun _ _ hx=>?_
  refine qmf hx fun _ _ hx=>?_
  walk_at "ga";obtain⟨⟨⟨⟨rfl,rfl⟩,h1⟩,h2⟩,h3⟩:=hx;exact⟨qte (qfG O.room.units _) (qfG O.room.units _) (iha O W h1) (ihb O W h2) (ihc O W h3) (qeY (qaH h3)),qqy (qfG O.room.units _) (qfG O.room.units _) (iha O W h1) (ihb O W h2) (ihc O W h3) (qeY (qaH h3))⟩
 |an a b iha ihb=>
  walk_at "g0";refine qjH (fun x hx=>?_) (fun x hx=>?_) h
  · refine qoU hx fun z1 z2 p hx=>?_
    refine qhM hx fun hx=>?_
    refine qcR hx fun x z3 hx=>?_
    refine qcR hx fun y r hx=>?_
    simp only[waa]at hx;have h1:=iha O W hx.1;have h2:=ihb O W hx.2;cases r with
    |nil=>exact qth h1 (qAB (h2:RPE X y _))
    |cons z r=>exact qth h1 h2
  · refine qoU hx fun z1 z2 p hx=>?_
    refine qhM hx fun hx=>?_
    refine qcR hx fun x z3 hx=>?_
    refine qcR hx fun y r hx=>?_
    simp only[waa]at hx;have h1:=iha O W hx.1;have h2:=ihb O W hx.2;cases r with
    |nil=>exact rtw (rand h1 (qwJ (h2:RPT X y _)))
    |cons z r=>exact rtw (rand h1 (qjv h2))
 |or a b iha ihb=>
  walk_at "g0";refine qjH (fun x hx=>?_) (fun x hx=>?_) h
  · refine qoU hx fun z1 z2 p hx=>?_
    refine qhM hx fun hx=>?_
    refine qcR hx fun x z3 hx=>?_
    refine qcR hx fun y r hx=>?_
    simp only[waa]at hx;have h1:=iha O W hx.1;have h2:=ihb O W hx.2;cases r with
    |nil=>exact qAA h1 (qAB (h2:RPE X y _))
    |cons z r=>exact qAA h1 h2
  · refine qoU hx fun z1 z2 p hx=>?_
    refine qhM hx fun hx=>?_
    refine qcR hx fun x z3 hx=>?_
    refine qcR hx fun y r hx=>?_
    simp only[waa]at hx;have h1:=iha O W hx.1;have h2:=ihb O W hx.2;cases r with
    |nil=>exact rtw (ror h1 (qDl (h2:RPT X y _)))
    |cons z r=>exact rtw (ror h1 (qjv h2))
 |no a iha=>
  walk_at "g0";refine qjH (fun x hx=>?_) (fun x hx=>?_) h
  · refine qrM hx fun z1 _ _ hx=>?_
    refine qhM hx fun hx=>?_
    exact qwA (iha O W hx)
  · refine qrM hx fun z1 _ _ hx=>?_
    refine qhM hx fun hx=>?_
    exact qwv (iha O W hx)
 |ie t a b iht iha ihb=>
  walk_at "gE";refine qx2 hx fun _ _ _ _ hx=>?_
  walk_at "ga";obtain⟨⟨h1,h2⟩,h3⟩:=hx;exact rif (iht O W h1) (iha O W h2) (ihb O W h3)
 |tu a iha=>
  walk_at "gE";refine qm2 hx fun _ _ _ hx=>?_
  exact qDi (iha O W hx)
 |ll a iha=>
  walk_at "gE";refine quP hx fun _ _ hx=>?_
  exact qDn (iha O W hx)
 |lm a iha=>
  walk_at "gE";refine quP hx fun _ _ hx=>?_
  exact qDm (iha O W hx)
 |e0=>
  walk_at "g0";refine qpP (fun x hx=>?_) (fun x hx=>?_) h
  · refine qdn hx fun _=>?_
    exact qyi
  · refine qdn hx fun _=>?_
    rfl
 |ec a r iha ihr=>
  walk_at "g0";refine qpP (fun x hx=>?_) (fun x hx=>?_) h
  · refine qcR hx fun _ _ hx=>?_
    have hx:=qdB hx;exact qo4 (iha O W hx.1) (ihr O W hx.2) (qbc (qaH hx.1))
  · refine qcR hx fun _ _ hx=>?_
    have hx:=qdB hx;exact⟨_,_,rfl,iha O W hx.1,ihr O W hx.2⟩
 |ix a b iha ihb=>
  walk_at "gE";refine qhT hx fun _ _ _ hx=>?_
  walk_at "ga";obtain⟨h1,h2⟩:=hx;exact rix (iha O W h1) (ihb O W h2) (qiJ (qaH h2))
 |sl a l h0 iha ihl ihh=>
  walk_at "gE";refine qhT hx fun _ z1 _ hx=>?_
  refine quO hx fun _ _ z2 _ hx=>?_
  refine qoq hx fun hx=>?_
  walk_at "ga";obtain⟨⟨h1,h2⟩,h3⟩:=hx;exact rsl (iha O W h1) (ihl O W h2) (ihh O W h3)
 |p0=>
  walk_at "g0";refine qpN (fun x hx=>?_) h
  refine qoq hx fun hx=>?_
  exact qw0
 |p1 a iha=>
  walk_at "g0";refine qpN (fun x hx=>?_) h
  refine qop hx fun _ hx=>?_
  exact qwX (iha O W hx)
 |fl c f a iha=>
  walk_at "gE";refine qrR hx fun _ _ _ hx=>?_
  walk_at "ga";obtain⟨⟨⟨rfl,h1⟩,h2⟩,h3⟩:=hx;exact qxU (W.fs _ _ (mem_of h1)).1 (W.fs _ _ (mem_of h1)).2 (iha O W h3) (by simpa using h2)
 |ca f a iha=>
  walk_at "gE";refine qdA hx fun x p es p' hx=>?_
  simp only[waa]at hx;obtain⟨⟨h1,h2⟩,h3⟩:=hx;cases e:Γ.S.fd[f]? with
  |none=>rw[e]at h1;cases h1
  |some d=>
  rw[e]at h1;simp only[waa,beq_iff_eq]at h1;obtain⟨h1,rfl⟩:=h1;obtain⟨h2,h4⟩:=qbs h2;cases es with
  |nil=>
   have:=qrI h3;subst this;exact qqE (W.fn f d e h1) O.room (O.gl _ h2) h4
  |cons z es=>
   have ho:=qbz h3;rw[wal,waa]at ho;exact qtg (W.fn f d e h1) O.room (iha O W h3) (O.gl _ h2) h4 (qbc ho.1) (qcj ho.2)
 |me f o a iho iha=>
  walk_at "g0";cases ef:Γ.S.fd[f]? with
  |none=>
   refine qeN (r:=qbT) (by show ex _=_;rw[ef]) (fun x hx=>ql2) h
  |some d=>
   refine qeN (r:=uMe (Γ.C d.cls) d.name (Γ.fn f) (tr Γ o).E (tr Γ a).A) (by show ex _=_;rw[ef]) (fun x hx=>?_) h
   refine qhU hx fun x m ap es p hx=>?_
   rw[ef]at hx;simp only[waa,beq_iff_eq,decide_eq_true_eq]at hx;obtain⟨⟨⟨⟨⟨⟨h1,rfl⟩,h2⟩,h3⟩,h4⟩,h5⟩,h6⟩:=hx;have W1:=W.me f d ef h1;cases es with
   |nil=>
    have:=qrI h6;subst this;exact qt5 W1.2 W1.1 O.room (iho O W h5) (by simpa using h2) h3
   |cons z es=>exact qxn W1.2 W1.1 O.room (iho O W h5) (iha O W h6) (by simpa using h2) (qbz h6) h4 h3
 |mk f a iha=>
  walk_at "g0";cases ef:Γ.S.fd[f]? with
  |none=>
   refine qeN (r:=qbT) (by show ex _=_;rw[ef]) (fun x hx=>ql2) h
  |some d=>
   refine qeN (r:=qkk (Γ.C d.cls) (Γ.ini f) (tr Γ a).A) (by show ex _=_;rw[ef]) (fun x hx=>?_) h
   refine qdA hx fun x p es p' hx=>?_
   rw[ef]at hx;walk_at "ga";obtain⟨⟨⟨h1,h1'⟩,h2⟩,h3⟩:=hx;obtain⟨h2,h4⟩:=qbs h2;obtain⟨j,hj,F⟩:=W.ini f d ef h1;have C1:=W.cl _ _ h1';cases es with
   |nil=>
    have:=qrI h3;subst this;exact qqD F (O.room.mono hj) C1.2 (O.gl _ h2) h4
   |cons z es=>
    have ho:=qbz h3;rw[wal,waa]at ho;exact qs5 F (O.room.mono hj) C1.2 (iha O W h3) (O.gl _ h2) h4 (qbc ho.1) (qcj ho.2)
 |bf f a iha=>
  walk_at "gE";refine qdA hx fun x p es p' hx=>?_
  walk_at "ga";obtain⟨⟨⟨⟨⟨rfl,h1⟩,h2⟩,h3⟩,h4⟩,h5⟩:=hx;obtain⟨h3,h6⟩:=qbs h3;cases es with
  |nil=>cases h4
  |cons z es=>exact qye O.calm h1 (W.bl _ (mem_of h2)) (O.gl _ h3) h6 (iha O W h5) (qbz h5)
 |bt f a iha=>
  walk_at "gE";refine qdA hx fun x p es p' hx=>?_
  walk_at "ga";obtain⟨⟨⟨⟨⟨rfl,h1⟩,h2⟩,h3⟩,h4⟩,h5⟩:=hx;obtain⟨h3,h6⟩:=qbs h3;cases es with
  |nil=>cases h4
  |cons z es=>exact quY O.calm h1 (W.bl _ (mem_of h2)) (O.gl _ h3) h6 (iha O W h5) (qbz h5)
 |ap o a iho iha=>
  walk_at "gE";refine qhU hx fun _ _ _ z1 _ hx=>?_
  refine qdU hx fun _ hx=>?_
  walk_at "ga";obtain⟨⟨⟨⟨rfl,h1⟩,h2⟩,h3⟩,h4⟩:=hx;exact qqF (iho O W h3) (iha O W h4) (qdr (by simpa using h1)) (by rw[qgs (qbz h4)];rfl) h2 (qbc (by have:=qbz h4;rw[wal,waa]at this;exact this.1)) rfl
 |dg d k0 ihd ihk=>
  walk_at "gE";refine qhT hx fun _ _ _ hx=>?_
  walk_at "ga";obtain⟨h1,h2⟩:=hx;exact qvO (qi7 O.room) (ihd O W h1) (ihk O W h2) (qiJ (qaH h2))
 |dn neg k0 d ihk ihd=>
  walk_at "g0";refine qcT rfl (fun x hx=>?_) h
  refine qhV hx fun _ _ _ _ hx=>?_
  walk_at "ga";obtain⟨⟨h0,h1⟩,h2⟩:=hx;have g1:=ihk O W h1;have g2:=ihd O W h2;cases neg with
  |true=>rw[if_pos rfl]at h0;subst h0;exact⟨qqf (qi7 O.room) g1 g2 (qbf (qaH h2)),qnG (qi7 O.room) g1 g2 (qbf (qaH h2))⟩
  |false=>rw[if_neg (by decide)]at h0;subst h0;exact⟨qB1 (qi7 O.room) g1 g2 (qbf (qaH h2)),qvN (qi7 O.room) g1 g2 (qbf (qaH h2))⟩
 |d1 d k0 ihd ihk=>
  walk_at "gE";refine qhU hx fun _ _ _ z1 _ hx=>?_
  refine qdU hx fun _ hx=>?_
  walk_at "ga";obtain⟨⟨⟨⟨rfl,h1⟩,h2⟩,h3⟩,h4⟩:=hx;exact qsD (qi7 O.room) (ihd O W h3) (ihk O W h4) (qxo (by simpa using h1) h2 (qaH h4))
 |dk=>
  walk_at "gE";refine qrQ hx fun z1 z2 _ hx=>?_
  refine qdn hx fun hx=>?_
  refine qdn hx fun hx=>?_
  exact qwF
 |dt=>
  walk_at "gE";refine qrQ hx fun z1 z2 _ hx=>?_
  refine qdn hx fun hx=>?_
  refine qdn hx fun hx=>?_
  exact qtb
 |ic neg a x0 iha=>
  walk_at "g0";cases ef:Γ.S.gt.lookup x0 with
  |none=>
   refine qcT (r:=qbT) (by show ex _=_;rw[ef]) (fun x hx=>?_) h
   refine qhV hx fun _ _ z1 _ hx=>?_
   refine qc4 hx fun _ _ hx=>?_
   rw[ef]at hx;simp at hx
  |some ss=>
   refine qcT (r:=qsh neg ss (tr Γ a).E) (by show ex _=_;rw[ef]) (fun x hx=>?_) h
   refine qhV hx fun _ _ z1 _ hx=>?_
   refine qc4 hx fun _ _ hx=>?_
   walk_at "ga";obtain⟨⟨⟨⟨h0,rfl⟩,_⟩,h2⟩,h3⟩:=hx;obtain⟨h2,h4⟩:=qbs h2;have g:=iha O W h3;cases neg with
   |true=>rw[if_pos rfl]at h0;subst h0;exact qpK (qq6 O.room.units) (W.gt _ _ ef) g (O.gl _ h2) h4
   |false=>rw[if_neg (by decide)]at h0;subst h0;exact qpK (qDF O.room.units) (W.gt _ _ ef) g (O.gl _ h2) h4
 |tx x0 a iha=>
  walk_at "gE";refine qhT hx fun z1 _ _ hx=>?_
  refine qc4 hx fun _ _ hx=>?_
  walk_at "ga";obtain⟨⟨⟨rfl,h1⟩,h2⟩,h3⟩:=hx;exact qDj (W.tb _ (mem_of h1)) (iha O W h3) (qiJ (qaH h3)) (O.gl _ (qbs h2).1) (qbs h2).2
 |tn x0 a iha=>
  walk_at "g0";refine qjH (fun x hx=>by cases hx) (fun x hx=>?_) h
  refine qhV hx fun _ _ z1 _ hx=>?_
  refine qc4 hx fun _ _ hx=>?_
  walk_at "ga";obtain⟨⟨⟨⟨rfl,rfl⟩,h1⟩,h2⟩,h3⟩:=hx;obtain⟨h2,h5⟩:=qbs h2;exact qlw (W.tb _ (mem_of h1)) (iha O W h3) (O.gl _ h2) h5
 |cv i a iha=>
  walk_at "gE";refine qdA hx fun x p es p' hx=>?_
  walk_at "ga";obtain⟨⟨h1,h2⟩,h3⟩:=hx;cases es with
  |nil=>cases h2
  |cons z es=>
   have ho:=qbz h3;rw[wal,waa]at ho;exact qtf Γ.cvs (fun q hq=>by obtain⟨fd,ps,a1,a2,a3⟩:=W.cvs q hq;exact⟨fd,ps,k,O.room,a1,a2,a3⟩) (O.var h1) (iha O W h3) (qbc ho.1) (qcj ho.2)
 |lr a b iha ihb=>
  walk_at "gE";refine qdA hx fun _ _ z1 _ hx=>?_
  refine qdU hx fun z2 hx=>?_
  refine qdA hx fun _ _ z3 _ hx=>?_
  refine qmf hx fun _ _ hx=>?_
  walk_at "ga";obtain⟨⟨⟨⟨⟨⟨⟨rfl,rfl⟩,h1⟩,h2⟩,h3⟩,h4⟩,h5⟩,h6⟩:=hx;have s1:=qbc (es:=[]) (env:=X.env) (qaH h6);have s2:=fun r=>qbc (es:=r) (env:=X.env) (qaH h5)
  exact qs6 (W.bl _ (mem_of h1)) (W.bl _ (mem_of h2)) O.calm (iha O W h5) (ihb O W h6) (O.gl _ (qbs h3).1) (O.gl _ (qbs h4).1) (by rw[s2,s1];rfl) s1 (s2 _) s1 rfl
 |cp md tup nm cap it t e ihi iht ihe=>
  walk_at "gE";refine quQ hx fun el z1 scope p hx=>?_
  refine qdU hx fun z2 hx=>?_
  obtain⟨tg,ite,ifs,as⟩:=z2;walk_at "ga";obtain⟨⟨⟨⟨⟨⟨⟨rfl,rfl⟩,h1⟩,h2⟩,h3⟩,h4⟩,h5⟩,h6⟩:=hx;exact qtd O (qhW h2) (qsJ h1) (ihi O W h4) (fun cl C s H fp=>qfF (qgr O h2) W iht h6) (fun cl C s H fp=>ihe (qgr O h2) W h5) (qgj h3)
 |iv a iha=>
  walk_at "g0";refine qfC (fun tg x hx=>?_) h
  refine qhU hx fun _ _ _ z1 _ hx=>?_
  refine qdn hx fun hx=>?_
  walk_at "ga";obtain⟨⟨⟨rfl,h1⟩,h2⟩,h3⟩:=hx;exact qxH (iha O W h3) (qdr (by simpa using h1)) h2
 |im a iha=>
  walk_at "g0";refine qfC (fun tg x hx=>?_) h
  refine qhU hx fun x m ap z p hx=>?_
  refine qdn hx fun hx=>?_
  walk_at "ga";obtain⟨⟨⟨⟨h0,rfl⟩,h1⟩,h2⟩,h3⟩:=hx;exact Expr.Tuple.elim tg h0 fun _ _ _=>quB (iha O W h3) (qdr (by simpa using h1)) h2
 |pr i j a iha=>
  walk_at "gS";refine qef hx fun z1 z2 pos hx=>?_
  refine qm2 hx fun z3 kt pt hx=>?_
  refine qmf hx fun z4 z5 hx=>?_
  refine qc4 hx fun x px hx=>?_
  refine qc4 hx fun y py hx=>?_
  refine qm2 hx fun z6 k2 pt2 hx=>?_
  refine qmf hx fun u v hx=>?_
  simp only[waa,beq_iff_eq,bne_iff_ne,ne_eq]at hx;obtain⟨⟨⟨⟨⟨⟨⟨⟨⟨⟨rfl,h1⟩,h2⟩,h3⟩,h4⟩,h5⟩,h6⟩,h7⟩,h8⟩,h9⟩,h10⟩:=hx;obtain⟨hsc,nd,hl,hf,_,hb,hk⟩:=O.fn rfl;exact qCR O.calm (by rw[O.hN];exact nd) (by rw[O.hN];exact h1) (by rw[O.hN];exact h2) h3 (by rw[hsc];exact h4) (by rw[hsc];exact h5) (iha O W h10) (qv8 hb (by rw[hk];exact h4) (by rw[hk];exact h5) h6 (by simpa using h7) (qbz h10) ((Bool.not_eq_true' _).mp h8) ((Bool.not_eq_true' _).mp h9))
 |dd d k0 ihd ihk=>
  walk_at "gS";refine qv1 hx fun z1 _ hx=>?_
  refine qdU hx fun z2 hx=>?_
  refine qhT hx fun _ _ _ hx=>?_
  simp only[waa]at hx;exact qwe (ihd O W hx.1) (ihk O W hx.2)
 |is a iha=>
  walk_at "g0";refine qfC (fun tg x hx=>?_) h
  simp only[waa]at hx;exact qDK (iha O W hx.2)
 |st a iha=>
  walk_at "g0";refine qfC (fun tg x hx=>?_) h
  simp only[waa]at hx;exact qDJ (iha O W hx.2)
 |r1 a iha=>
  walk_at "g0";refine qfC (fun tg x hx=>?_) h
  refine qdA hx fun _ _ z1 _ hx=>?_
  refine qdU hx fun _ hx=>?_
  walk_at "ga";obtain⟨⟨⟨rfl,h1⟩,h2⟩,h3⟩:=hx;have s1:=qbc (es:=[]) (env:=X.env) (qaH h3);exact quA (W.bl _ (mem_of h1)) (iha O W h3) (O.gl _ (qbs h2).1) s1 s1
 |set i a iha=>
  walk_at "gS";refine qef hx fun z1 e p' hx=>?_
  refine qc4 hx fun x p hx=>?_
  simp only[waa,beq_iff_eq,Bool.or_eq_true]at hx;obtain⟨⟨⟨rfl,h1⟩,h2⟩,h3⟩:=hx;rcases h2 with h2|h2
  · exact O.setN h1 (iha O W h3) (qda (qaH h3) (by simpa using h2))
  · by_cases hc:isC e=true
    · cases e<;>first|(cases hc;done)|skip
      exact O.setN h1 (iha O W h3) (qv7 O h2)
    · exact O.setN h1 (iha O W h3) (qda (qaH h3) (by simpa using hc))
 |sc i md tup nm cap it t e ihi iht ihe=>
  walk_at "gS";refine qef hx fun z1 z2 p3 hx=>?_
  refine qc4 hx fun x p hx=>?_
  refine quQ hx fun el z3 scope p2 hx=>?_
  refine qdU hx fun z4 hx=>?_
  obtain⟨tg,ite,ifs,as⟩:=z4;walk_at "ga";obtain⟨⟨⟨⟨⟨⟨⟨⟨⟨⟨⟨rfl,h1⟩,h2⟩,h3⟩,h4⟩,rfl⟩,h5⟩,h6⟩,h7⟩,h8⟩,h9⟩,h10⟩:=hx;exact qsW O i (qhW h6) (qsJ h5) (ihi O W h8) (fun cl C s H fp=>qfF (qgr O h6) W iht h10) (fun cl C s H fp=>ihe (qgr O h6) W h9) (qgj h7) h1 (qv6 O h2 h3 (by simpa using h4))
 |un is a iha=>
  walk_at "gS";refine qef hx fun z1 e p' hx=>?_
  refine qm2 hx fun es j p hx=>?_
  simp only[waa]at hx;obtain⟨⟨⟨⟨rfl,h1⟩,h2⟩,h3⟩,h4⟩:=hx;have hw:swappedStores [.Tuple es j p] e X.env=pure none:=by cases e<;>first|rfl|cases h3
  exact qAx (iha O W h4) (gT O h1) (qjn (qaH h4) (by simpa using h2)) hw rfl
 |sf c f o a iho iha=>
  walk_at "gS";refine qef hx fun z1 _ _ hx=>?_
  refine qrR hx fun _ _ _ hx=>?_
  walk_at "ga";obtain⟨⟨⟨⟨rfl,h1⟩,h2⟩,h3⟩,h4⟩:=hx;exact qwc (W.fs _ _ (mem_of h1)).1 (W.fs _ _ (mem_of h1)).2 (iho O W h3) (iha O W h4) (qda (qaH h4) (by simpa using h2))
 |dp d k0 a ihd ihk iha=>
  walk_at "gS";refine qef hx fun z1 _ _ hx=>?_
  refine qhT hx fun _ _ _ hx=>?_
  walk_at "ga";obtain⟨⟨⟨h1,h2⟩,h3⟩,h4⟩:=hx;exact qsA (qi7 O.room) (ihd O W h2) (ihk O W h3) (iha O W h4) (qda (qaH h4) (by simpa using h1))
 |sp l i a ihl ihi iha=>
  walk_at "gS";refine qef hx fun z1 _ _ hx=>?_
  refine qhT hx fun _ _ _ hx=>?_
  walk_at "ga";obtain⟨⟨⟨h1,h2⟩,h3⟩,h4⟩:=hx;exact qAx (iha O W h4) (qDT (ihl O W h2) (ihi O W h3) qw9 (qr8 (qaH h3))) (qjn (qaH h4) (by simpa using h1)) rfl rfl
 |re a iha=>
  walk_at "gS";refine qvS hx fun z1 _ hx=>?_
  refine qop hx fun _ hx=>?_
  exact qCQ (iha O W hx)
 |if_ t a b iht iha ihb=>
  walk_at "gS";refine qvW hx fun _ _ _ _ hx=>?_
  walk_at "ga";obtain⟨⟨h1,h2⟩,h3⟩:=hx;exact sif (iht O W h1) (iha O W h2) (ihb O W h3)
 |fo tup is it b ihi ihb=>
  walk_at "gS";refine qvX hx fun tg x y z1 p hx=>?_
  refine qdn hx fun hx=>?_
  simp only[waa]at hx;obtain⟨⟨⟨⟨rfl,h1⟩,h2⟩,h3⟩,h4⟩:=hx;have hp:=(O.fn rfl).2.2.2.2.1;have g3:=ihi O W h3;revert g3;cases tup with
  |true=>exact qm2 h2 fun es _ _ h2 g3=>qAw hp O.calm g3 (gT O h2) (ihb O W h4) (qgj h1)
  |false=>
   refine qc4 h2 fun z _ h2=>?_
   exact qdU h2 fun i h2 g3=>qAw hp O.calm g3 (O.gN (by simpa using h2)) (ihb O W h4) (qgj h1)
 |ex a iha=>
  walk_at "gS";refine qvY hx fun _ _ hx=>?_
  walk_at "ga";obtain⟨h1,h2⟩:=hx;exact qwd (iha O W h2) (qda (qaH h2) (by simpa using h1))
 |ra=>
  intro fc N sc X O W nd h;cases nd<;>first|exact qCT|exact qwb|exact absurd h wau
 |se a b iha ihb=>
  walk_at "g0";refine qpO (fun x hx=>?_) h
  refine qcR hx fun _ _ hx=>?_
  walk_at "ga";obtain⟨h1,h2⟩:=hx;exact qwf (t:=(tr Γ a).S) (u:=(tr Γ b).S) (iha O W h1) (ihb O W h2)
 |en=>
  walk_at "g0";refine qpO (fun x hx=>?_) h
  refine qdn hx fun hx=>?_
  exact qCS
 |rv a iha=>
  walk_at "gE";refine qhT hx fun _ _ _ hx=>?_
  refine quO hx fun _ _ _ _ hx=>?_
  refine qoq hx fun hx=>?_
  refine qoq hx fun hx=>?_
  refine qop hx fun _ hx=>?_
  refine qrM hx fun _ _ _ hx=>?_
  refine qhM hx fun hx=>?_
  refine qkQ hx fun _ _ _ hx=>?_
  refine qhM hx fun hx=>?_
  exact qDk (iha O W hx) (run qDB ri)
 |ig x0=>
  walk_at "g0";refine qfC (fun tg x hx=>?_) h
  refine qc4 hx fun _ _ hx=>?_
  walk_at "ga";obtain⟨⟨rfl,h1⟩,h2⟩:=hx;obtain⟨h2,h3⟩:=qbs h2;obtain⟨ss,e⟩:=waS.mp h1;show RPI X tg _ (match Γ.S.gt.lookup x0 with|some ss=>qvp ss|none=>fun _ _ _=>False)
  rw[e];exact qDL (W.gt _ _ e) (O.gl _ h2) h3
 |dy ks a iha=>
  walk_at "gE";refine qrQ hx fun _ _ _ hx=>?_
  simp only[waa,decide_eq_true_eq,beq_iff_eq]at hx;obtain⟨⟨⟨⟨⟨h1,h2⟩,h3⟩,h4⟩,h5⟩,h6⟩:=hx;obtain⟨i1,i2,i3,i4⟩:=qsr h1 h5 (iha O W h6);exact qwG i1 (by rw[i2];exact h4) (by rw[<-wab (f:=(·.1)),i2];exact h3) i4 (by rw[i3,h5]) (by intro z;rw[z]at i3;cases ks with|nil=>cases h2|cons _ _=>cases i3) (by rw[i3];exact h3)
structure Prg where
 S:SI
 tb:Str->LKR
 C:Nat->Addr
 cv:List (Addr×Nat)
def Prg.G(p:Prg)(f f':Nat->RSp):G:=⟨p.S,p.tb,p.C,f,f',p.cv.map fun q=>(q.1,f q.2)⟩
def qAz(Γ:G)(d:FD):RSp:=fun rs M Q=>rs.length=d.ps.length/\(tr Γ d.body).S { nx:=fun _ M'=>Q .non M',rt:=Q } (qbS d.N rs) M
def qqn(p:Prg)(f f':Nat->RSp)(i:Nat):RSp:=match p.S.fd[i]? with
 |some d=>qAz (p.G f f') d
 |none=>fun _ _ _=>False
def qqs(p:Prg):Nat->(Nat->RSp)×(Nat->RSp)
 |0=>(fun _ _ _ _=>False,fun _ _ _ _=>False)
 |n+1=>(qqn p (qqs p n).1 (qqs p n).2,(qqs p n).1)
def sem(p:Prg)(n:Nat):Nat->RSp:=(qqs p n).1
def Prg.Gn(p:Prg)(n:Nat):R.G:=p.G (sem p n) (qqs p n).2
theorem qjq{p:Prg}{n i:Nat}{d:FD}(h:p.S.fd[i]? =some d):sem p (n+1) i=qAz (p.Gn n) d:=by
 show qqn p _ _ i=_;unfold qqn;rw[h];rfl
structure HdF(K:Frg)(mg:SOV)(S:SI)(C:Nat->Addr)(d:FD)(g:Addr)(fd:FuncData):Prop where
 ex:∃ (qual:Str) (st:Stmt),Fun K d.name qual st g fd/\qds d.N d.ps (qax st)/\qqa d.N (qax st)/\mt S true d.N (qax st) d.body (.b (qcA st))=true
 bd:Binds K fd d.ps []
 k0:d.kind=0->mg d.name=some (.ref g)
 k1:d.kind=1->Cls K (C d.cls)/\Meth K (C d.cls) d.name g
 k2:d.kind=2->Mk K (C d.cls) g
structure Hd(P:Program)(w:World)(K:Frg)(mg:SOV)(p:Prg):Prop where
 bl:∀ x∈p.S.bl,mg x=none
 gi:∀ x i,p.S.gi.lookup x=some i->qyj mg x i
 gt:∀ x l,p.S.gt.lookup x=some l->qsa K mg x l
 tb:∀ x∈p.S.tb,KTab P w K mg x (p.tb x)
 tt:∀ x l,p.S.tt.lookup x=some l->qsc P w K mg x l
 cl:∀ (i:Nat) c,p.S.cl[i]? =some c->Cls K (p.C i)/\mg c=some (.ref (p.C i))
 fs:∀ c f,(c,f)∈p.S.fs->Cls K (p.C c)/\NoAttr K (p.C c) f
 fns:∀ (i:Nat) d,p.S.fd[i]? =some d->∃ g fd,HdF K mg p.S p.C d g fd
 cv:∀ q∈p.cv,∃ d,p.S.fd[q.2]? =some d/\d.kind=0/\mg d.name=some (.ref q.1)
section
variable {P:Program}{w:World}{K:Frg}{mg:SOV}{p:Prg}{base:Heap}
theorem qjC{k:Nat}{g:Addr}{fd:FuncData}{ps:LSt}:qdC P w K mg base CX0 k g fd ps (qgt K fun _ _ _=>False) where
 len:=fun vs H Q E h=>by obtain⟨rs,M,Q',_,_,h,_⟩:=h;exact h.elim
 run:=fun A outer s H args us vs Q E _ _ _ _ h=>by obtain⟨rs,M,Q',_,_,h,_⟩:=h;exact h.elim
theorem qvH{n:Nat}(H:Hd P w K mg p)(L:∀ (i:Nat) d g fd,p.S.fd[i]? =some d->HdF K mg p.S p.C d g fd->qdC P w K mg base CX0 (n+1) g fd d.ps (qgt K (sem p n i))/\qdC P w K mg base CX0 n g fd d.ps (qgt K ((qqs p n).2 i))):Wd P w K mg base (p.Gn n) (n+1) where
 bl:=H.bl
 gi:=H.gi
 gt:=H.gt
 tb:=H.tb
 tt:=H.tt
 cl:=H.cl
 fs:=H.fs
 fn:=fun i d e hk=>by
  obtain⟨g,fd,F⟩:=H.fns i d e;obtain⟨q,st,F1,_⟩:=F.ex;exact⟨g,fd,F.k0 hk,F1.kp,F.bd,(L i d g fd e F).1⟩
 me:=fun i d e hk=>by
  obtain⟨g,fd,F⟩:=H.fns i d e;exact⟨(F.k1 hk).1,⟨g,fd,(F.k1 hk).2,F.bd,(L i d g fd e F).1⟩⟩
 ini:=fun i d e hk=>by
  obtain⟨g,fd,F⟩:=H.fns i d e;exact⟨n,wac _,⟨g,fd,F.k2 hk,F.bd,(L i d g fd e F).2⟩⟩
 cvs:=fun q hq=>by
  obtain⟨q0,h0,rfl⟩:=wan.mp hq;obtain⟨d,e,hk,hm⟩:=H.cv q0 h0;obtain⟨g,fd,F⟩:=H.fns q0.2 d e;have:=(F.k0 hk).symm.trans hm;cases this;obtain⟨q,st,F1,_⟩:=F.ex;exact⟨fd,d.ps,F1.kp,F.bd,(L q0.2 d _ fd e F).1⟩
theorem lev(H:Hd P w K mg p):∀ (n:Nat) (i:Nat) d g fd,p.S.fd[i]? =some d->HdF K mg p.S p.C d g fd->qdC P w K mg base CX0 (n+1) g fd d.ps (qgt K (sem p n i))/\qdC P w K mg base CX0 n g fd d.ps (qgt K ((qqs p n).2 i))
 |0,i,d,g,fd,e,F=>⟨qjC,qjC⟩
 |n+1,i,d,g,fd,e,F=>by
  refine⟨?_,(lev H n i d g fd e F).1⟩;rw[qjq e];obtain⟨qual,st,F1,S1,N1,m1⟩:=F.ex;refine qwE F1 S1 (fun rs M Q h=>h.1) (fun cdv A outer s H0 E hr=>?_) fun rs M Q h=>h.2
  have O:OkX (n+1) true d.N (qax st) (qpU CX0 P w K mg base d.N qual (qax st) g cdv A outer s H0 E).nox:=by
   refine⟨rfl,fun x hx=>⟨?_,?_⟩,fun x h=>h,rfl,hr,fun _=>⟨rfl,N1.nd,N1.loc,fun _=>rfl,PassesOwn.never,?_,fun x=>rfl⟩⟩
   · exact(N1.loc x hx).elim .inl fun z=>.inr (.inl z)
   · have:=N1.dbg x hx
     unfold dbg;rw[this.1,this.2];rfl
   · show(if(qax st).kind.isAnnotationScope then ScopeKind.function else(qax st).kind)=_
     rw[S1.kind];rfl
  exact sound d.body O (qvH H (lev H n)) m1
end
end R
namespace HD
open PySem PySem.W PyProof.Rows
def qvQ(p:Program)(i:Nat):Stmt:=p.main.body.getD i (.Pass ⟨0,0,0,0⟩)
def sub(s:Stmt)(i:Nat):Stmt:=match s with
 | .ClassDef (body:=b) ..=>b.getD i (.Pass ⟨0,0,0,0⟩)
 |s=>s
def qA8(s:Stmt):Arguments:=match s with
 | .FunctionDef (args:=a) ..=>a
 |_=>default
def qsm(s:Stmt):List Stmt:=match s with
 | .FunctionDef (body:=b) ..=>b
 |_=>[]
def qA7(s:Stmt):Scope:=match s with
 | .FunctionDef (scope:=c) ..=>c
 |_=>default
noncomputable abbrev e1 (P:Params) (x:String) (t:Tok) (v:Value):DictEntry:=⟨PyData.keyHash P x,.str x t,v⟩
noncomputable abbrev nsO (es:List DictEntry) (n:Nat):Obj:=⟨.type "dict",none,.dict es.toArray n,#[]⟩
noncomputable abbrev tbO (vs:LVl):Obj:=⟨.none,none,.fields vs.toArray,#[]⟩
noncomputable abbrev coO (vs:LVl):Obj:=⟨.type "code",none,.fields vs.toArray,#[]⟩
noncomputable abbrev tup (xs:LVl):Obj:=⟨.type "tuple",none,.seq xs.toArray 0,#[]⟩
noncomputable abbrev fnO (n q:String) (s:Stmt) (pm cd:Value):Obj:=⟨.type "function",none,.func { name:=n,qualname:=q,params:=qA8 s,body:=.stmts (qsm s),scope:=qA7 s,globals:=3,closure:=[],defaults:=.none,kwdefaults:=.none,doc:=.none,pyModule:=pm,annotations:=none,code:=cd,closureTuple:=.none,builtins:=0 },#[]⟩
noncomputable abbrev tfO (n q:String) (s:Stmt):Obj:=⟨.none,none,.func { name:=n,qualname:=q,params:=qA8 s,body:=.stmts (qsm s),scope:=qA7 s,globals:=0,closure:=[],defaults:=.none,kwdefaults:=.none,doc:=.none,pyModule:=.none,annotations:=none,code:=.none,closureTuple:=.none,builtins:=0 },#[]⟩
structure DF where
 n:String
 q:String
 s:Stmt
 a:Nat
 t:Nat
 l:Nat
 c:Nat
 xs:List String
 pm:Value
noncomputable def df (n q:String)(s:Stmt)(a t l c:Nat)(xs:List String)(pm:Value):DF:=⟨n,q,s,a,t,l,c,xs,pm⟩
def qpe:Nat->List String->LVl
 |_,[]=>[]
 |t,x::xs=>.str x t::qpe (t+1) xs
def DF.co(d:DF):Obj:=coO [.str d.n d.t,.str d.q (d.t+1),.str "/claim/cut.py" (d.t+2),.int d.l 0,.int d.c 0,.int 0 0,.int 0 0,.int 3 0,.ref d.a,.bool true,.int 181 0,.ref (d.a+1),.none,.ref (d.a+2),.ref (d.a+3),.ref (d.a+4),.int (d.t+3+d.xs.length:Nat) 0,.int d.l 0,.str "/claim/cut.py" (d.t+4+d.xs.length)]
def DF.fn(d:DF):Obj:=fnO d.n d.q d.s d.pm (.ref (d.a+5))
def DF.objs(d:DF):List Obj:=[tup [],tbO [],tup (qpe (d.t+3) d.xs),tup [],tfO d.n d.q d.s,d.co,d.fn]
def treeOf(l:List Obj):BT:=(l.foldl (fun(x:BT×Nat) o=>(x.1.ins x.2 o,x.2+1)) (.nil,0)).1
theorem qpQ{tb:String->Option Builtin}{p:Program}{w:World}{n₀:Nat}{an:OVl}{b:Nat}:∀ {n m:Nat} {s s':SharedT} {t t':Thread} {r:Option (SharedT×Thread)},
 segGoT tb p w n₀ an b n s t=some (s',t')->segGoT tb p w n₀ an b m s' t'=r->segGoT tb p w n₀ an b (n+m) s t=r
 |0,m,s,s',t,t',r,h,k=>by
  simp only[segGoT,Option.some.injEq,Prod.mk.injEq]at h;obtain⟨rfl,rfl⟩:=h;rw[Nat.zero_add];exact k
 |n+1,m,s,s',t,t',r,h,k=>by
  have e:n+1+m=(n+m)+1:=by omega
  rw[e];simp only[segGoT]at h ⊢;split at h
  · cases h
  · rename_i he
    split at h
    · cases h
    · rename_i hk
      split at h
      · rename_i s2 t2 hs
        exact qpQ h k
      · cases h
theorem qlu{tb:String->Option Builtin}{p:Program}{w:World}{n₀:Nat}{an:OVl}{b:Nat}:∀ {n m:Nat} {s s':SharedT} {t t':Thread} {r:Flow×SharedT×Code×Pos},
 segGoT tb p w n₀ an b n s t=some (s',t')->segRunT tb p w n₀ an b m s' t'=some r->segRunT tb p w n₀ an b (n+m) s t=some r
 |0,m,s,s',t,t',r,h,k=>by
  simp only[segGoT,Option.some.injEq,Prod.mk.injEq]at h;obtain⟨rfl,rfl⟩:=h;rw[Nat.zero_add];exact k
 |n+1,m,s,s',t,t',r,h,k=>by
  have e:n+1+m=(n+m)+1:=by omega
  rw[e];simp only[segGoT]at h;simp only[segRunT];split at h
  · cases h
  · rename_i he
    split at h
    · cases h
    · rename_i hk
      split at h
      · rename_i s2 t2 hs
        exact qlu h k
      · cases h
theorem qjr{tb:String->Option Builtin}{p:Program}{w:World}{n₀:Nat}{an:OVl}{b:Nat}(k:Nat):∀ {n:Nat} {s:SharedT} {t:Thread} {r:Flow×SharedT×Code×Pos},
 segRunT tb p w n₀ an b n s t=some r->segRunT tb p w n₀ an b (n+k) s t=some r
 |0,s,t,r,h=>by cases h
 |n+1,s,t,r,h=>by
  have e:n+1+k=(n+k)+1:=by omega
  rw[e];simp only[segRunT]at h ⊢;split at h
  · exact h
  · rename_i he
    split at h
    · cases h
    · rename_i hk
      split at h
      · exact qjr k h
      · cases h
def Rn{α:Type}(p:Program)(w:World)(n₀:Nat)(an:OVl)(c:Code)(F:List Frame)(m:Nat)(x:Sem α)(ps:Pos)(s:SharedT)(a:α)(ps':Pos)(s':SharedT):Prop:=
 ∀ (K:α->Sem Fin) (H:Value->Sem Fin) (lv:LVl->LVl),∃ n,n<=m/\segGoT treeTable p w n₀ an 1 n s ⟨x.wrap K H id lv,c,ps,F⟩=some (s',⟨K a,c,ps',F⟩)
section
variable {α β:Type}{p:Program}{w:World}{n₀:Nat}{an:OVl}{c:Code}{F:List Frame}{m m1 m2:Nat}{ps ps1 ps2 ps':Pos}{s s1 s2 s':SharedT}
theorem Rn.more{x:Sem α}{a:α}(h:Rn p w n₀ an c F m1 x ps s a ps' s')(e:m1<=m):Rn p w n₀ an c F m x ps s a ps' s':=fun K H lv=>by
 obtain⟨n,hn,h⟩:=h K H lv;exact⟨n,waw hn e,h⟩
theorem qaM{a:α}:Rn p w n₀ an c F m (pure a) ps s a ps s:=fun K H lv=>⟨0,Nat.zero_le _,rfl⟩
theorem qaj{x:Sem α}{f:α->Sem β}{a:α}{b:β}(h1:Rn p w n₀ an c F m1 x ps s a ps1 s1)(h2:Rn p w n₀ an c F m2 (f a) ps1 s1 b ps2 s2):Rn p w n₀ an c F (m1+m2) (x >>= f) ps s b ps2 s2:=fun K H lv=>by
 obtain⟨n1,l1,e1⟩:=h1 (fun a=>(f a).wrap K H id lv) H lv
 obtain⟨n2,l2,e2⟩:=h2 K H lv;refine⟨n1+n2,Nat.add_le_add l1 l2,?_⟩;rw[Sem.bind_eq_wrap',Sem.wrap_wrap];exact qpQ e1 e2
theorem qqB{x:Sem α}{a:α}{vs:LVl}(h:Rn p w n₀ an c F m x ps s a ps' s'):Rn p w n₀ an c F m (x.keep vs) ps s a ps' s':=fun K H lv=>by
 obtain⟨n,l,e⟩:=h K H (fun r=>lv (vs++r))
 refine⟨n,l,?_⟩;rw[Sem.keep_eq_wrap,Sem.wrap_wrap];exact e
theorem qbA{x:Sem α}{a:α}{vs:LVl}(h:Rn p w n₀ an c F m x ps s a ps' s'):Rn p w n₀ an c F m (holding vs x) ps s a ps' s':=by
 unfold holding;split
 · exact h
 · exact qqB h
theorem qek{x:Sem α}{a:α}{n:Nat}(h:∀ (K:α->Sem Fin) (H:Value->Sem Fin) (lv:LVl->LVl),segGoT treeTable p w n₀ an 1 n s ⟨x.wrap K H id lv,c,ps,F⟩=some (s',⟨K a,c,ps',F⟩)):Rn p w n₀ an c F n x ps s a ps' s':=
 fun K H lv=>⟨n,wac _,h K H lv⟩
theorem qiv{b:β}{f:α->β->Sem (ForInStep β)}:∀ {xs:List α},(∀ x∈xs,Rn p w n₀ an c F m (f x b) ps s (.yield b) ps s)->Rn p w n₀ an c F (m*xs.length) (forIn xs b f) ps s b ps s
 | [],_=>by rw[List.forIn_nil];exact qaM
 |x::xs,h=>by
  rw[wa9];have h1:=h x (waz ..);have h2:=qiv (xs:=xs) fun y hy=>h y (waq _ hy)
  have e:m*(x::xs).length=m+m*xs.length:=by rw[wah,Nat.mul_succ,Nat.add_comm]
  rw[e];exact qaj h1 h2
end
section
variable {p:Program}{w:World}{n₀:Nat}{an:OVl}{c:Code}{F:List Frame}{ps:Pos}{s:SharedT}{m L:Nat}
theorem qk7{a:Addr}{st:LVl}(hL:st.length<=L)(hq:Rn p w n₀ an c F m (eqIsQuiet 8 (.ref a)) ps s true ps s)
 (hs:∀ v∈st,Rn p w n₀ an c F m (eqIsQuiet 8 v) ps s true ps s):Rn p w n₀ an c F (m+m*L) (tableMayTell (.ref a) st) ps s false ps s:=by
 unfold tableMayTell;split
 · exact qaM
 · refine Rn.more (qaj hq (m2:=m*st.length) ?_) (Nat.add_le_add_left (Nat.mul_le_mul_left _ hL) _)
   rw[if_neg (by decide)]
   refine Rn.more (qaj (m2:=0) (qiv (m:=m) fun v hv=>?_) ?_) (wac _)
   · refine Rn.more (qaj (m2:=0) (hs v hv) ?_) (wac _)
     rw[if_neg (by decide)]
     exact qaM
   · exact qaM
theorem find_none{d a:Addr}{h:Int}{es:Array DictEntry}{ep:Nat}(hL:es.size<=L)(rn_rule:∀ t,Rn p w n₀ an c F 1 (rule t) ps s () ps s)
 (hd:Rn p w n₀ an c F 1 (dictEntries d none) ps s es ps s) (he:Rn p w n₀ an c F 1 (dictEpoch d none) ps s ep ps s)
 (hq:Rn p w n₀ an c F m (eqIsQuiet 8 (.ref a)) ps s true ps s)
 (hk:∀ e∈es.toList,(∃ b:Addr,e.key= .ref b/\b≠a)/\Rn p w n₀ an c F m (eqIsQuiet 8 e.key) ps s true ps s/\Rn p w n₀ an c F m (eqBool e.key (.ref a)) ps s false ps s):
 Rn p w n₀ an c F (1+((m+m*L)+(m+3)*L)) (dictFind d (.ref a) h) ps s none ps s:=by
 unfold dictFind;refine qbA ?_;dsimp only[keyPart];refine qaj hd ?_;have hp:∀ i∈placesWithHash es.size (fun i=>Option.map (fun x=>x.hash) es[i]?) h,i<es.size:=fun i hi=>by
  unfold placesWithHash at hi;exact List.mem_range.mp (waR.mp hi).1
 have hpl:(placesWithHash es.size (fun i=>Option.map (fun x=>x.hash) es[i]?) h).length<=L:=by
  unfold placesWithHash;refine waw (wa3 _ _) ?_;rw[List.length_range];exact hL
 generalize placesWithHash es.size (fun i=>Option.map (fun x=>x.hash) es[i]?) h=places at hp hpl ⊢
 have hst:∀ v∈List.filterMap (fun i=>Option.map (fun x=>x.key) es[i]?) places,∃ e∈es.toList,v=e.key:=fun v hv=>by
  obtain⟨i,hi,e⟩:=List.mem_filterMap.mp hv;obtain⟨x,hx,rfl⟩:=Option.map_eq_some_iff.mp e;exact⟨x,Array.mem_toList_iff.mpr (Array.mem_of_getElem? hx),rfl⟩
 have hsl:(List.filterMap (fun i=>Option.map (fun x=>x.key) es[i]?) places).length<=L:=waw (List.length_filterMap_le _ _) hpl
 generalize List.filterMap (fun i=>Option.map (fun x=>x.key) es[i]?) places=stored at hst hsl ⊢
 have hno:∀ e∈es.toList,(e.key==Value.ref a)=false:=fun e h1=>by
  obtain⟨⟨b,h2,h3⟩,_⟩:=hk e h1;rw[h2];exact beq_eq_false_iff_ne.mpr fun q=>h3 (Value.ref.inj q)
 rw[if_neg (by simp[carriedByValue])]
 rw[if_neg (by
  rw[<-Array.any_toList,Bool.not_eq_true,List.any_eq_false];intro e h1;rw[hno e h1];simp)]
 rw[if_neg (by
  intro q;have q:=eq_of_beq q;obtain⟨e,h1,h2⟩:=hst (.ref a) (by rw[q];exact waz ..)
  have:=hno e h1;rw[<-h2]at this;simp at this)]
 refine qaj (qk7 hsl hq fun v hv=>?_) ?_
 · obtain⟨e,h1,rfl⟩:=hst v hv
   exact(hk e h1).2.1
 rw[if_neg (by simp)]
 refine Rn.more (qaj (m2:=0) (qiv (m:=m+3) fun i hi=>?_) ?_) (Nat.mul_le_mul_left _ hpl)
 · have hi':=hp i hi
   have hg:es[i]? =some es[i]:=Array.getElem?_eq_getElem hi';rw[hg];dsimp only;split
   · obtain⟨_,_,hb⟩:=hk es[i] (Array.mem_toList_iff.mpr (Array.getElem_mem hi'))
     refine Rn.more (qaj he (qaj (m2:=2) hb (qaj (m2:=1) he ?_))) (by omega)
     rw[if_neg (by simp),if_neg (by decide)]
     refine Rn.more (qaj (m2:=0) (rn_rule _) ?_) (wac _);rw[if_neg (by simp)]
     exact qaM
   · exact qaM
 · exact qaM
end
section
variable {α β:Type}{p:Program}{w:World}{n₀:Nat}{an:OVl}{c:Code}{F:List Frame}{ps ps1 ps2:Pos}{s s1 s2:SharedT}{m m1 m2 m3 mf mu:Nat}
theorem qoJ{i:Int}(hr:∀ t,Rn p w n₀ an c F 1 (rule t) ps s () ps s):Rn p w n₀ an c F 1 (pyHashByItsType.reduced i) ps s (reduceHash i) ps s:=by
 unfold pyHashByItsType.reduced reduceHash;split
 · exact qaM
 · exact Rn.more (qaj (m2:=0) (hr _) qaM) (wac _)
theorem qoI{a:Addr}{i:Int}{t:Tok}(hr:∀ x,Rn p w n₀ an c F 1 (rule x) ps s1 () ps s1)(h1:Rn p w n₀ an c F m1 (cRoomFor "hash" [.ref a]) ps s () ps s)
 (h2:Rn p w n₀ an c F m2 (specialOf (.ref a) "__hash__") ps s (some (.builtin "tuple.__hash__")) ps s)
 (h3:∀ E,Rn p w n₀ an c F m3 (callSpecialIfBoundUnlessNone? (.ref a) "__hash__" E) ps s (some (.int i t)) ps s1):Rn p w n₀ an c F (m1+(m2+(m2+(m3+1)))) (pyHash (.ref a)) ps s (reduceHash i) ps s1:=by
 unfold pyHash;dsimp only;unfold pyHashByItsType;refine qaj h1 (qaj h2 ?_);rw[if_neg (by decide)]
 refine qaj h2 ?_;rw[if_neg (by decide)]
 refine qaj (h3 _) ?_;exact qoJ hr
theorem qqq{d a:Addr}{h:Int}{v:Value}(hr:∀ x,Rn p w n₀ an c F 1 (rule x) ps s1 () ps s1)(hh:Rn p w n₀ an c F m1 (pyHash (.ref a)) ps s h ps s1)(hf:Rn p w n₀ an c F mf (dictFind d (.ref a) h) ps s1 none ps s1)
 (hu:Rn p w n₀ an c F mu (updateDictKeys d (fun x=>x.push ⟨h,.ref a,v⟩) none) ps s1 () ps s2):Rn p w n₀ an c F (m1+(mf+(1+mu))) (dictSet d (.ref a) v) ps s () ps s2:=by
 unfold dictSet;refine qbA (qaj hh ?_);unfold dictSetHashed;refine qbA (qaj hf ?_);exact qaj (hr _) hu
theorem qqz{x:α}{xs:List α}{b:β}{f:α->β->Sem (ForInStep β)}(h1:Rn p w n₀ an c F m1 (f x b) ps s (.yield b) ps1 s1)(h2:Rn p w n₀ an c F m2 (forIn xs b f) ps1 s1 b ps2 s2):Rn p w n₀ an c F (m1+m2) (forIn (x::xs) b f) ps s b ps2 s2:=by
 rw[wa9];exact qaj h1 h2
theorem qqA{b:β}{f:α->β->Sem (ForInStep β)}:Rn p w n₀ an c F 0 (forIn [] b f) ps s b ps s:=by
 rw[List.forIn_nil];exact qaM
theorem qwB{x y:Sem α}{a:α}(e:x=y)(h:Rn p w n₀ an c F m y ps s a ps1 s1):Rn p w n₀ an c F m x ps s a ps1 s1:=e ▸ h
end
section
theorem qq2{q:Program}{loose mods:LSt}{Xt:Shared->Bool}{h:Heap}{d:Drawn}{k:Nat}{os:OsState}
 (a:PyProof.Rows.seen (List.map (fun x=>x.name) (recsOf q)) (ownsOf q) [] ⟨h,#[],d,k,os⟩=expectedOf q) (b:h.bltView=bltViewBooted)
 (c:h.keysOk (looseW q loose) (List.map (fun x=>x.name) (recsOf q)) (List.map (fun x=>x.fst) (litsOf q)) (List.map (fun x=>x.name) (clssOf q (looseW q loose)))=true)
 (c2:h.accountedOkI mods=true) (c3:(h.isNs mainGlobals&&h.isNs builtinsNs)=true) (c4:tablesOk q h=true) (c5:Xt ⟨h,#[],d,k,os⟩=true)
 (e:tabsOk q ⟨h,#[],d,k,os⟩=true) (f:pinSeenD q (drecsOf q) ⟨h,#[],d,k,os⟩=pinGoodD (drecsOf q)) (g:plainSeenE q (looseW q loose) ⟨h,#[],d,k,os⟩=plainGoodE q (looseW q loose)) (g2:plainSeenD q loose ⟨h,#[],d,k,os⟩=plainGoodD q loose)
 (g3:wideSeen q ⟨h,#[],d,k,os⟩=wideGood q) (g4:clsSeenW q loose ⟨h,#[],d,k,os⟩=clsGoodW q loose):openSeen q loose mods Xt true ⟨h,#[],d,k,os⟩=openGood q loose:=by
 rw[waa]at c3;unfold openSeen openGood;dsimp only;rw[a,b,c,c2,c3.1,c3.2,c4,c5,e,f,g,g2,g3,g4];rfl
end
end HD
namespace R
open PySem PySem.Spec PyProof.Rows L2
def qrz:Stmt->Bool
 | .FunctionDef ..=>true
 |_=>false
structure FA where
 n:String
 q:String
 s:Stmt
 g:Addr
 c:Addr
 pm:Value
def FA.fn(D:FA):Obj:=HD.fnO D.n D.q D.s D.pm (.ref D.c)
def fdOf(D:FA):FuncData:=PySem.W.fnOf D.n D.q (qmY D.s) (qcA D.s) (qax D.s) .none .none .none D.pm none (.ref D.c) .none
theorem qxT{D:FA}(h:qrz D.s=true):D.fn=⟨.type "function",none,.func (fdOf D),#[]⟩:=by
 unfold FA.fn fdOf;cases e:D.s<;>rw[e]at h<;>first|rfl|cases h
theorem quG{K:Frg}{D:FA}(h:qrz D.s=true)(l:K.lookup D.g=some D.fn)(c:PySem.W.codeIn K (.ref D.c) D.q=true)(k:PySem.W.keepIn K (.ref D.g)=true):Fun K D.n D.q D.s D.g (fdOf D):=
 ⟨⟨_,_,_,_,_,_,_,_,_,rfl,by rw[l,qxT h],c⟩,k⟩
def qxs(o:Option NameKind):Bool:=match o with
 |some .local=>true
 |some .cell=>true
 |_=>false
theorem qrc{o:Option NameKind}(h:qxs o=true):o=some .local∨o=some .cell:=by
 unfold qxs at h;split at h
 · exact .inl rfl
 · exact .inr rfl
 · cases h
def qxR:NameKind->Bool
 | .free=>false
 |_=>true
def qlf(N ps:LSt)(sc:Scope):Bool:=(match sc.kind with| .function=>true|_=>false)&& !sc.isCoroutine&& !sc.isGenerator&&decide N.Nodup&&decide (N.take ps.length=ps)&&sc.names.all (fun y=>qxR y.2)&&N.all (fun x=>qxs (sc.names.lookup x)&& !(x==("__debug__":Str))&& !(x==("__classdict__":Str)))
theorem qnP{N ps:LSt}{sc:Scope}(h:qlf N ps sc=true):qds N ps sc/\qqa N sc:=by
 unfold qlf at h;simp only[waa,Bool.not_eq_true',decide_eq_true_eq,wav]at h;obtain⟨⟨⟨⟨⟨⟨h1,h2⟩,h3⟩,h4⟩,h5⟩,h6⟩,h7⟩:=h;have l:∀ x∈N,sc.names.lookup x=some .local∨sc.names.lookup x=some .cell:=fun x hx=>qrc (h7 x hx).1.1
 refine⟨⟨?_,h2,h3,h4,h5,fun x hx=>l x ?_,fun y hy=>?_⟩,⟨h4,l,fun x hx=>⟨(h7 x hx).1.2,(h7 x hx).2⟩⟩⟩
 · revert h1;cases sc.kind<;>simp
 · rw[<-h5]at hx;exact List.mem_of_mem_take hx
 · have:=h6 y hy
   intro z;rw[z]at this;cases this
def qsl:Option (OVl)->Bool
 |some none=>true
 |_=>false
theorem qmo{o:Option (OVl)}(h:qsl o=true):o=some none:=by
 unfold qsl at h;split at h
 · rfl
 · cases h
def qvA(i:Int):Option (OVl)->Bool
 |some (some (.int j _))=>j==i
 |_=>false
theorem qrs{i:Int}{o:Option (OVl)}(h:qvA i o=true):∃ t,o=some (some (.int i t)):=by
 unfold qvA at h;split at h
 · rename_i j t;exact⟨t,by rw[eq_of_beq h]⟩
 · cases h
def qpJ(a:Addr):Option (OVl)->Bool
 |some (some (.ref b))=>b==a
 |_=>false
theorem qeL{a:Addr}{o:Option (OVl)}(h:qpJ a o=true):o=some (some (.ref a)):=by
 unfold qpJ at h;split at h
 · rw[eq_of_beq h]
 · cases h
def qxI:Option (OVl)->Bool
 |some (some (.builtin "object.__setattr__"))=>true
 |_=>false
theorem qrt{o:Option (OVl)}(h:qxI o=true):o=some (some (.builtin "object.__setattr__")):=by
 unfold qxI at h;split at h
 · rfl
 · cases h
def qnM:LSt->LVl->Bool
 | [],[]=>true
 |x::xs,.str y _::ys=>(x==y)&&qnM xs ys
 |_,_=>false
theorem qla:∀ {ss:LSt} {vs:LVl},qnM ss vs=true->Vals (ss.map V.str) vs
 | [],[],_=>.nil
 |x::xs,.str y t::ys,h=>by
  unfold qnM at h;rw[waa]at h;cases eq_of_beq h.1;exact .cons ⟨t,rfl⟩ (qla h.2)
def qvj(K:Frg)(ss:LSt):Option (OVl)->Bool
 |some (some (.ref a))=>match K.lookup a with
  |some ⟨.type "tuple",_,.seq its _,_⟩=>decide (its.size<=100)&&qnM ss its.toList
  |_=>false
 |_=>false
theorem qsH{K:Frg}{h:Heap}{mg:SOV}{x:Str}{ss:LSt}(X:K.In h)(G:h.Ns mainGlobals mg)(e:qvj K ss (PySem.W.nsIn K mainGlobals x)=true):qsa K mg x ss:=by
 unfold qvj at e;split at e
 · rename_i a ea
   split at e
   · rename_i its n d sl el
     rw[waa,decide_eq_true_eq]at e;exact qqh (waW X G ea) el (waw e.1 (by decide)) (qla e.2)
   · cases e
 · cases e
def qrU(K:Frg)(C:Addr):Bool:=wa6 K C Str.empty&&wba K C&&PySem.W.plainOver K C&&qxI (PySem.W.findIn K (.ref C) "__setattr__")
theorem qm7{K:Frg}{C:Addr}(h:qrU K C=true):Cls K C:=by
 unfold qrU at h;simp only[waa]at h;exact⟨h.1.1.1,h.1.1.2,h.1.2,qrt h.2⟩
noncomputable def qsm (K:Frg)(C:Nat->Addr)(d:FD)(D:FA):Bool:=qrz D.s&&PySem.W.codeIn K (.ref D.c) D.q&&PySem.W.keepIn K (.ref D.g)&&qlf d.N d.ps (qax D.s)&&decide (d.name=(D.n:Str))&&
 (match d.kind with
  |0=>qpJ D.g (PySem.W.nsIn K mainGlobals d.name)
  |1=>qrU K (C d.cls)&&qpJ D.g (PySem.W.findIn K (.ref (C d.cls)) d.name)&&PySem.W.isFn K (.ref D.g)
  |2=>PySem.W.makesIn K (C d.cls)&&qpJ D.g (PySem.W.findIn K (.ref (C d.cls)) "__init__")&&PySem.W.isFn K (.ref D.g)&&PySem.W.keepIn K (.ref (C d.cls))
  |_=>false)
theorem quC{K:Frg}{h:Heap}{mg:SOV}{S:SI}{C:Nat->Addr}{d:FD}{D:FA}(X:K.In h)(G:h.Ns mainGlobals mg)(b:qsm K C d D=true)(l:K.lookup D.g=some D.fn)(m:mt S true d.N (qax D.s) d.body (.b (qcA D.s))=true)
 (hb:∀ us:LVl,us.length=d.ps.length->bindArgs (fdOf D) ⟨us,[]⟩=pure (d.ps.zip us)):HdF K mg S C d D.g (fdOf D):=by
 unfold qsm at b;simp only[waa,decide_eq_true_eq]at b;obtain⟨⟨⟨⟨⟨b1,b2⟩,b3⟩,b4⟩,b5⟩,b6⟩:=b;obtain⟨s1,s2⟩:=qnP b4;refine⟨⟨D.q,D.s,b5 ▸ quG b1 l b2 b3,s1,s2,m⟩,.all hb,fun k=>?_,fun k=>?_,fun k=>?_⟩
 · rw[k]at b6;exact waW X G (qeL b6)
 · rw[k]at b6
   simp only[waa]at b6;exact⟨qm7 b6.1.1,⟨qeL b6.1.2,b6.2,b3⟩⟩
 · rw[k]at b6
   simp only[waa]at b6;exact⟨b6.1.1.1,qeL b6.1.1.2,b6.1.2,b6.2⟩
theorem qfI{α:Type}{f:α->Bool}{l:List α}(h:l.all f=true){x:α}(hx:x∈l):f x=true:=wav.mp h x hx
theorem ql7{α β:Type}{f g:α->β}:∀ {l:List α},l.map f=l.map g->∀ {x:α},x∈l->f x=g x
 |y::l,h,x,hx=>by
  rw[wae,wae]at h;injection h with h1 h2
  rcases waf.mp hx with rfl|hx
  · exact h1
  · exact ql7 h2 hx
theorem lookup_mem{β:Type}{x:Str}{y:β}:∀ {l:List (Str×β)},l.lookup x=some y->(x,y)∈l
 |(k,z)::l,h=>by
  unfold List.lookup at h;split at h
  · rename_i e
    cases h;rw[eq_of_beq e];exact .head _
  · exact .tail _ (lookup_mem h)
def kvA(l:List (Str×Addr)):LKR:=l.map fun p=>(.inr p.1,.ref p.2)
def wsA(l:List (Str×Addr)):List (Key×V):=l.map fun p=>(.inr p.1,.ref p.2)
theorem qA2:∀ l:List (Str×Addr),KV (wsA l) ((l.map fun p=>(p.1,Value.ref p.2)).map fun p=>((Sum.inr p.1:Key),p.2))
 | []=>.nil
 |(x,a)::r=>.cons ⟨rfl,rfl⟩ (qA2 r)
theorem qpj{K:Frg}{H:Hp}:∀ l:List (Str×Addr),RepP K H (kvA l) (wsA l)
 | []=>rfl
 |p::r=>⟨V.ref p.2,wsA r,rfl,by simp only[Rep],qpj r⟩
theorem qoB{P:Program}{w:World}{K:Frg}{mg:SOV}{x:Str}{a:Addr}{es:Array DictEntry}{ep:Nat}{l:List (Str×Addr)}
 (hm:mg x=some (.ref a)) (lk:K.lookup a=some ⟨.type "dict",none,.dict es ep,#[]⟩) (ha:(a==sysModules)=false) (hr:qnm w es.toList (l.map fun p=>(p.1,Value.ref p.2))) (hn:(l.map Prod.fst).Nodup):KTab P w K mg x (kvA l):=
 qmg hm lk ha hr (by rw[was];exact hn) ⟨rfl,rfl,rfl⟩ (qA2 l) fun H=>qpj l
theorem qxN{P:Program}{w:World}{K:Frg}{h:Heap}{mg:SOV}{p:Prg}(X:K.In h)(G:h.Ns mainGlobals mg)
 (bl:(p.S.bl.all fun x=>qsl (PySem.W.nsIn K mainGlobals x))=true) (gi:(p.S.gi.all fun x=>qvA x.2 (PySem.W.nsIn K mainGlobals x.1))=true) (gt:(p.S.gt.all fun x=>qvj K x.2 (PySem.W.nsIn K mainGlobals x.1))=true)
 (cl:(p.S.cl.zipIdx.all fun x=>qrU K (p.C x.2)&&qpJ (p.C x.2) (PySem.W.nsIn K mainGlobals x.1))=true) (fs:(p.S.fs.all fun x=>qrU K (p.C x.1)&&qsl (PySem.W.findIn K (.ref (p.C x.1)) x.2))=true)
 (tb:∀ x∈p.S.tb,KTab P w K mg x (p.tb x)) (tt:∀ x l,p.S.tt.lookup x=some l->qsc P w K mg x l) (fn:∀ d∈p.S.fd,∃ g fd,HdF K mg p.S p.C d g fd)
 (cv:∀ q∈p.cv,∃ d,p.S.fd[q.2]? =some d/\d.kind=0/\qpJ q.1 (PySem.W.nsIn K mainGlobals d.name)=true):Hd P w K mg p where
 bl:=fun x hx=>PySem.W.mg_none_of X G (qmo (qfI bl hx))
 gi:=fun x i hx=>by
  obtain⟨t,e⟩:=qrs (qfI gi (lookup_mem hx));exact⟨t,waW X G e⟩
 gt:=fun x l hx=>qsH X G (qfI gt (lookup_mem hx))
 tb:=tb
 tt:=tt
 cl:=fun i c hi=>by
  have:=qfI cl (x:=(c,i)) (List.mk_mem_zipIdx_iff_getElem?.mpr hi);rw[waa]at this;exact⟨qm7 this.1,waW X G (qeL this.2)⟩
 fs:=fun c f hx=>by
  have:=qfI fs hx;rw[waa]at this;exact⟨qm7 this.1,qmo this.2⟩
 fns:=fun i d hi=>fn d (List.mem_of_getElem? hi)
 cv:=fun q hq=>by
  obtain⟨d,a,b,c⟩:=cv q hq;exact⟨d,a,b,waW X G (qeL c)⟩
def qkX(K:Frg)(S:SI)(C:Nat->Addr)(n:Nat)(l:List (FD×FA)):Bool:=l.all fun x=>qsm K C x.1 x.2&&decide (x.1.ps.length=n)&&mt S true x.1.N (qax x.2.s) x.1.body (.b (qcA x.2.s))
theorem grp{K:Frg}{h:Heap}{mg:SOV}{S:SI}{C:Nat->Addr}{n:Nat}{l:List (FD×FA)}(X:K.In h)(G:h.Ns mainGlobals mg)(b:qkX K S C n l=true)(k:l.map (fun x=>K.lookup x.2.g)=l.map fun x=>some x.2.fn)
 (u:∀ us:LVl,us.length=n->l.map (fun x=>bindArgs (fdOf x.2) ⟨us,[]⟩)=l.map fun x=>pure (x.1.ps.zip us)):∀ x∈l,HdF K mg S C x.1 x.2.g (fdOf x.2):=fun x hx=>by
 have:=qfI b hx;simp only[waa,decide_eq_true_eq]at this;exact quC X G this.1.1 (ql7 k hx) this.2 fun us hu=>ql7 (u us (hu.trans this.1.2)) hx
theorem quJ{K:Frg}{mg:SOV}{S:SI}{C:Nat->Addr}{l:List (FD×FA)}(e:S.fd=l.map (·.1))(h:∀ x∈l,HdF K mg S C x.1 x.2.g (fdOf x.2)):∀ d∈S.fd,∃ g fd,HdF K mg S C d g fd:=fun d hd=>by
 rw[e]at hd;obtain⟨x,hx,rfl⟩:=wan.mp hd;exact⟨_,_,h x hx⟩
theorem qbx{α:Type}{P:α->Prop}{a b:List α}(h1:∀ x∈a,P x)(h2:∀ x∈b,P x):∀ x∈a++b,P x:=fun x hx=>(wap.mp hx).elim (h1 x) (h2 x)
end R
namespace H36
open PySem PySem.W PyProof.Rows HD
variable(P:Params)
abbrev p:=PySem.Challenge.pw_lentgate_k36_whole_meetings_by_their_for
abbrev body:=behindTheImports p
abbrev top(i:Nat):Stmt:=qvQ p i
def env:Env:={ scope:=p.main.scope,locals:=mainNs,globals:=mainNs,cells:=[],code:=.ref 13,frame:=some 14 }
def cd:Code:=.body body env
def ann:OVl:=some (.ref 6)
def q0:Pos:=⟨0,0,0,0⟩
def B:List Frame:=[topFrame q0]
abbrev wf(w:World)(b:Bool):World:=w.withFollow "special-get-raises" b
noncomputable section
def ns:List DictEntry:=[e1 P "__name__" 165 (.str "law_lentgate_k36_whole_meetings_by_their_for" 1545),e1 P "__doc__" 166 (.none),e1 P "__package__" 167 (.none),e1 P "__loader__" 168 (.builtin "__main__.__loader__#opaque"),e1 P "__spec__" 169 (.none),e1 P "__annotations__" 170 (.ref 6),e1 P "__builtins__" 171 (.ref 4),e1 P "__file__" 173 (.str "/claim/cut.py" 172),e1 P "__cached__" 174 (.none),e1 P "_wall" 193 (.ref 21),e1 P "GREATEST_HOUSE" 197 (.int 99 196),e1 P "GREATEST_DOOR" 199 (.int 9999 198),e1 P "GREATEST_PLACE" 201 (.int 1000000 200),e1 P "GREATEST_TICKS" 203 (.int 1000000 202),e1 P "GREATEST_RULE" 205 (.int 1000000 204),e1 P "MOST_SIGNS" 207 (.int 40 206),e1 P "FIRST_SIGN" 209 (.int 32 208),e1 P "LAST_SIGN" 211 (.int 126 210),e1 P "PERCENT_SIGN" 213 (.int 37 212),e1 P "KINDS" 216 (.ref 22),e1 P "NOTE_WORDS" 218 (.ref 23),e1 P "LINE_WORDS" 223 (.ref 24),e1 P "is_whole" 230 (.ref 31),e1 P "is_whole_within" 239 (.ref 38),e1 P "is_house" 246 (.ref 45),e1 P "is_door" 253 (.ref 52),e1 P "is_place" 260 (.ref 59),e1 P "is_outer_place" 267 (.ref 66),e1 P "is_ticks" 274 (.ref 73),e1 P "is_kind" 281 (.ref 80),e1 P "is_word" 289 (.ref 87),e1 P "is_sign" 297 (.ref 94),e1 P "is_text" 303 (.ref 99),e1 P "is_letter" 312 (.ref 106),e1 P "is_out" 326 (.ref 113),e1 P "is_come" 339 (.ref 120),e1 P "is_lost" 351 (.ref 127),e1 P "is_wait" 358 (.ref 134),e1 P "is_rule" 370 (.ref 141),e1 P "is_unrule" 377 (.ref 148),e1 P "DEEDS" 390 (.ref 149),e1 P "name_of" 397 (.ref 156),e1 P "is_deed" 406 (.ref 163),e1 P "GateError" 426 (.ref 173),e1 P "NoForm" 442 (.ref 186),e1 P "NoDeed" 458 (.ref 198),e1 P "NoRule" 474 (.ref 210),e1 P "NoPlan" 490 (.ref 222),e1 P "LENDINGS" 496 (.ref 225),e1 P "SIEVES" 500 (.ref 226),e1 P "PICKS" 503 (.ref 227),e1 P "WIDEST_STEP" 505 (.int 199 504),e1 P "GREATEST_MOST" 507 (.int 200 506),e1 P "GREATEST_TIME" 509 (.int 1000000 508),e1 P "TIME_AT" 528 (.ref 228),e1 P "is_pool" 536 (.ref 235),e1 P "is_times" 542 (.ref 240),e1 P "is_form" 557 (.ref 247),e1 P "holder_of" 571 (.ref 254),e1 P "time_of" 580 (.ref 261),e1 P "LINE_STEPS" 693 (.ref 262),e1 P "BREAKABLE" 699 (.ref 277),e1 P "note_state" 707 (.ref 284),e1 P "line_state" 716 (.ref 291),e1 P "next_state" 726 (.ref 298),e1 P "Rules" 809 (.ref 350),e1 P "Pool" 909 (.ref 423),e1 P "Talk" 946 (.ref 444),e1 P "Talks" 1116 (.ref 564),e1 P "Gate" 1441 (.ref 774),e1 P "FIRST_PLACE" 1445 (.int 1 1444),e1 P "SECOND_PLACE" 1447 (.int 2 1446),e1 P "HELPER_PLACE" 1449 (.int 3 1448),e1 P "HELPER_DOOR" 1451 (.int 1 1450),e1 P "HOUSE" 1453 (.int 0 1452),e1 P "WRITERS" 1456 (.ref 779),e1 P "MOST_STEPS" 1458 (.int 100 1457),e1 P "is_doors" 1465 (.ref 786),e1 P "is_steps" 1471 (.ref 791),e1 P "Side" 1514 (.ref 815),e1 P "write_to" 1524 (.ref 826),e1 P "meeting" 1538 (.ref 833),e1 P "meets" 1544 (.ref 838),e1 P "_law_cell" 1554 (.ref 845),e1 P "_law_well" 1562 (.ref 852),e1 P "_law_take" 1573 (.ref 859),e1 P "_law_a_form" 1579 (.ref 864),e1 P "_law_due" 1596 (.ref 871),e1 P "_law_plain" 1602 (.ref 876),e1 P "_law_turned" 1608 (.ref 881),e1 P "law" 1614 (.ref 886)]
noncomputable def tb:LVl:=[.int 1 0,.int 0 0,.ref 20,.int 17 0,.int 0 0,.ref 30,.int 19 0,.int 0 0,.ref 37,.int 21 0,.int 0 0,.ref 44,.int 23 0,.int 0 0,.ref 51,.int 25 0,.int 0 0,.ref 58,.int 27 0,.int 0 0,.ref 65,.int 29 0,.int 0 0,.ref 72,.int 31 0,.int 0 0,.ref 79,.int 33 0,.int 0 0,.ref 86,.int 37 0,.int 0 0,.ref 93,.int 40 0,.int 0 0,.ref 98,.int 44 0,.int 0 0,.ref 105,.int 46 0,.int 0 0,.ref 112,.int 51 0,.int 0 0,.ref 119,.int 56 0,.int 0 0,.ref 126,.int 61 0,.int 0 0,.ref 133,.int 63 0,.int 0 0,.ref 140,.int 70 0,.int 0 0,.ref 147,.int 73 0,.int 0 0,.ref 155,.int 77 0,.int 0 0,.ref 162,.int 84 0,.int 0 0,.ref 169,.int 86 0,.int 0 0,.ref 182,.int 88 0,.int 0 0,.ref 194,.int 90 0,.int 0 0,.ref 206,.int 92 0,.int 0 0,.ref 218,.int 102 0,.int 0 0,.ref 234,.int 104 0,.int 0 0,.ref 239,.int 109 0,.int 0 0,.ref 246,.int 118 0,.int 0 0,.ref 253,.int 126 0,.int 0 0,.ref 260,.int 132 0,.int 0 0,.ref 283,.int 136 0,.int 0 0,.ref 290,.int 140 0,.int 0 0,.ref 297,.int 145 0,.int 0 0,.ref 304,.int 173 0,.int 0 0,.ref 360,.int 217 0,.int 0 0,.ref 433,.int 224 0,.int 0 0,.ref 454,.int 307 0,.int 0 0,.ref 574,.int 485 0,.int 0 0,.ref 785,.int 487 0,.int 0 0,.ref 790,.int 491 0,.int 0 0,.ref 797,.int 501 0,.int 0 0,.ref 825,.int 507 0,.int 0 0,.ref 832,.int 524 0,.int 0 0,.ref 837,.int 529 0,.int 0 0,.ref 844,.int 533 0,.int 0 0,.ref 851,.int 537 0,.int 0 0,.ref 858,.int 547 0,.int 0 0,.ref 863,.int 559 0,.int 0 0,.ref 870,.int 582 0,.int 0 0,.ref 875,.int 584 0,.int 0 0,.ref 880,.int 587 0,.int 0 0,.ref 885]
abbrev pm0:Value:=.str "__main__" 164
abbrev pm1:Value:=.str "lentgate.ends" 194
abbrev pm2:Value:=.str "lentgate.forms" 491
abbrev pm3:Value:=.str "lentgate.lines" 581
abbrev pm4:Value:=.str "lentgate.rules" 727
abbrev pm5:Value:=.str "lentgate.pool" 810
abbrev pm6:Value:=.str "lentgate.talks" 910
abbrev pm7:Value:=.str "lentgate.gate" 1117
abbrev pm8:Value:=.str "lentgate.meetings" 1442
abbrev pm9:Value:=.str "law_lentgate_k36_whole_meetings_by_their_for" 1545
abbrev d15:=df "_wall" "_wall" (top 0) 15 187 1 1 ["k"] pm0
abbrev d25:=df "is_whole" "is_whole" (top 14) 25 224 17 1 ["thing"] pm1
abbrev d32:=df "is_whole_within" "is_whole_within" (top 15) 32 231 19 3 ["thing","least","greatest"] pm1
abbrev d39:=df "is_house" "is_house" (top 16) 39 240 21 1 ["thing"] pm1
abbrev d46:=df "is_door" "is_door" (top 17) 46 247 23 1 ["thing"] pm1
abbrev d53:=df "is_place" "is_place" (top 18) 53 254 25 1 ["thing"] pm1
abbrev d60:=df "is_outer_place" "is_outer_place" (top 19) 60 261 27 1 ["thing"] pm1
abbrev d67:=df "is_ticks" "is_ticks" (top 20) 67 268 29 1 ["thing"] pm1
abbrev d74:=df "is_kind" "is_kind" (top 21) 74 275 31 1 ["thing"] pm1
abbrev d81:=df "is_word" "is_word" (top 22) 81 282 33 2 ["kind","thing"] pm1
abbrev d88:=df "is_sign" "is_sign" (top 23) 88 290 37 1 ["sign","at"] pm1
abbrev d100:=df "is_letter" "is_letter" (top 25) 100 304 44 3 ["kind","word","text"] pm1
abbrev d107:=df "is_out" "is_out" (top 26) 107 313 46 1 ["parts","kind","house","door","place","far","word","text"] pm1
abbrev d114:=df "is_come" "is_come" (top 27) 114 327 51 1 ["parts","kind","place","far","number","word","text"] pm1
abbrev d121:=df "is_lost" "is_lost" (top 28) 121 340 56 1 ["parts","teller","kind","number","place","far"] pm1
abbrev d128:=df "is_wait" "is_wait" (top 29) 128 352 61 1 ["parts"] pm1
abbrev d135:=df "is_rule" "is_rule" (top 30) 135 359 63 1 ["parts","kind","number","place","house","door"] pm1
abbrev d142:=df "is_unrule" "is_unrule" (top 31) 142 371 70 1 ["parts"] pm1
abbrev d150:=df "name_of" "name_of" (top 33) 150 391 73 1 ["thing"] pm1
abbrev d157:=df "is_deed" "is_deed" (top 34) 157 398 77 1 ["thing","name","has_parts"] pm1
abbrev d229:=df "is_pool" "is_pool" (top 49) 229 529 102 2 ["low","high"] pm2
abbrev d241:=df "is_form" "is_form" (top 51) 241 543 109 1 ["thing","low","high","lending","sieve","pick","most","renew","times"] pm2
abbrev d248:=df "holder_of" "holder_of" (top 52) 248 558 118 2 ["form","inner","kind","house","door","place","far","lending"] pm2
abbrev d255:=df "time_of" "time_of" (top 53) 255 572 126 2 ["form","state","times"] pm2
abbrev d278:=df "note_state" "note_state" (top 57) 278 700 132 2 ["state","word"] pm3
abbrev d285:=df "line_state" "line_state" (top 58) 285 708 136 3 ["state","side","word"] pm3
abbrev d292:=df "next_state" "next_state" (top 59) 292 717 140 4 ["kind","state","side","word"] pm3
abbrev d306:=df "__init__" "Rules.__init__" (sub (top 61) 0) 306 741 147 1 ["self"] pm4
abbrev d313:=df "tell" "Rules.tell" (sub (top 61) 1) 313 748 151 6 ["self","kind","number","place","house","door","told"] pm4
abbrev d320:=df "stands" "Rules.stands" (sub (top 61) 2) 320 761 157 2 ["self","k"] pm4
abbrev d327:=df "drop" "Rules.drop" (sub (top 61) 3) 327 769 160 2 ["self","k"] pm4
abbrev d334:=df "door_for" "Rules.door_for" (sub (top 61) 4) 334 777 163 4 ["self","kind","number","place","rule_kind","rule_number","rule_place","house","door","fits_place"] pm4
abbrev d341:=df "listed" "Rules.listed" (sub (top 61) 5) 341 793 170 1 ["self"] pm4
abbrev d362:=df "__init__" "Pool.__init__" (sub (top 63) 0) 362 824 175 3 ["self","low","high"] pm5
abbrev d369:=df "has" "Pool.has" (sub (top 63) 1) 369 833 182 2 ["self","number"] pm5
abbrev d376:=df "is_free" "Pool.is_free" (sub (top 63) 2) 376 841 185 3 ["self","number","moment"] pm5
abbrev d383:=df "from_mark" "Pool.from_mark" (sub (top 63) 3) 383 850 190 1 ["self"] pm5
abbrev d390:=df "picked" "Pool.picked" (sub (top 63) 4) 390 857 193 4 ["self","pick","door","moment","number"] pm5
abbrev d397:=df "take" "Pool.take" (sub (top 63) 5) 397 868 201 2 ["self","number"] pm5
abbrev d404:=df "give" "Pool.give" (sub (top 63) 6) 404 876 207 3 ["self","number","until"] pm5
abbrev d435:=df "__init__" "Talk.__init__" (sub (top 65) 0) 435 924 219 5 ["self","inner","number","state","over"] pm6
abbrev d456:=df "__init__" "Talks.__init__" (sub (top 66) 0) 456 959 226 2 ["self","form"] pm6
abbrev d463:=df "of_inner" "Talks.of_inner" (sub (top 66) 1) 463 967 235 2 ["self","inner"] pm6
abbrev d470:=df "of_outer" "Talks.of_outer" (sub (top 66) 2) 470 975 238 5 ["self","kind","number","place","far"] pm6
abbrev d482:=df "living" "Talks.living" (sub (top 66) 4) 482 992 246 1 ["self"] pm6
abbrev d489:=df "is_living" "Talks.is_living" (sub (top 66) 5) 489 999 249 2 ["self","talk"] pm6
abbrev d496:=df "number_of" "Talks.number_of" (sub (top 66) 6) 496 1007 252 2 ["self","inner"] pm6
abbrev d503:=df "holder_at" "Talks.holder_at" (sub (top 66) 7) 503 1015 255 2 ["self","number"] pm6
abbrev d515:=df "lent_until" "Talks.lent_until" (sub (top 66) 9) 515 1029 261 2 ["self","number"] pm6
abbrev d522:=df "lend" "Talks.lend" (sub (top 66) 10) 522 1037 264 3 ["self","number","inner","holder"] pm6
abbrev d529:=df "end_lend" "Talks.end_lend" (sub (top 66) 11) 529 1047 270 3 ["self","number","moment"] pm6
abbrev d536:=df "begin" "Talks.begin" (sub (top 66) 12) 536 1056 275 4 ["self","inner","number","state","kind","house","door","place","far","talk"] pm6
abbrev d543:=df "lead" "Talks.lead" (sub (top 66) 13) 543 1072 283 3 ["self","talk","state"] pm6
abbrev d550:=df "end" "Talks.end" (sub (top 66) 14) 550 1081 290 3 ["self","talk","moment","kind","house","door","place","far","number"] pm6
abbrev d576:=df "__init__" "Gate.__init__" (sub (top 68) 0) 576 1131 309 2 ["self","form"] pm7
abbrev d583:=df "deed" "Gate.deed" (sub (top 68) 1) 583 1139 318 2 ["self","deed","answer"] pm7
abbrev d590:=df "out" "Gate.out" (sub (top 68) 2) 590 1148 325 8 ["self","kind","house","door","place","far","word","text"] pm7
abbrev d597:=df "come" "Gate.come" (sub (top 68) 3) 597 1162 328 7 ["self","kind","place","far","number","word","text"] pm7
abbrev d604:=df "lost" "Gate.lost" (sub (top 68) 4) 604 1175 331 6 ["self","teller","kind","number","place","far"] pm7
abbrev d611:=df "wait" "Gate.wait" (sub (top 68) 5) 611 1187 334 2 ["self","ticks"] pm7
abbrev d618:=df "rule" "Gate.rule" (sub (top 68) 6) 618 1195 337 6 ["self","kind","number","place","house","door"] pm7
abbrev d625:=df "unrule" "Gate.unrule" (sub (top 68) 7) 625 1207 340 2 ["self","k"] pm7
abbrev d632:=df "moment" "Gate.moment" (sub (top 68) 8) 632 1215 343 1 ["self"] pm7
abbrev d639:=df "free" "Gate.free" (sub (top 68) 9) 639 1222 346 1 ["self"] pm7
abbrev d646:=df "lends" "Gate.lends" (sub (top 68) 10) 646 1229 349 1 ["self"] pm7
abbrev d653:=df "talks" "Gate.talks" (sub (top 68) 11) 653 1236 352 1 ["self"] pm7
abbrev d660:=df "rests" "Gate.rests" (sub (top 68) 12) 660 1243 355 1 ["self"] pm7
abbrev d667:=df "rules" "Gate.rules" (sub (top 68) 13) 667 1250 358 1 ["self"] pm7
abbrev d674:=df "book" "Gate.book" (sub (top 68) 14) 674 1257 361 1 ["self"] pm7
abbrev d681:=df "answered" "Gate.answered" (sub (top 68) 15) 681 1264 364 3 ["self","name","parts","kind","place","far","number","word","text"] pm7
abbrev d688:=df "sent" "Gate.sent" (sub (top 68) 16) 688 1279 379 2 ["self","parts","kind","house","door","place","far","word","text","answer","number"] pm7
abbrev d695:=df "lead_out" "Gate.lead_out" (sub (top 68) 17) 695 1296 387 3 ["self","inner","word","talk","state"] pm7
abbrev d702:=df "begin_out" "Gate.begin_out" (sub (top 68) 18) 702 1307 397 3 ["self","inner","state","number"] pm7
abbrev d709:=df "picked_for" "Gate.picked_for" (sub (top 68) 19) 709 1317 409 2 ["self","door","pool","now"] pm7
abbrev d716:=df "come_in" "Gate.come_in" (sub (top 68) 20) 716 1327 415 6 ["self","kind","place","far","number","word","talk"] pm7
abbrev d723:=df "lead_in" "Gate.lead_in" (sub (top 68) 21) 723 1340 423 3 ["self","talk","word","kind","house","door","place","far","state","renew"] pm7
abbrev d730:=df "sifted" "Gate.sifted" (sub (top 68) 22) 730 1356 433 4 ["self","kind","place","number","holder"] pm7
abbrev d737:=df "lets_note_in" "Gate.lets_note_in" (sub (top 68) 23) 737 1367 441 3 ["self","place","number","sieve"] pm7
abbrev d744:=df "come_by_rule" "Gate.come_by_rule" (sub (top 68) 24) 744 1377 445 6 ["self","kind","place","far","number","word","to","house","door","state","inner"] pm7
abbrev d751:=df "told_lost" "Gate.told_lost" (sub (top 68) 25) 751 1394 459 2 ["self","parts","teller","kind","number","place","far","talk"] pm7
abbrev d758:=df "rule_told" "Gate.rule_told" (sub (top 68) 26) 758 1408 466 2 ["self","parts","kind","number","place","house","door"] pm7
abbrev d765:=df "rule_dropped" "Gate.rule_dropped" (sub (top 68) 27) 765 1421 472 2 ["self","k"] pm7
abbrev d780:=df "is_doors" "is_doors" (top 77) 780 1459 485 1 ["thing"] pm8
abbrev d799:=df "__init__" "Side.__init__" (sub (top 79) 0) 799 1484 493 4 ["self","form","place","door"] pm8
abbrev d806:=df "write" "Side.write" (sub (top 79) 1) 806 1494 499 3 ["self","place","far"] pm8
abbrev d820:=df "write_to" "write_to" (top 80) 820 1515 501 2 ["writer","reader","answer","arrived"] pm8
abbrev d827:=df "meeting" "meeting" (top 81) 827 1525 507 4 ["one","other","doors","steps","first","second","rows","step"] pm8
abbrev d839:=df "_law_cell" "_law_cell" (top 84) 839 1547 529 2 ["script","k"] pm9
abbrev d846:=df "_law_well" "_law_well" (top 85) 846 1555 533 2 ["cell","turn"] pm9
abbrev d853:=df "_law_take" "_law_take" (top 86) 853 1563 537 2 ["bag","many","found","p","n"] pm9
abbrev d865:=df "_law_due" "_law_due" (top 88) 865 1580 559 3 ["forms","doors","steps","wrote","found","step","at","form","there","out","inward"] pm9
def v7:Obj:=tup []
def v13:Obj:=coO [.str "<module>" 182,.str "<module>" 183,.str "/claim/cut.py" 184,.int 1 0,.int 0 0,.int 0 0,.int 0 0,.int 0 0,.ref 11,.bool false,.int 181 0,.ref 12,.none,.none,.none,.none,.int 185 0,.int 1 0,.str "/claim/cut.py" 186]
noncomputable def v14:Obj:=⟨.type "frame",none,.plain,#[some (.ref 13),some (.ref 3),some (.ref 3),none,some (.str "__main__" 164),none,some (.ref 0)]⟩
def v35:Obj:=tup [.str "note" 214,.str "line" 215]
def v37:Obj:=tup [.str "say" 217]
def v39:Obj:=tup [.str "open" 219,.str "say" 220,.str "close" 221,.str "break" 222]
noncomputable def v8:Obj:=⟨.none,none,.fields #[],#[]⟩
def qB0:Obj:=tfO "is_text" "is_text" (top 24)
def qAu:Obj:=coO [.str "is_text" 298,.str "is_text" 299,.str "/claim/cut.py" 300,.int 40 0,.int 1 0,.int 0 0,.int 0 0,.int 3 0,.ref 95,.bool true,.int 181 0,.ref 96,.none,.none,.none,.ref 97,.int 301 0,.int 40 0,.str "/claim/cut.py" 302]
def qAt:Obj:=fnO "is_text" "is_text" (top 24) (.str "lentgate.ends" 194) (.ref 98)
def v201:Obj:=nsO [e1 P "out" 378 (.ref 113),e1 P "come" 379 (.ref 120),e1 P "lost" 380 (.ref 127),e1 P "wait" 381 (.ref 134),e1 P "rule" 382 (.ref 141),e1 P "unrule" 383 (.ref 148)] 6
def qAs:Obj:=tup [.type "ValueError"]
noncomputable def qe1:Obj:=⟨.type "builtin_function_or_method",none,.fields #[.builtin "type.__prepare__",.type "type"],#[]⟩
def qAr:Obj:=nsO [e1 P "__module__" 416 (.str "lentgate.errors" 407),e1 P "__qualname__" 418 (.str "GateError" 417),e1 P "__firstlineno__" 420 (.int 84 419),e1 P "__static_attributes__" 421 (.ref 171)] 4
def qAq:Obj:=coO [.str "GateError" 411,.str "GateError" 412,.str "/claim/cut.py" 413,.int 84 0,.int 0 0,.int 0 0,.int 0 0,.int 0 0,.ref 167,.bool false,.int 181 0,.ref 168,.none,.none,.none,.none,.int 414 0,.int 84 0,.str "/claim/cut.py" 415]
noncomputable def qAp:Obj:=⟨.type "frame",none,.plain,#[some (.ref 169),some (.ref 3),some (.ref 166),none,some (.str "lentgate.errors" 407),none,some (.ref 0)]⟩
def qAo:Obj:=nsO [e1 P "__module__" 416 (.str "lentgate.errors" 407),e1 P "__firstlineno__" 420 (.int 84 419),e1 P "__static_attributes__" 421 (.ref 171),e1 P "__weakref__" 423 (.ref 174),e1 P "__doc__" 424 (.none)] 3
noncomputable def qBZ:Obj:=⟨.type "type",none,.cls { name:="GateError",bases:=[.type "ValueError"],mro:=[.ref 173,.type "ValueError",.type "Exception",.type "BaseException",.type "object"],ns:=172,qualname:="GateError",hasDict:=true,slotNames:=[],subclasses:=[],abstract:=false,collection:=none,hasDel:=false },#[some (.ref 164),none,some (.str "GateError" 409),some (.str "GateError" 417),some (.builtin "ValueError.__new__"),some (.bool true)]⟩
noncomputable def qAn:Obj:=⟨.type "getset_descriptor",none,.fields #[.str "__weakref__" 422,.ref 173,.builtin "ExceptionGroup.__weakref__",.none],#[]⟩
noncomputable def qAm:Obj:=⟨.type "super",none,.fields #[.ref 173,.ref 173,.ref 173],#[]⟩
noncomputable def qAl:Obj:=⟨.type "builtin_function_or_method",none,.fields #[.builtin "object.__init_subclass__",.ref 173],#[]⟩
noncomputable def qBY:Obj:=⟨.type "type",none,.cls { name:="GateError",bases:=[.type "ValueError"],mro:=[.ref 173,.type "ValueError",.type "Exception",.type "BaseException",.type "object"],ns:=172,qualname:="GateError",hasDict:=true,slotNames:=[],subclasses:=[.ref 186],abstract:=false,collection:=none,hasDel:=false },#[some (.ref 164),none,some (.str "GateError" 409),some (.str "GateError" 417),some (.builtin "ValueError.__new__"),some (.bool true)]⟩
def qpa:Obj:=tup [.ref 173]
def qAk:Obj:=nsO [e1 P "__module__" 434 (.str "lentgate.errors" 407),e1 P "__qualname__" 436 (.str "NoForm" 435),e1 P "__firstlineno__" 438 (.int 86 437),e1 P "__static_attributes__" 439 (.ref 184)] 4
def qAj:Obj:=coO [.str "NoForm" 429,.str "NoForm" 430,.str "/claim/cut.py" 431,.int 86 0,.int 0 0,.int 0 0,.int 0 0,.int 0 0,.ref 180,.bool false,.int 181 0,.ref 181,.none,.none,.none,.none,.int 432 0,.int 86 0,.str "/claim/cut.py" 433]
noncomputable def qAi:Obj:=⟨.type "frame",none,.plain,#[some (.ref 182),some (.ref 3),some (.ref 179),none,some (.str "lentgate.errors" 407),none,some (.ref 0)]⟩
def qAh:Obj:=nsO [e1 P "__module__" 434 (.str "lentgate.errors" 407),e1 P "__firstlineno__" 438 (.int 86 437),e1 P "__static_attributes__" 439 (.ref 184),e1 P "__doc__" 440 (.none)] 2
noncomputable def qAg:Obj:=⟨.type "type",none,.cls { name:="NoForm",bases:=[.ref 173],mro:=[.ref 186,.ref 173,.type "ValueError",.type "Exception",.type "BaseException",.type "object"],ns:=185,qualname:="NoForm",hasDict:=true,slotNames:=[],subclasses:=[],abstract:=false,collection:=none,hasDel:=false },#[some (.ref 177),none,some (.str "NoForm" 427),some (.str "NoForm" 435),some (.builtin "ValueError.__new__"),some (.bool true)]⟩
noncomputable def qAf:Obj:=⟨.type "super",none,.fields #[.ref 186,.ref 186,.ref 186],#[]⟩
noncomputable def qAe:Obj:=⟨.type "builtin_function_or_method",none,.fields #[.builtin "object.__init_subclass__",.ref 186],#[]⟩
noncomputable def qBX:Obj:=⟨.type "type",none,.cls { name:="GateError",bases:=[.type "ValueError"],mro:=[.ref 173,.type "ValueError",.type "Exception",.type "BaseException",.type "object"],ns:=172,qualname:="GateError",hasDict:=true,slotNames:=[],subclasses:=[.ref 186,.ref 198],abstract:=false,collection:=none,hasDel:=false },#[some (.ref 164),none,some (.str "GateError" 409),some (.str "GateError" 417),some (.builtin "ValueError.__new__"),some (.bool true)]⟩
def qAd:Obj:=nsO [e1 P "__module__" 450 (.str "lentgate.errors" 407),e1 P "__qualname__" 452 (.str "NoDeed" 451),e1 P "__firstlineno__" 454 (.int 88 453),e1 P "__static_attributes__" 455 (.ref 196)] 4
def qAc:Obj:=coO [.str "NoDeed" 445,.str "NoDeed" 446,.str "/claim/cut.py" 447,.int 88 0,.int 0 0,.int 0 0,.int 0 0,.int 0 0,.ref 192,.bool false,.int 181 0,.ref 193,.none,.none,.none,.none,.int 448 0,.int 88 0,.str "/claim/cut.py" 449]
noncomputable def qAb:Obj:=⟨.type "frame",none,.plain,#[some (.ref 194),some (.ref 3),some (.ref 191),none,some (.str "lentgate.errors" 407),none,some (.ref 0)]⟩
def qAa:Obj:=nsO [e1 P "__module__" 450 (.str "lentgate.errors" 407),e1 P "__firstlineno__" 454 (.int 88 453),e1 P "__static_attributes__" 455 (.ref 196),e1 P "__doc__" 456 (.none)] 2
noncomputable def qz9:Obj:=⟨.type "type",none,.cls { name:="NoDeed",bases:=[.ref 173],mro:=[.ref 198,.ref 173,.type "ValueError",.type "Exception",.type "BaseException",.type "object"],ns:=197,qualname:="NoDeed",hasDict:=true,slotNames:=[],subclasses:=[],abstract:=false,collection:=none,hasDel:=false },#[some (.ref 189),none,some (.str "NoDeed" 443),some (.str "NoDeed" 451),some (.builtin "ValueError.__new__"),some (.bool true)]⟩
noncomputable def qz8:Obj:=⟨.type "super",none,.fields #[.ref 198,.ref 198,.ref 198],#[]⟩
noncomputable def qz7:Obj:=⟨.type "builtin_function_or_method",none,.fields #[.builtin "object.__init_subclass__",.ref 198],#[]⟩
noncomputable def qBW:Obj:=⟨.type "type",none,.cls { name:="GateError",bases:=[.type "ValueError"],mro:=[.ref 173,.type "ValueError",.type "Exception",.type "BaseException",.type "object"],ns:=172,qualname:="GateError",hasDict:=true,slotNames:=[],subclasses:=[.ref 186,.ref 198,.ref 210],abstract:=false,collection:=none,hasDel:=false },#[some (.ref 164),none,some (.str "GateError" 409),some (.str "GateError" 417),some (.builtin "ValueError.__new__"),some (.bool true)]⟩
def qz6:Obj:=nsO [e1 P "__module__" 466 (.str "lentgate.errors" 407),e1 P "__qualname__" 468 (.str "NoRule" 467),e1 P "__firstlineno__" 470 (.int 90 469),e1 P "__static_attributes__" 471 (.ref 208)] 4
def qz5:Obj:=coO [.str "NoRule" 461,.str "NoRule" 462,.str "/claim/cut.py" 463,.int 90 0,.int 0 0,.int 0 0,.int 0 0,.int 0 0,.ref 204,.bool false,.int 181 0,.ref 205,.none,.none,.none,.none,.int 464 0,.int 90 0,.str "/claim/cut.py" 465]
noncomputable def qz4:Obj:=⟨.type "frame",none,.plain,#[some (.ref 206),some (.ref 3),some (.ref 203),none,some (.str "lentgate.errors" 407),none,some (.ref 0)]⟩
def qz3:Obj:=nsO [e1 P "__module__" 466 (.str "lentgate.errors" 407),e1 P "__firstlineno__" 470 (.int 90 469),e1 P "__static_attributes__" 471 (.ref 208),e1 P "__doc__" 472 (.none)] 2
noncomputable def qz2:Obj:=⟨.type "type",none,.cls { name:="NoRule",bases:=[.ref 173],mro:=[.ref 210,.ref 173,.type "ValueError",.type "Exception",.type "BaseException",.type "object"],ns:=209,qualname:="NoRule",hasDict:=true,slotNames:=[],subclasses:=[],abstract:=false,collection:=none,hasDel:=false },#[some (.ref 201),none,some (.str "NoRule" 459),some (.str "NoRule" 467),some (.builtin "ValueError.__new__"),some (.bool true)]⟩
noncomputable def qz1:Obj:=⟨.type "super",none,.fields #[.ref 210,.ref 210,.ref 210],#[]⟩
noncomputable def qz0:Obj:=⟨.type "builtin_function_or_method",none,.fields #[.builtin "object.__init_subclass__",.ref 210],#[]⟩
noncomputable def qzZ:Obj:=⟨.type "type",none,.cls { name:="GateError",bases:=[.type "ValueError"],mro:=[.ref 173,.type "ValueError",.type "Exception",.type "BaseException",.type "object"],ns:=172,qualname:="GateError",hasDict:=true,slotNames:=[],subclasses:=[.ref 186,.ref 198,.ref 210,.ref 222],abstract:=false,collection:=none,hasDel:=false },#[some (.ref 164),none,some (.str "GateError" 409),some (.str "GateError" 417),some (.builtin "ValueError.__new__"),some (.bool true)]⟩
def qzY:Obj:=nsO [e1 P "__module__" 482 (.str "lentgate.errors" 407),e1 P "__qualname__" 484 (.str "NoPlan" 483),e1 P "__firstlineno__" 486 (.int 92 485),e1 P "__static_attributes__" 487 (.ref 220)] 4
def qzX:Obj:=coO [.str "NoPlan" 477,.str "NoPlan" 478,.str "/claim/cut.py" 479,.int 92 0,.int 0 0,.int 0 0,.int 0 0,.int 0 0,.ref 216,.bool false,.int 181 0,.ref 217,.none,.none,.none,.none,.int 480 0,.int 92 0,.str "/claim/cut.py" 481]
noncomputable def qzW:Obj:=⟨.type "frame",none,.plain,#[some (.ref 218),some (.ref 3),some (.ref 215),none,some (.str "lentgate.errors" 407),none,some (.ref 0)]⟩
def qzV:Obj:=nsO [e1 P "__module__" 482 (.str "lentgate.errors" 407),e1 P "__firstlineno__" 486 (.int 92 485),e1 P "__static_attributes__" 487 (.ref 220),e1 P "__doc__" 488 (.none)] 2
noncomputable def qzU:Obj:=⟨.type "type",none,.cls { name:="NoPlan",bases:=[.ref 173],mro:=[.ref 222,.ref 173,.type "ValueError",.type "Exception",.type "BaseException",.type "object"],ns:=221,qualname:="NoPlan",hasDict:=true,slotNames:=[],subclasses:=[],abstract:=false,collection:=none,hasDel:=false },#[some (.ref 213),none,some (.str "NoPlan" 475),some (.str "NoPlan" 483),some (.builtin "ValueError.__new__"),some (.bool true)]⟩
noncomputable def qzT:Obj:=⟨.type "super",none,.fields #[.ref 222,.ref 222,.ref 222],#[]⟩
noncomputable def qzS:Obj:=⟨.type "builtin_function_or_method",none,.fields #[.builtin "object.__init_subclass__",.ref 222],#[]⟩
def qzR:Obj:=tup [.str "door" 493,.str "place" 494,.str "talk" 495]
def qzQ:Obj:=tup [.str "all" 497,.str "place" 498,.str "talk" 499]
def qzP:Obj:=tup [.str "next" 501,.str "keep" 502]
def v307:Obj:=nsO [e1 P "note" 510 (.int 0 511),e1 P "asked" 512 (.int 1 513),e1 P "called" 514 (.int 1 515),e1 P "up" 516 (.int 2 517),e1 P "near" 518 (.int 2 519),e1 P "far" 520 (.int 2 521)] 6
def qBV:Obj:=tfO "is_times" "is_times" (top 50)
def qzO:Obj:=coO [.str "is_times" 537,.str "is_times" 538,.str "/claim/cut.py" 539,.int 104 0,.int 1 0,.int 0 0,.int 0 0,.int 3 0,.ref 236,.bool true,.int 181 0,.ref 237,.none,.none,.none,.ref 238,.int 540 0,.int 104 0,.str "/claim/cut.py" 541]
def qzN:Obj:=fnO "is_times" "is_times" (top 50) (.str "lentgate.forms" 491) (.ref 239)
def qzM:Obj:=tup [.str "house" 583,.none,.str "open" 584]
def qzL:Obj:=tup [.str "house" 586,.str "asked" 587,.str "open" 588]
def qzK:Obj:=tup [.str "house" 590,.str "called" 591,.str "open" 592]
def qzJ:Obj:=tup [.str "house" 594,.str "up" 595,.str "say" 596]
def qzI:Obj:=tup [.str "house" 598,.str "far" 599,.str "say" 600]
def qzH:Obj:=tup [.str "house" 602,.str "up" 603,.str "close" 604]
def qzG:Obj:=tup [.str "house" 606,.str "far" 607,.str "close" 608]
def qzF:Obj:=tup [.str "far" 610,.none,.str "open" 611]
def qzE:Obj:=tup [.str "far" 613,.str "called" 614,.str "open" 615]
def qzD:Obj:=tup [.str "far" 617,.str "asked" 618,.str "open" 619]
def qzC:Obj:=tup [.str "far" 621,.str "up" 622,.str "say" 623]
def qzB:Obj:=tup [.str "far" 625,.str "near" 626,.str "say" 627]
def qzA:Obj:=tup [.str "far" 629,.str "up" 630,.str "close" 631]
def qzz:Obj:=tup [.str "far" 633,.str "near" 634,.str "close" 635]
def qzy:Obj:=tup [.str "asked" 694,.str "called" 695,.str "up" 696,.str "near" 697,.str "far" 698]
def qzx:Obj:=nsO [e1 P "__module__" 736 (.str "lentgate.rules" 727),e1 P "__qualname__" 738 (.str "Rules" 737),e1 P "__firstlineno__" 740 (.int 145 739),e1 P "__init__" 747 (.ref 312),e1 P "tell" 760 (.ref 319),e1 P "stands" 768 (.ref 326),e1 P "drop" 776 (.ref 333),e1 P "door_for" 792 (.ref 340),e1 P "listed" 799 (.ref 347),e1 P "__static_attributes__" 802 (.ref 348)] 10
noncomputable def qBU:Obj:=⟨.none,none,.fields #[.int 147 0,.int 4 0,.ref 311,.int 151 0,.int 4 0,.ref 318,.int 157 0,.int 4 0,.ref 325,.int 160 0,.int 4 0,.ref 332,.int 163 0,.int 4 0,.ref 339,.int 170 0,.int 4 0,.ref 346],#[]⟩
def qzw:Obj:=coO [.str "Rules" 731,.str "Rules" 732,.str "/claim/cut.py" 733,.int 145 0,.int 0 0,.int 0 0,.int 0 0,.int 0 0,.ref 302,.bool false,.int 181 0,.ref 303,.none,.none,.none,.none,.int 734 0,.int 145 0,.str "/claim/cut.py" 735]
noncomputable def qzv:Obj:=⟨.type "frame",none,.plain,#[some (.ref 304),some (.ref 3),some (.ref 301),none,some (.str "lentgate.rules" 727),none,some (.ref 0)]⟩
def qzu:Obj:=tup [.str "many_told" 800,.str "standing" 801]
def qzt:Obj:=nsO [e1 P "__module__" 736 (.str "lentgate.rules" 727),e1 P "__firstlineno__" 740 (.int 145 739),e1 P "__init__" 747 (.ref 312),e1 P "tell" 760 (.ref 319),e1 P "stands" 768 (.ref 326),e1 P "drop" 776 (.ref 333),e1 P "door_for" 792 (.ref 340),e1 P "listed" 799 (.ref 347),e1 P "__static_attributes__" 802 (.ref 348),e1 P "__dict__" 804 (.ref 351),e1 P "__weakref__" 806 (.ref 352),e1 P "__doc__" 807 (.none)] 4
noncomputable def qzs:Obj:=⟨.type "type",none,.cls { name:="Rules",bases:=[.type "object"],mro:=[.ref 350,.type "object"],ns:=349,qualname:="Rules",hasDict:=true,slotNames:=[],subclasses:=[],abstract:=false,collection:=none,hasDel:=false },#[none,none,some (.str "Rules" 729),some (.str "Rules" 737),some (.builtin "object.__new__"),some (.bool true)]⟩
noncomputable def qzr:Obj:=⟨.type "getset_descriptor",none,.fields #[.str "__dict__" 803,.ref 350,.builtin "function.__dict__",.builtin "function.__dict__#set"],#[]⟩
noncomputable def qzq:Obj:=⟨.type "getset_descriptor",none,.fields #[.str "__weakref__" 805,.ref 350,.builtin "ExceptionGroup.__weakref__",.none],#[]⟩
noncomputable def qzp:Obj:=⟨.type "super",none,.fields #[.ref 350,.ref 350,.ref 350],#[]⟩
noncomputable def qzo:Obj:=⟨.type "builtin_function_or_method",none,.fields #[.builtin "object.__init_subclass__",.ref 350],#[]⟩
def qzn:Obj:=nsO [e1 P "__module__" 819 (.str "lentgate.pool" 810),e1 P "__qualname__" 821 (.str "Pool" 820),e1 P "__firstlineno__" 823 (.int 173 822),e1 P "__init__" 832 (.ref 368),e1 P "has" 840 (.ref 375),e1 P "is_free" 849 (.ref 382),e1 P "from_mark" 856 (.ref 389),e1 P "picked" 867 (.ref 396),e1 P "take" 875 (.ref 403),e1 P "give" 884 (.ref 410),e1 P "resting" 890 (.ref 415),e1 P "many_free" 896 (.ref 420),e1 P "__static_attributes__" 902 (.ref 421)] 13
noncomputable def qBT:Obj:=⟨.none,none,.fields #[.int 175 0,.int 4 0,.ref 367,.int 182 0,.int 4 0,.ref 374,.int 185 0,.int 4 0,.ref 381,.int 190 0,.int 4 0,.ref 388,.int 193 0,.int 4 0,.ref 395,.int 201 0,.int 4 0,.ref 402,.int 207 0,.int 4 0,.ref 409,.int 211 0,.int 4 0,.ref 414,.int 214 0,.int 4 0,.ref 419],#[]⟩
def qzm:Obj:=coO [.str "Pool" 814,.str "Pool" 815,.str "/claim/cut.py" 816,.int 173 0,.int 0 0,.int 0 0,.int 0 0,.int 0 0,.ref 358,.bool false,.int 181 0,.ref 359,.none,.none,.none,.none,.int 817 0,.int 173 0,.str "/claim/cut.py" 818]
noncomputable def qzl:Obj:=⟨.type "frame",none,.plain,#[some (.ref 360),some (.ref 3),some (.ref 357),none,some (.str "lentgate.pool" 810),none,some (.ref 0)]⟩
def qBS:Obj:=tfO "resting" "Pool.resting" (sub (top 63) 7)
def qzk:Obj:=coO [.str "resting" 885,.str "Pool.resting" 886,.str "/claim/cut.py" 887,.int 211 0,.int 2 0,.int 0 0,.int 0 0,.int 3 0,.ref 411,.bool true,.int 181 0,.ref 412,.none,.none,.none,.ref 413,.int 888 0,.int 211 0,.str "/claim/cut.py" 889]
def qzj:Obj:=fnO "resting" "Pool.resting" (sub (top 63) 7) (.str "lentgate.pool" 810) (.ref 414)
def qBR:Obj:=tfO "many_free" "Pool.many_free" (sub (top 63) 8)
def qzi:Obj:=coO [.str "many_free" 891,.str "Pool.many_free" 892,.str "/claim/cut.py" 893,.int 214 0,.int 2 0,.int 0 0,.int 0 0,.int 3 0,.ref 416,.bool true,.int 181 0,.ref 417,.none,.none,.none,.ref 418,.int 894 0,.int 214 0,.str "/claim/cut.py" 895]
def qzh:Obj:=fnO "many_free" "Pool.many_free" (sub (top 63) 8) (.str "lentgate.pool" 810) (.ref 419)
def qzg:Obj:=tup [.str "high" 897,.str "low" 898,.str "mark" 899,.str "taken" 900,.str "until" 901]
def qzf:Obj:=nsO [e1 P "__module__" 819 (.str "lentgate.pool" 810),e1 P "__firstlineno__" 823 (.int 173 822),e1 P "__init__" 832 (.ref 368),e1 P "has" 840 (.ref 375),e1 P "is_free" 849 (.ref 382),e1 P "from_mark" 856 (.ref 389),e1 P "picked" 867 (.ref 396),e1 P "take" 875 (.ref 403),e1 P "give" 884 (.ref 410),e1 P "resting" 890 (.ref 415),e1 P "many_free" 896 (.ref 420),e1 P "__static_attributes__" 902 (.ref 421),e1 P "__dict__" 904 (.ref 424),e1 P "__weakref__" 906 (.ref 425),e1 P "__doc__" 907 (.none)] 4
noncomputable def qze:Obj:=⟨.type "type",none,.cls { name:="Pool",bases:=[.type "object"],mro:=[.ref 423,.type "object"],ns:=422,qualname:="Pool",hasDict:=true,slotNames:=[],subclasses:=[],abstract:=false,collection:=none,hasDel:=false },#[none,none,some (.str "Pool" 812),some (.str "Pool" 820),some (.builtin "object.__new__"),some (.bool true)]⟩
noncomputable def qzd:Obj:=⟨.type "getset_descriptor",none,.fields #[.str "__dict__" 903,.ref 423,.builtin "function.__dict__",.builtin "function.__dict__#set"],#[]⟩
noncomputable def qzc:Obj:=⟨.type "getset_descriptor",none,.fields #[.str "__weakref__" 905,.ref 423,.builtin "ExceptionGroup.__weakref__",.none],#[]⟩
noncomputable def qzb:Obj:=⟨.type "super",none,.fields #[.ref 423,.ref 423,.ref 423],#[]⟩
noncomputable def qza:Obj:=⟨.type "builtin_function_or_method",none,.fields #[.builtin "object.__init_subclass__",.ref 423],#[]⟩
def qy9:Obj:=nsO [e1 P "__module__" 919 (.str "lentgate.talks" 910),e1 P "__qualname__" 921 (.str "Talk" 920),e1 P "__firstlineno__" 923 (.int 217 922),e1 P "__init__" 934 (.ref 441),e1 P "__static_attributes__" 939 (.ref 442)] 5
noncomputable def qBQ:Obj:=⟨.none,none,.fields #[.int 219 0,.int 4 0,.ref 440],#[]⟩
def qy8:Obj:=coO [.str "Talk" 914,.str "Talk" 915,.str "/claim/cut.py" 916,.int 217 0,.int 0 0,.int 0 0,.int 0 0,.int 0 0,.ref 431,.bool false,.int 181 0,.ref 432,.none,.none,.none,.none,.int 917 0,.int 217 0,.str "/claim/cut.py" 918]
noncomputable def qy7:Obj:=⟨.type "frame",none,.plain,#[some (.ref 433),some (.ref 3),some (.ref 430),none,some (.str "lentgate.talks" 910),none,some (.ref 0)]⟩
def qy6:Obj:=tup [.str "inner" 935,.str "number" 936,.str "over" 937,.str "state" 938]
def qy5:Obj:=nsO [e1 P "__module__" 919 (.str "lentgate.talks" 910),e1 P "__firstlineno__" 923 (.int 217 922),e1 P "__init__" 934 (.ref 441),e1 P "__static_attributes__" 939 (.ref 442),e1 P "__dict__" 941 (.ref 445),e1 P "__weakref__" 943 (.ref 446),e1 P "__doc__" 944 (.none)] 4
noncomputable def qy4:Obj:=⟨.type "type",none,.cls { name:="Talk",bases:=[.type "object"],mro:=[.ref 444,.type "object"],ns:=443,qualname:="Talk",hasDict:=true,slotNames:=[],subclasses:=[],abstract:=false,collection:=none,hasDel:=false },#[none,none,some (.str "Talk" 912),some (.str "Talk" 920),some (.builtin "object.__new__"),some (.bool true)]⟩
noncomputable def qy3:Obj:=⟨.type "getset_descriptor",none,.fields #[.str "__dict__" 940,.ref 444,.builtin "function.__dict__",.builtin "function.__dict__#set"],#[]⟩
noncomputable def qy2:Obj:=⟨.type "getset_descriptor",none,.fields #[.str "__weakref__" 942,.ref 444,.builtin "ExceptionGroup.__weakref__",.none],#[]⟩
noncomputable def qy1:Obj:=⟨.type "super",none,.fields #[.ref 444,.ref 444,.ref 444],#[]⟩
noncomputable def qy0:Obj:=⟨.type "builtin_function_or_method",none,.fields #[.builtin "object.__init_subclass__",.ref 444],#[]⟩
def qyZ:Obj:=nsO [e1 P "__module__" 954 (.str "lentgate.talks" 910),e1 P "__qualname__" 956 (.str "Talks" 955),e1 P "__firstlineno__" 958 (.int 224 957),e1 P "__init__" 966 (.ref 462),e1 P "of_inner" 974 (.ref 469),e1 P "of_outer" 985 (.ref 476),e1 P "is_with" 991 (.ref 481),e1 P "living" 998 (.ref 488),e1 P "is_living" 1006 (.ref 495),e1 P "number_of" 1014 (.ref 502),e1 P "holder_at" 1022 (.ref 509),e1 P "held" 1028 (.ref 514),e1 P "lent_until" 1036 (.ref 521),e1 P "lend" 1046 (.ref 528),e1 P "end_lend" 1055 (.ref 535),e1 P "begin" 1071 (.ref 542),e1 P "lead" 1080 (.ref 549),e1 P "end" 1095 (.ref 556),e1 P "pass_by" 1101 (.ref 561),e1 P "__static_attributes__" 1109 (.ref 562)] 20
noncomputable def qBP:Obj:=⟨.none,none,.fields #[.int 226 0,.int 4 0,.ref 461,.int 235 0,.int 4 0,.ref 468,.int 238 0,.int 4 0,.ref 475,.int 243 0,.int 4 0,.ref 480,.int 246 0,.int 4 0,.ref 487,.int 249 0,.int 4 0,.ref 494,.int 252 0,.int 4 0,.ref 501,.int 255 0,.int 4 0,.ref 508,.int 258 0,.int 4 0,.ref 513,.int 261 0,.int 4 0,.ref 520,.int 264 0,.int 4 0,.ref 527,.int 270 0,.int 4 0,.ref 534,.int 275 0,.int 4 0,.ref 541,.int 283 0,.int 4 0,.ref 548,.int 290 0,.int 4 0,.ref 555,.int 301 0,.int 4 0,.ref 560],#[]⟩
def qyY:Obj:=coO [.str "Talks" 949,.str "Talks" 950,.str "/claim/cut.py" 951,.int 224 0,.int 0 0,.int 0 0,.int 0 0,.int 0 0,.ref 452,.bool false,.int 181 0,.ref 453,.none,.none,.none,.none,.int 952 0,.int 224 0,.str "/claim/cut.py" 953]
noncomputable def qyX:Obj:=⟨.type "frame",none,.plain,#[some (.ref 454),some (.ref 3),some (.ref 451),none,some (.str "lentgate.talks" 910),none,some (.ref 0)]⟩
def qBO:Obj:=tfO "is_with" "Talks.is_with" (sub (top 66) 3)
def qyW:Obj:=coO [.str "is_with" 986,.str "Talks.is_with" 987,.str "/claim/cut.py" 988,.int 243 0,.int 3 0,.int 0 0,.int 0 0,.int 3 0,.ref 477,.bool true,.int 181 0,.ref 478,.none,.none,.none,.ref 479,.int 989 0,.int 243 0,.str "/claim/cut.py" 990]
def qyV:Obj:=fnO "is_with" "Talks.is_with" (sub (top 66) 3) (.str "lentgate.talks" 910) (.ref 480)
def qBN:Obj:=tfO "held" "Talks.held" (sub (top 66) 8)
def qyU:Obj:=coO [.str "held" 1023,.str "Talks.held" 1024,.str "/claim/cut.py" 1025,.int 258 0,.int 2 0,.int 0 0,.int 0 0,.int 3 0,.ref 510,.bool true,.int 181 0,.ref 511,.none,.none,.none,.ref 512,.int 1026 0,.int 258 0,.str "/claim/cut.py" 1027]
def qyT:Obj:=fnO "held" "Talks.held" (sub (top 66) 8) (.str "lentgate.talks" 910) (.ref 513)
def qBM:Obj:=tfO "pass_by" "Talks.pass_by" (sub (top 66) 15)
def qyS:Obj:=coO [.str "pass_by" 1096,.str "Talks.pass_by" 1097,.str "/claim/cut.py" 1098,.int 301 0,.int 2 0,.int 0 0,.int 0 0,.int 3 0,.ref 557,.bool true,.int 181 0,.ref 558,.none,.none,.none,.ref 559,.int 1099 0,.int 301 0,.str "/claim/cut.py" 1100]
def qyR:Obj:=fnO "pass_by" "Talks.pass_by" (sub (top 66) 15) (.str "lentgate.talks" 910) (.ref 560)
def qyQ:Obj:=tup [.str "by_inner" 1102,.str "by_number" 1103,.str "form" 1104,.str "holders" 1105,.str "now" 1106,.str "numbers" 1107,.str "pool" 1108]
def qyP:Obj:=nsO [e1 P "__module__" 954 (.str "lentgate.talks" 910),e1 P "__firstlineno__" 958 (.int 224 957),e1 P "__init__" 966 (.ref 462),e1 P "of_inner" 974 (.ref 469),e1 P "of_outer" 985 (.ref 476),e1 P "is_with" 991 (.ref 481),e1 P "living" 998 (.ref 488),e1 P "is_living" 1006 (.ref 495),e1 P "number_of" 1014 (.ref 502),e1 P "holder_at" 1022 (.ref 509),e1 P "held" 1028 (.ref 514),e1 P "lent_until" 1036 (.ref 521),e1 P "lend" 1046 (.ref 528),e1 P "end_lend" 1055 (.ref 535),e1 P "begin" 1071 (.ref 542),e1 P "lead" 1080 (.ref 549),e1 P "end" 1095 (.ref 556),e1 P "pass_by" 1101 (.ref 561),e1 P "__static_attributes__" 1109 (.ref 562),e1 P "__dict__" 1111 (.ref 565),e1 P "__weakref__" 1113 (.ref 566),e1 P "__doc__" 1114 (.none)] 4
noncomputable def qyO:Obj:=⟨.type "type",none,.cls { name:="Talks",bases:=[.type "object"],mro:=[.ref 564,.type "object"],ns:=563,qualname:="Talks",hasDict:=true,slotNames:=[],subclasses:=[],abstract:=false,collection:=none,hasDel:=false },#[none,none,some (.str "Talks" 947),some (.str "Talks" 955),some (.builtin "object.__new__"),some (.bool true)]⟩
noncomputable def qyN:Obj:=⟨.type "getset_descriptor",none,.fields #[.str "__dict__" 1110,.ref 564,.builtin "function.__dict__",.builtin "function.__dict__#set"],#[]⟩
noncomputable def qyM:Obj:=⟨.type "getset_descriptor",none,.fields #[.str "__weakref__" 1112,.ref 564,.builtin "ExceptionGroup.__weakref__",.none],#[]⟩
noncomputable def qyL:Obj:=⟨.type "super",none,.fields #[.ref 564,.ref 564,.ref 564],#[]⟩
noncomputable def qyK:Obj:=⟨.type "builtin_function_or_method",none,.fields #[.builtin "object.__init_subclass__",.ref 564],#[]⟩
def qyJ:Obj:=nsO [e1 P "__module__" 1126 (.str "lentgate.gate" 1117),e1 P "__qualname__" 1128 (.str "Gate" 1127),e1 P "__firstlineno__" 1130 (.int 307 1129),e1 P "__init__" 1138 (.ref 582),e1 P "deed" 1147 (.ref 589),e1 P "out" 1161 (.ref 596),e1 P "come" 1174 (.ref 603),e1 P "lost" 1186 (.ref 610),e1 P "wait" 1194 (.ref 617),e1 P "rule" 1206 (.ref 624),e1 P "unrule" 1214 (.ref 631),e1 P "moment" 1221 (.ref 638),e1 P "free" 1228 (.ref 645),e1 P "lends" 1235 (.ref 652),e1 P "talks" 1242 (.ref 659),e1 P "rests" 1249 (.ref 666),e1 P "rules" 1256 (.ref 673),e1 P "book" 1263 (.ref 680),e1 P "answered" 1278 (.ref 687),e1 P "sent" 1295 (.ref 694),e1 P "lead_out" 1306 (.ref 701),e1 P "begin_out" 1316 (.ref 708),e1 P "picked_for" 1326 (.ref 715),e1 P "come_in" 1339 (.ref 722),e1 P "lead_in" 1355 (.ref 729),e1 P "sifted" 1366 (.ref 736),e1 P "lets_note_in" 1376 (.ref 743),e1 P "come_by_rule" 1393 (.ref 750),e1 P "told_lost" 1407 (.ref 757),e1 P "rule_told" 1420 (.ref 764),e1 P "rule_dropped" 1428 (.ref 771),e1 P "__static_attributes__" 1434 (.ref 772)] 32
noncomputable def qBL:Obj:=⟨.none,none,.fields #[.int 309 0,.int 4 0,.ref 581,.int 318 0,.int 4 0,.ref 588,.int 325 0,.int 4 0,.ref 595,.int 328 0,.int 4 0,.ref 602,.int 331 0,.int 4 0,.ref 609,.int 334 0,.int 4 0,.ref 616,.int 337 0,.int 4 0,.ref 623,.int 340 0,.int 4 0,.ref 630,.int 343 0,.int 4 0,.ref 637,.int 346 0,.int 4 0,.ref 644,.int 349 0,.int 4 0,.ref 651,.int 352 0,.int 4 0,.ref 658,.int 355 0,.int 4 0,.ref 665,.int 358 0,.int 4 0,.ref 672,.int 361 0,.int 4 0,.ref 679,.int 364 0,.int 4 0,.ref 686,.int 379 0,.int 4 0,.ref 693,.int 387 0,.int 4 0,.ref 700,.int 397 0,.int 4 0,.ref 707,.int 409 0,.int 4 0,.ref 714,.int 415 0,.int 4 0,.ref 721,.int 423 0,.int 4 0,.ref 728,.int 433 0,.int 4 0,.ref 735,.int 441 0,.int 4 0,.ref 742,.int 445 0,.int 4 0,.ref 749,.int 459 0,.int 4 0,.ref 756,.int 466 0,.int 4 0,.ref 763,.int 472 0,.int 4 0,.ref 770],#[]⟩
def qyI:Obj:=coO [.str "Gate" 1121,.str "Gate" 1122,.str "/claim/cut.py" 1123,.int 307 0,.int 0 0,.int 0 0,.int 0 0,.int 0 0,.ref 572,.bool false,.int 181 0,.ref 573,.none,.none,.none,.none,.int 1124 0,.int 307 0,.str "/claim/cut.py" 1125]
noncomputable def qyH:Obj:=⟨.type "frame",none,.plain,#[some (.ref 574),some (.ref 3),some (.ref 571),none,some (.str "lentgate.gate" 1117),none,some (.ref 0)]⟩
def qyG:Obj:=tup [.str "done" 1429,.str "form" 1430,.str "strangers" 1431,.str "table" 1432,.str "wish" 1433]
def qyF:Obj:=nsO [e1 P "__module__" 1126 (.str "lentgate.gate" 1117),e1 P "__firstlineno__" 1130 (.int 307 1129),e1 P "__init__" 1138 (.ref 582),e1 P "deed" 1147 (.ref 589),e1 P "out" 1161 (.ref 596),e1 P "come" 1174 (.ref 603),e1 P "lost" 1186 (.ref 610),e1 P "wait" 1194 (.ref 617),e1 P "rule" 1206 (.ref 624),e1 P "unrule" 1214 (.ref 631),e1 P "moment" 1221 (.ref 638),e1 P "free" 1228 (.ref 645),e1 P "lends" 1235 (.ref 652),e1 P "talks" 1242 (.ref 659),e1 P "rests" 1249 (.ref 666),e1 P "rules" 1256 (.ref 673),e1 P "book" 1263 (.ref 680),e1 P "answered" 1278 (.ref 687),e1 P "sent" 1295 (.ref 694),e1 P "lead_out" 1306 (.ref 701),e1 P "begin_out" 1316 (.ref 708),e1 P "picked_for" 1326 (.ref 715),e1 P "come_in" 1339 (.ref 722),e1 P "lead_in" 1355 (.ref 729),e1 P "sifted" 1366 (.ref 736),e1 P "lets_note_in" 1376 (.ref 743),e1 P "come_by_rule" 1393 (.ref 750),e1 P "told_lost" 1407 (.ref 757),e1 P "rule_told" 1420 (.ref 764),e1 P "rule_dropped" 1428 (.ref 771),e1 P "__static_attributes__" 1434 (.ref 772),e1 P "__dict__" 1436 (.ref 775),e1 P "__weakref__" 1438 (.ref 776),e1 P "__doc__" 1439 (.none)] 4
noncomputable def qyE:Obj:=⟨.type "type",none,.cls { name:="Gate",bases:=[.type "object"],mro:=[.ref 774,.type "object"],ns:=773,qualname:="Gate",hasDict:=true,slotNames:=[],subclasses:=[],abstract:=false,collection:=none,hasDel:=false },#[none,none,some (.str "Gate" 1119),some (.str "Gate" 1127),some (.builtin "object.__new__"),some (.bool true)]⟩
noncomputable def qyD:Obj:=⟨.type "getset_descriptor",none,.fields #[.str "__dict__" 1435,.ref 774,.builtin "function.__dict__",.builtin "function.__dict__#set"],#[]⟩
noncomputable def qyC:Obj:=⟨.type "getset_descriptor",none,.fields #[.str "__weakref__" 1437,.ref 774,.builtin "ExceptionGroup.__weakref__",.none],#[]⟩
noncomputable def qyB:Obj:=⟨.type "super",none,.fields #[.ref 774,.ref 774,.ref 774],#[]⟩
noncomputable def qyA:Obj:=⟨.type "builtin_function_or_method",none,.fields #[.builtin "object.__init_subclass__",.ref 774],#[]⟩
def qyz:Obj:=tup [.str "one" 1454,.str "other" 1455]
def qBK:Obj:=tfO "is_steps" "is_steps" (top 78)
def qyy:Obj:=coO [.str "is_steps" 1466,.str "is_steps" 1467,.str "/claim/cut.py" 1468,.int 487 0,.int 1 0,.int 0 0,.int 0 0,.int 3 0,.ref 787,.bool true,.int 181 0,.ref 788,.none,.none,.none,.ref 789,.int 1469 0,.int 487 0,.str "/claim/cut.py" 1470]
def qyx:Obj:=fnO "is_steps" "is_steps" (top 78) (.str "lentgate.meetings" 1442) (.ref 790)
def qyw:Obj:=nsO [e1 P "__module__" 1479 (.str "lentgate.meetings" 1442),e1 P "__qualname__" 1481 (.str "Side" 1480),e1 P "__firstlineno__" 1483 (.int 491 1482),e1 P "__init__" 1493 (.ref 805),e1 P "write" 1502 (.ref 812),e1 P "__static_attributes__" 1507 (.ref 813)] 6
noncomputable def qBJ:Obj:=⟨.none,none,.fields #[.int 493 0,.int 4 0,.ref 804,.int 499 0,.int 4 0,.ref 811],#[]⟩
def qyv:Obj:=coO [.str "Side" 1474,.str "Side" 1475,.str "/claim/cut.py" 1476,.int 491 0,.int 0 0,.int 0 0,.int 0 0,.int 0 0,.ref 795,.bool false,.int 181 0,.ref 796,.none,.none,.none,.none,.int 1477 0,.int 491 0,.str "/claim/cut.py" 1478]
noncomputable def qyu:Obj:=⟨.type "frame",none,.plain,#[some (.ref 797),some (.ref 3),some (.ref 794),none,some (.str "lentgate.meetings" 1442),none,some (.ref 0)]⟩
def qyt:Obj:=tup [.str "door" 1503,.str "gate" 1504,.str "known" 1505,.str "place" 1506]
def qys:Obj:=nsO [e1 P "__module__" 1479 (.str "lentgate.meetings" 1442),e1 P "__firstlineno__" 1483 (.int 491 1482),e1 P "__init__" 1493 (.ref 805),e1 P "write" 1502 (.ref 812),e1 P "__static_attributes__" 1507 (.ref 813),e1 P "__dict__" 1509 (.ref 816),e1 P "__weakref__" 1511 (.ref 817),e1 P "__doc__" 1512 (.none)] 4
noncomputable def qyr:Obj:=⟨.type "type",none,.cls { name:="Side",bases:=[.type "object"],mro:=[.ref 815,.type "object"],ns:=814,qualname:="Side",hasDict:=true,slotNames:=[],subclasses:=[],abstract:=false,collection:=none,hasDel:=false },#[none,none,some (.str "Side" 1472),some (.str "Side" 1480),some (.builtin "object.__new__"),some (.bool true)]⟩
noncomputable def qyq:Obj:=⟨.type "getset_descriptor",none,.fields #[.str "__dict__" 1508,.ref 815,.builtin "function.__dict__",.builtin "function.__dict__#set"],#[]⟩
noncomputable def qyp:Obj:=⟨.type "getset_descriptor",none,.fields #[.str "__weakref__" 1510,.ref 815,.builtin "ExceptionGroup.__weakref__",.none],#[]⟩
noncomputable def qyo:Obj:=⟨.type "super",none,.fields #[.ref 815,.ref 815,.ref 815],#[]⟩
noncomputable def qyn:Obj:=⟨.type "builtin_function_or_method",none,.fields #[.builtin "object.__init_subclass__",.ref 815],#[]⟩
def qBI:Obj:=tfO "meets" "meets" (top 82)
def qym:Obj:=coO [.str "meets" 1539,.str "meets" 1540,.str "/claim/cut.py" 1541,.int 524 0,.int 4 0,.int 0 0,.int 0 0,.int 3 0,.ref 834,.bool true,.int 181 0,.ref 835,.none,.none,.none,.ref 836,.int 1542 0,.int 524 0,.str "/claim/cut.py" 1543]
def qyl:Obj:=fnO "meets" "meets" (top 82) (.str "lentgate.meetings" 1442) (.ref 837)
def qvM:Obj:=tfO "_law_a_form" "_law_a_form" (top 87)
def qsz:Obj:=coO [.str "_law_a_form" 1574,.str "_law_a_form" 1575,.str "/claim/cut.py" 1576,.int 547 0,.int 1 0,.int 0 0,.int 0 0,.int 3 0,.ref 860,.bool true,.int 181 0,.ref 861,.none,.none,.none,.ref 862,.int 1577 0,.int 547 0,.str "/claim/cut.py" 1578]
def qsy:Obj:=fnO "_law_a_form" "_law_a_form" (top 87) (.str "law_lentgate_k36_whole_meetings_by_their_for" 1545) (.ref 863)
def qvL:Obj:=tfO "_law_plain" "_law_plain" (top 89)
def qsx:Obj:=coO [.str "_law_plain" 1597,.str "_law_plain" 1598,.str "/claim/cut.py" 1599,.int 582 0,.int 1 0,.int 0 0,.int 0 0,.int 3 0,.ref 872,.bool true,.int 181 0,.ref 873,.none,.none,.none,.ref 874,.int 1600 0,.int 582 0,.str "/claim/cut.py" 1601]
def qsw:Obj:=fnO "_law_plain" "_law_plain" (top 89) (.str "law_lentgate_k36_whole_meetings_by_their_for" 1545) (.ref 875)
def qvK:Obj:=tfO "_law_turned" "_law_turned" (top 90)
def qsv:Obj:=coO [.str "_law_turned" 1603,.str "_law_turned" 1604,.str "/claim/cut.py" 1605,.int 584 0,.int 1 0,.int 0 0,.int 0 0,.int 3 0,.ref 877,.bool true,.int 181 0,.ref 878,.none,.none,.none,.ref 879,.int 1606 0,.int 584 0,.str "/claim/cut.py" 1607]
def qsu:Obj:=fnO "_law_turned" "_law_turned" (top 90) (.str "law_lentgate_k36_whole_meetings_by_their_for" 1545) (.ref 880)
def qvJ:Obj:=tfO "law" "law" (top 91)
def qst:Obj:=coO [.str "law" 1609,.str "law" 1610,.str "/claim/cut.py" 1611,.int 587 0,.int 1 0,.int 0 0,.int 0 0,.int 3 0,.ref 882,.bool true,.int 181 0,.ref 883,.none,.none,.none,.ref 884,.int 1612 0,.int 587 0,.str "/claim/cut.py" 1613]
def qss:Obj:=fnO "law" "law" (top 91) (.str "law_lentgate_k36_whole_meetings_by_their_for" 1545) (.ref 885)
def fin(P:Params)(D:Obj):List Obj:=[boot_o_0 P,boot_o_1 P,boot_o_2 P,nsO ((ns P).take 91) 91,boot_o_4 P,boot_o_5 P,boot_o_6 P,boot_o_7 P,boot_o_8 P,boot_o_9 P,boot_o_10 P,v7,tbO (tb.take 159),v13,v14]++(d15.objs++([v35,v37,v39]++(d25.objs++(d32.objs++(d39.objs++(d46.objs++(d53.objs++(d60.objs++(d67.objs++(d74.objs++(d81.objs++(d88.objs++([v7,v8,qB0,qAu,qAt]++(d100.objs++(d107.objs++(d114.objs++(d121.objs++(d128.objs++(d135.objs++(d142.objs++([v201 P]++(d150.objs++(d157.objs++([qAs,qe1,qAr P,v7,v8,qAq,qAp,v7,qAo P,qzZ,qAn,qAm,qAl,qpa,qe1,qAk P,v7,v8,qAj,qAi,v7,qAh P,qAg,qAf,qAe,qpa,qe1,qAd P,v7,v8,qAc,qAb,v7,qAa P,qz9,qz8,qz7,qpa,qe1,qz6 P,v7,v8,qz5,qz4,v7,qz3 P,qz2,qz1,qz0,qpa,qe1,qzY P,v7,v8,qzX,qzW,v7,qzV P,qzU,qzT,qzS,qzR,qzQ,qzP,v307 P]++(d229.objs++([v7,v8,qBV,qzO,qzN]++(d241.objs++(d248.objs++(d255.objs++([D,qzM,qzL,qzK,qzJ,qzI,qzH,qzG,qzF,qzE,qzD,qzC,qzB,qzA,qzz,qzy]++(d278.objs++(d285.objs++(d292.objs++([v7,qe1,qzx P,v7,qBU,qzw,qzv]++(d306.objs++(d313.objs++(d320.objs++(d327.objs++(d334.objs++(d341.objs++([qzu,qzt P,qzs,qzr,qzq,qzp,qzo,v7,qe1,qzn P,v7,qBT,qzm,qzl]++(d362.objs++(d369.objs++(d376.objs++(d383.objs++(d390.objs++(d397.objs++(d404.objs++([v7,v8,qBS,qzk,qzj,v7,v8,qBR,qzi,qzh,qzg,qzf P,qze,qzd,qzc,qzb,qza,v7,qe1,qy9 P,v7,qBQ,qy8,qy7]++(d435.objs++([qy6,qy5 P,qy4,qy3,qy2,qy1,qy0,v7,qe1,qyZ P,v7,qBP,qyY,qyX]++(d456.objs++(d463.objs++(d470.objs++([v7,v8,qBO,qyW,qyV]++(d482.objs++(d489.objs++(d496.objs++(d503.objs++([v7,v8,qBN,qyU,qyT]++(d515.objs++(d522.objs++(d529.objs++(d536.objs++(d543.objs++(d550.objs++([v7,v8,qBM,qyS,qyR,qyQ,qyP P,qyO,qyN,qyM,qyL,qyK,v7,qe1,qyJ P,v7,qBL,qyI,qyH]++(d576.objs++(d583.objs++(d590.objs++(d597.objs++(d604.objs++(d611.objs++(d618.objs++(d625.objs++(d632.objs++(d639.objs++(d646.objs++(d653.objs++(d660.objs++(d667.objs++(d674.objs++(d681.objs++(d688.objs++(d695.objs++(d702.objs++(d709.objs++(d716.objs++(d723.objs++(d730.objs++(d737.objs++(d744.objs++(d751.objs++(d758.objs++(d765.objs++([qyG,qyF P,qyE,qyD,qyC,qyB,qyA,qyz]++(d780.objs++([v7,v8,qBK,qyy,qyx,v7,qe1,qyw P,v7,qBJ,qyv,qyu]++(d799.objs++(d806.objs++([qyt,qys P,qyr,qyq,qyp,qyo,qyn]++(d820.objs++(d827.objs++([v7,v8,qBI,qym,qyl]++(d839.objs++(d846.objs++(d853.objs++([v7,v8,qvM,qsz,qsy]++(d865.objs++([v7,v8,qvL,qsx,qsw,v7,v8,qvK,qsv,qsu,v7,v8,qvJ,qst,qss]))))))))))))))))))))))))))))))))))))))))))))))))))))))))))))))))))))))))))))))))))))))))))))))))))))))))))))))
def qnE:List Obj:=fin P default
def S_A(P:Params)(os:OsState):SharedT:=⟨treeOf ((((qnE P).take 15).set 3 (boot_o_3 P)).set 12 (tbO (tb.take 0))),15,{},#[],{},187,os⟩
theorem qtF(w:World)(os:OsState):topGo treeTable p w 11 ann 12 ⟨boot_heap w.2,#[],boot_drawn,boot_toks,os⟩ (topStub p)=some ((S_A w.2 os).abs,⟨denote treeTable cd,cd,q0,B⟩):=by kernel_rfl
theorem qo2(w:World)(os:OsState):segRun treeTable p w 11 ann 1 1 (S_A w.2 os).abs (blockOf body env cd q0 B)=some (.next,(S_A w.2 os).abs,cd,q0):=by kernel_rfl
def S_0(P:Params)(os:OsState):SharedT:=⟨treeOf ((((qnE P).take 81).set 3 (nsO ((e1 P "__name__" 165 (.str "lentgate.ends" 194))::((ns P).drop 1).take 29) 30)).set 12 (tbO (tb.take 27))),81,{},#[],{},282,os⟩
theorem qDh(w:World)(os:OsState):segRunT treeTable p w 11 ann 1 391 (S_A w.2 os) (piecesOf ((body.drop 0).take 22) env cd q0 B)=some (.next,S_0 w.2 os,cd,⟨31,0,32,25⟩):=by
 walk_at "w9"
def S_1(P:Params)(os:OsState):SharedT:=⟨treeOf ((((qnE P).take 149).set 3 (nsO ((e1 P "__name__" 165 (.str "lentgate.ends" 194))::((ns P).drop 1).take 39) 40)).set 12 (tbO (tb.take 57))),149,{},#[],{},378,os⟩
theorem qDg(w:World)(os:OsState):segRunT treeTable p w 11 ann 1 315 (S_0 w.2 os) (piecesOf ((body.drop 22).take 10) env cd ⟨31,0,32,25⟩ B)=some (.next,S_1 w.2 os,cd,⟨70,0,71,74⟩):=by
 walk_at "w9"
def S_2(P:Params)(os:OsState):SharedT:=⟨treeOf (((((qnE P).take 177).set 3 (nsO ((e1 P "__name__" 165 (.str "lentgate.errors" 407))::((ns P).drop 1).take 43) 44)).set 12 (tbO (tb.take 66))).set 173 (qBZ)),177,{},#[],{},427,os⟩
theorem qwk(w:World)(os:OsState)(b:Bool):segRunT treeTable p (wf w b) 11 ann 1 362 (S_1 w.2 os) (piecesOf ((body.drop 32).take 5) env cd ⟨70,0,71,74⟩ B)=some (.next,S_2 w.2 os,cd,⟨84,0,85,8⟩):=by
 rw[PySem.W.Fast.te10110043849684766642,PySem.W.Fast.te14364793385576792824];cases b<;>kernel_rfl
theorem qDf(w:World)(os:OsState):segRunT treeTable p w 11 ann 1 362 (S_1 w.2 os) (piecesOf ((body.drop 32).take 5) env cd ⟨70,0,71,74⟩ B)=some (.next,S_2 w.2 os,cd,⟨84,0,85,8⟩):=by
 have h:=qwk w os (w.2.followText "special-get-raises");unfold wf at h;rw[World.withFollow_self]at h;exact h
def S_3(P:Params)(os:OsState):SharedT:=⟨treeOf (((((qnE P).take 189).set 3 (nsO ((e1 P "__name__" 165 (.str "lentgate.errors" 407))::((ns P).drop 1).take 44) 45)).set 12 (tbO (tb.take 69))).set 173 (qBY)),189,{},#[],{},443,os⟩
theorem qDe(w:World)(os:OsState):segRunT treeTable p w 11 ann 1 214 (S_2 w.2 os) (piecesOf ((body.drop 37).take 1) env cd ⟨84,0,85,8⟩ B)=some (.next,S_3 w.2 os,cd,⟨86,0,87,8⟩):=by
 walk_at "w9"
def S_4(P:Params)(os:OsState):SharedT:=⟨treeOf (((((qnE P).take 201).set 3 (nsO ((e1 P "__name__" 165 (.str "lentgate.errors" 407))::((ns P).drop 1).take 45) 46)).set 12 (tbO (tb.take 72))).set 173 (qBX)),201,{},#[],{},459,os⟩
theorem qDd(w:World)(os:OsState):segRunT treeTable p w 11 ann 1 214 (S_3 w.2 os) (piecesOf ((body.drop 38).take 1) env cd ⟨86,0,87,8⟩ B)=some (.next,S_4 w.2 os,cd,⟨88,0,89,8⟩):=by
 walk_at "w9"
def S_5(P:Params)(os:OsState):SharedT:=⟨treeOf (((((qnE P).take 213).set 3 (nsO ((e1 P "__name__" 165 (.str "lentgate.errors" 407))::((ns P).drop 1).take 46) 47)).set 12 (tbO (tb.take 75))).set 173 (qBW)),213,{},#[],{},475,os⟩
theorem qDc(w:World)(os:OsState):segRunT treeTable p w 11 ann 1 214 (S_4 w.2 os) (piecesOf ((body.drop 39).take 1) env cd ⟨88,0,89,8⟩ B)=some (.next,S_5 w.2 os,cd,⟨90,0,91,8⟩):=by
 walk_at "w9"
def S_6(P:Params)(os:OsState):SharedT:=⟨treeOf ((((qnE P).take 229).set 3 (nsO ((e1 P "__name__" 165 (.str "lentgate.forms" 491))::((ns P).drop 1).take 54) 55)).set 12 (tbO (tb.take 78))),229,{},#[],{},529,os⟩
theorem qwj(w:World)(os:OsState)(b:Bool):segRunT treeTable p (wf w b) 11 ann 1 388 (S_5 w.2 os) (piecesOf ((body.drop 40).take 9) env cd ⟨90,0,91,8⟩ B)=some (.next,S_6 w.2 os,cd,⟨101,0,101,7⟩):=by
 rw[PySem.W.Fast.te10110043849684766642,PySem.W.Fast.te14364793385576792824];cases b<;>kernel_rfl
theorem qDb(w:World)(os:OsState):segRunT treeTable p w 11 ann 1 388 (S_5 w.2 os) (piecesOf ((body.drop 40).take 9) env cd ⟨90,0,91,8⟩ B)=some (.next,S_6 w.2 os,cd,⟨101,0,101,7⟩):=by
 have h:=qwj w os (w.2.followText "special-get-raises");unfold wf at h;rw[World.withFollow_self]at h;exact h
def S_7(P:Params)(os:OsState):SharedT:=⟨treeOf ((((qnE P).take 262).set 3 (nsO ((e1 P "__name__" 165 (.str "lentgate.lines" 581))::((ns P).drop 1).take 59) 60)).set 12 (tbO (tb.take 93))),262,{},#[],{},583,os⟩
theorem qDa(w:World)(os:OsState):segRunT treeTable p w 11 ann 1 170 (S_6 w.2 os) (piecesOf ((body.drop 49).take 6) env cd ⟨101,0,101,7⟩ B)=some (.next,S_7 w.2 os,cd,⟨129,0,129,8⟩):=by
 walk_at "w9"
def ob(P:Params)(i:Nat):Obj:=(((((qnE P).take 262).set 3 (nsO ((e1 P "__name__" 165 (.str "lentgate.lines" 581))::((ns P).drop 1).take 59) 60)).set 12 (tbO (tb.take 93))):List Obj).getD i default
def Dd(es:Array DictEntry)(n:Nat):Obj:=⟨.type "dict",none,.dict es n,#[]⟩
def S(o:Nat->Obj)(os:OsState)(D:Obj)(tk:Nat):SharedT:=⟨((((((((((((((((treeOf ((List.range 262).map o)).ins 262 D).ins 263 (tup [.str "house" 583,.none,.str "open" 584])).ins 264 (tup [.str "house" 586,.str "asked" 587,.str "open" 588])).ins 265 (tup [.str "house" 590,.str "called" 591,.str "open" 592])).ins 266 (tup [.str "house" 594,.str "up" 595,.str "say" 596])).ins 267 (tup [.str "house" 598,.str "far" 599,.str "say" 600])).ins 268 (tup [.str "house" 602,.str "up" 603,.str "close" 604])).ins 269 (tup [.str "house" 606,.str "far" 607,.str "close" 608])).ins 270 (tup [.str "far" 610,.none,.str "open" 611])).ins 271 (tup [.str "far" 613,.str "called" 614,.str "open" 615])).ins 272 (tup [.str "far" 617,.str "asked" 618,.str "open" 619])).ins 273 (tup [.str "far" 621,.str "up" 622,.str "say" 623])).ins 274 (tup [.str "far" 625,.str "near" 626,.str "say" 627])).ins 275 (tup [.str "far" 629,.str "up" 630,.str "close" 631])).ins 276 (tup [.str "far" 633,.str "near" 634,.str "close" 635])),277,{},#[],{},tk,os⟩
def S0(o:Nat->Obj)(os:OsState)(tk:Nat):SharedT:=⟨treeOf ((List.range 262).map o),262,{},#[],{},tk,os⟩
def S0d(o:Nat->Obj)(os:OsState)(tk:Nat):SharedT:=⟨(treeOf ((List.range 262).map o)).ins 262 (Dd #[] 0),263,{},#[],{},tk,os⟩
theorem qwi(P:Params)(os:OsState):S_7 P os=S0 (ob P) os 583:=by kernel_rfl
def hs(P:Params)(x:Str):Int:=if x.cps.isEmpty then 0 else reduceHash (P.strHash x.cps)
noncomputable def kt:List (List (Option Str)):=[[some "house",none,some "open"],[some "house",some "asked",some "open"],[some "house",some "called",some "open"],[some "house",some "up",some "say"],[some "house",some "far",some "say"],[some "house",some "up",some "close"],[some "house",some "far",some "close"],[some "far",none,some "open"],[some "far",some "called",some "open"],[some "far",some "asked",some "open"],[some "far",some "up",some "say"],[some "far",some "near",some "say"],[some "far",some "up",some "close"],[some "far",some "near",some "close"]]
noncomputable def vt:LVl:=[.str "asked" 585,.str "asked" 589,.str "up" 593,.str "up" 597,.str "far" 601,.str "near" 605,.str "shut" 609,.str "called" 612,.str "called" 616,.str "up" 620,.str "up" 624,.str "near" 628,.str "far" 632,.str "shut" 636]
def hx(P:Params):Option Str->Int
 |some x=>hs P x
 |none=>hashW P .none
def hi(k:Nat)(P:Params):Int:=Builtin.Tuple.tupleHashOf ((kt.getD k []).map (hx P))
def en(k:Nat)(P:Params):DictEntry:=⟨reduceHash (hi k P),.ref (263+k),vt.getD k .none⟩
def De(k:Nat)(P:Params):Obj:=Dd (([en 0 P,en 1 P,en 2 P,en 3 P,en 4 P,en 5 P,en 6 P,en 7 P,en 8 P,en 9 P,en 10 P,en 11 P,en 12 P,en 13 P]:List DictEntry).take k).toArray k
theorem aM{X:Nat->Prop}(h0:X 0)(h1:X 1)(h2:X 2)(h3:X 3)(h4:X 4)(h5:X 5)(h6:X 6)(h7:X 7)(h8:X 8)(h9:X 9)(h10:X 10)(h11:X 11)(h12:X 12)(h13:X 13):∀ k,k<14->X k:=fun k hk=>match k,hk with|0,_=>h0|1,_=>h1|2,_=>h2|3,_=>h3|4,_=>h4|5,_=>h5|6,_=>h6|7,_=>h7|8,_=>h8|9,_=>h9|10,_=>h10|11,_=>h11|12,_=>h12|13,_=>h13|n+14,h=>absurd h (by omega)
section
variable(w:World)(b:Bool)(o:Nat->Obj)(os:OsState)(D:Obj)(tk:Nat)(ps:Pos)
abbrev RR{α:Type}(w:World)(b:Bool)(o:Nat->Obj)(os:OsState)(D:Obj)(tk:Nat)(ps:Pos)(n:Nat)(x:Sem α)(a:α):Prop:=Rn p (wf w b) 11 ann cd B n x ps (S o os D tk) a ps (S o os D tk)
local macro_rules | `(tactic| walk_at "h0") => `(tactic| (refine qek fun K H lv => ?_; rw [PySem.W.Fast.te10295753902157049106, PySem.W.Fast.te14364793385576792824]; kernel_rfl))
theorem ru(x:String):RR w b o os D tk ps 1 (rule x) ():=by walk_at "h0"
theorem den(es:Array DictEntry)(n:Nat):Rn p (wf w b) 11 ann cd B 1 (dictEntries 262 none) ps (S o os (Dd es n) tk) es ps (S o os (Dd es n) tk):=by walk_at "h0"
theorem dep(es:Array DictEntry)(n:Nat):Rn p (wf w b) 11 ann cd B 1 (dictEpoch 262 none) ps (S o os (Dd es n) tk) n ps (S o os (Dd es n) tk):=by walk_at "h0"
local macro_rules | `(tactic| walk_at "h1") => `(tactic| (refine qek fun K H lv => ?_; rw [PySem.W.Fast.te10295753902157049106, PySem.W.Fast.te14364793385576792824, PySem.W.Fast.te13066428366354244818]; kernel_rfl))
local macro_rules | `(tactic| walk_at "h2") => `(tactic| (refine qek fun K H lv => ?_; rw [PySem.W.Fast.te10295753902157049106, PySem.W.Fast.te14364793385576792824, PySem.W.Fast.te13383273872528276517]; kernel_rfl))
theorem ro:∀ k,k<14->RR w b o os D tk ps 1 (cRoomFor "hash" [.ref (263+k)]) ():=by
 refine aM ?_ ?_ ?_ ?_ ?_ ?_ ?_ ?_ ?_ ?_ ?_ ?_ ?_ ?_<;>walk_at "h2"
local macro_rules | `(tactic| walk_at "h3") => `(tactic| (refine qek fun K H lv => ?_; rw [PySem.W.Fast.te10295753902157049106, PySem.W.Fast.te14364793385576792824, PySem.W.Fast.te4214721358667687652]; kernel_rfl))
theorem sp:∀ k,k<14->RR w b o os D tk ps 1 (specialOf (.ref (263+k)) "__hash__") (some (.builtin "tuple.__hash__")):=by
 refine aM ?_ ?_ ?_ ?_ ?_ ?_ ?_ ?_ ?_ ?_ ?_ ?_ ?_ ?_<;>walk_at "h3"
local macro_rules | `(tactic| walk_at "h4") => `(tactic| (refine qek fun K H lv => ?_; rw [PySem.W.Fast.te10295753902157049106, PySem.W.Fast.te14364793385576792824, PySem.W.Fast.te16697807410369149715]; cases b <;> kernel_rfl))
theorem ca:∀ k,k<14->∀ E:Sem Value,Rn p (wf w b) 11 ann cd B 29 (callSpecialIfBoundUnlessNone? (.ref (263+k)) "__hash__" E) ps (S o os D tk) (some (.int (hi k w.2) (tk+3))) ps (S o os D (tk+4)):=
 aM (fun E=>Rn.more (m1:=27) (by walk_at "h4") (by decide)) (fun E=>Rn.more (m1:=29) (by walk_at "h4") (by decide)) (fun E=>Rn.more (m1:=29) (by walk_at "h4") (by decide)) (fun E=>Rn.more (m1:=29) (by walk_at "h4") (by decide)) (fun E=>Rn.more (m1:=29) (by walk_at "h4") (by decide)) (fun E=>Rn.more (m1:=29) (by walk_at "h4") (by decide)) (fun E=>Rn.more (m1:=29) (by walk_at "h4") (by decide)) (fun E=>Rn.more (m1:=27) (by walk_at "h4") (by decide)) (fun E=>Rn.more (m1:=29) (by walk_at "h4") (by decide)) (fun E=>Rn.more (m1:=29) (by walk_at "h4") (by decide)) (fun E=>Rn.more (m1:=29) (by walk_at "h4") (by decide)) (fun E=>Rn.more (m1:=29) (by walk_at "h4") (by decide)) (fun E=>Rn.more (m1:=29) (by walk_at "h4") (by decide)) (fun E=>Rn.more (m1:=29) (by walk_at "h4") (by decide))
local macro_rules | `(tactic| walk_at "h5") => `(tactic| (refine qek fun K H lv => ?_; rw [PySem.W.Fast.te10295753902157049106, PySem.W.Fast.te14364793385576792824, PySem.W.Fast.te11826078720135083572]; kernel_rfl))
theorem up:∀ k,k<14->Rn p (wf w b) 11 ann cd B 3 (updateDictKeys 262 (fun x=>x.push (en k w.2)) none) ps (S o os (De k w.2) tk) () ps (S o os (De (k+1) w.2) tk):=by
 refine aM ?_ ?_ ?_ ?_ ?_ ?_ ?_ ?_ ?_ ?_ ?_ ?_ ?_ ?_<;>walk_at "h5"
local macro_rules | `(tactic| walk_at "h6") => `(tactic| (refine qek fun K H lv => ?_; rw [PySem.W.Fast.te10295753902157049106, PySem.W.Fast.te14364793385576792824, PySem.W.Fast.te13926502685295537346]; cases b <;> kernel_rfl))
local macro_rules | `(tactic| walk_at "fi") => `(tactic| refine find_none (m := 26) (L := 14) (Nat.le_of_ble_eq_true rfl) (ru _ _ _ _ _ _ _) (den _ _ _ _ _ _ _ _) (dep _ _ _ _ _ _ _ _) (Rn.more (m1 := 3) (by walk_at "h1") (by decide)) ?_)
local macro_rules | `(tactic| walk_at "e16") => `(tactic| refine waC.mpr ⟨⟨⟨_, rfl, by decide⟩, Rn.more (m1 := 3) (by walk_at "h1") (by decide), Rn.more (m1 := 16) (by walk_at "h6") (by decide)⟩, ?_⟩)
local macro_rules | `(tactic| walk_at "e20") => `(tactic| refine waC.mpr ⟨⟨⟨_, rfl, by decide⟩, Rn.more (m1 := 3) (by walk_at "h1") (by decide), Rn.more (m1 := 20) (by walk_at "h6") (by decide)⟩, ?_⟩)
local macro_rules | `(tactic| walk_at "e24") => `(tactic| refine waC.mpr ⟨⟨⟨_, rfl, by decide⟩, Rn.more (m1 := 3) (by walk_at "h1") (by decide), Rn.more (m1 := 24) (by walk_at "h6") (by decide)⟩, ?_⟩)
local macro_rules | `(tactic| walk_at "e26") => `(tactic| refine waC.mpr ⟨⟨⟨_, rfl, by decide⟩, Rn.more (m1 := 3) (by walk_at "h1") (by decide), Rn.more (m1 := 26) (by walk_at "h6") (by decide)⟩, ?_⟩)
local macro_rules | `(tactic| walk_at "g7") => `(tactic| (walk_at "fi"; iterate 7 walk_at "e16"))
theorem fi:∀ k,k<14->∀ h:Int,Rn p (wf w b) 11 ann cd B 797 (dictFind 262 (.ref (263+k)) h) ps (S o os (De k w.2) tk) none ps (S o os (De k w.2) tk):=by
 refine aM ?_ ?_ ?_ ?_ ?_ ?_ ?_ ?_ ?_ ?_ ?_ ?_ ?_ ?_
 · intro h;walk_at "fi";exact wag _
 · intro h;walk_at "fi";walk_at "e26";exact wag _
 · intro h;walk_at "fi";walk_at "e26";walk_at "e20";exact wag _
 · intro h;walk_at "fi";walk_at "e26";walk_at "e20";walk_at "e20";exact wag _
 · intro h;walk_at "fi";walk_at "e26";walk_at "e20";walk_at "e20";walk_at "e20";exact wag _
 · intro h;walk_at "fi";walk_at "e26";walk_at "e20";walk_at "e20";walk_at "e24";walk_at "e20";exact wag _
 · intro h;walk_at "fi";walk_at "e26";walk_at "e20";walk_at "e20";walk_at "e20";walk_at "e24";walk_at "e20";exact wag _
 · intro h;walk_at "g7";exact wag _
 · intro h;walk_at "g7";walk_at "e26";exact wag _
 · intro h;walk_at "g7";walk_at "e26";walk_at "e20";exact wag _
 · intro h;walk_at "g7";walk_at "e26";walk_at "e20";walk_at "e20";exact wag _
 · intro h;walk_at "g7";walk_at "e26";walk_at "e20";walk_at "e20";walk_at "e20";exact wag _
 · intro h;walk_at "g7";walk_at "e26";walk_at "e20";walk_at "e20";walk_at "e24";walk_at "e20";exact wag _
 · intro h;walk_at "g7";walk_at "e26";walk_at "e20";walk_at "e20";walk_at "e20";walk_at "e24";walk_at "e20";exact wag _
theorem se(k:Nat)(hk:k<14):Rn p (wf w b) 11 ann cd B 834 (dictSet 262 (.ref (263+k)) (vt.getD k .none)) ps (S o os (De k w.2) tk) () ps (S o os (De (k+1) w.2) (tk+4)):=
 (qqq (h:=reduceHash (hi k w.2)) (ru w b o os _ (tk+4) ps) (qoI (ru w b o os _ (tk+4) ps) (ro w b o os _ tk ps k hk) (sp w b o os _ tk ps k hk) (ca w b o os _ tk ps k hk)) (fi w b o os (tk+4) ps k hk _) (up w b o os (tk+4) ps k hk)).more (by decide)
end
def vp(k:Nat):Value×Value:=(.ref (263+k),vt.getD k .none)
def vs:List (Value×Value):=(List.range' 0 14).map vp
def DD:Obj:=De 14 P
theorem qpy(w:World)(b:Bool)(o:Nat->Obj)(os:OsState)(ps:Pos){f:Value×Value->Unit->Sem (ForInStep Unit)}(hf:∀ k v,f (k,v) ()=(do dictSet 262 k v;pure (.yield ()))):∀ (j k tk:Nat),k+j=14->
 Rn p (wf w b) 11 ann cd B (834*j) (forIn ((List.range' k j).map vp) () f) ps (S o os (De k w.2) tk) () ps (S o os (DD w.2) (tk+4*j))
 |0,k,tk,h=>by rw[show k=14 by omega];exact qqA
 |j+1,k,tk,h=>by
  rw[List.range'_succ,wae,show tk+4*(j+1)=(tk+4)+4*j by omega]
  exact(qqz (qwB (hf _ _) (qaj (m2:=0) (se w b o os tk ps k (by omega)) qaM)) (qpy w b o os ps hf j (k+1) (tk+4) (by omega))).more (by omega)
theorem qou(w:World)(b:Bool)(o:Nat->Obj)(os:OsState)(tk:Nat)(ps:Pos){f:Value×Value->Unit->Sem (ForInStep Unit)}(hf:∀ k v,f (k,v) ()=(do dictSet 262 k v;pure (.yield ()))):
 Rn p (wf w b) 11 ann cd B 11676 (forIn vs () f) ps (S o os (De 0 w.2) tk) () ps (S o os (DD w.2) (tk+56)):=qpy w b o os ps hf 14 0 tk rfl
def st:Stmt:=body[55]
def qk6:List (Option PySem.Expr):=match st with| .Assign _ (.Dict ks _ _) _=>ks|_=>[]
def qk5:List PySem.Expr:=match st with| .Assign _ (.Dict _ vs _) _=>vs|_=>[]
def qoS:Pos:=match st with| .Assign _ (.Dict _ _ q) _=>q|_=>default
def spos:Pos:=match st with| .Assign _ _ q=>q|_=>default
def qq9:Pos:=⟨130,0,130,10⟩
theorem qCP:st= .Assign [.Name "LINE_STEPS" qq9] (.Dict qk6 qk5 qoS) spos:=by kernel_rfl
def its:List (Option (Sem Value)×Sem Value):=(evalEachOpt qk6 env).zip ((evalEach qk5 env).map fun v=>do let x<-v;standAt qoS;pure x)
def prs:List (Sem Value×Sem Value):=its.filterMap fun x=>x.1.map fun k=>(k,x.2)
theorem stq:exec st env=(do
 standAt spos
 let v<-eval (.Dict qk6 qk5 qoS) env
 standAt qq9
 bindName env "LINE_STEPS" v
 pure .next):=by rw[qCP];exact exec_Assign_Name env "LINE_STEPS" qq9 (.Dict qk6 qk5 qoS) spos (by kernel_rfl)
theorem dq:eval (.Dict qk6 qk5 qoS) env=(do standAt qoS;dictDisplay its):=by kernel_rfl
theorem dd:dictDisplay its=((subDict prs >>= fun d=>pure (some d)) >>= fun o=>match o with|some d=>pure (.ref d)|none=>newDict):=by kernel_rfl
theorem qt6(w:World)(o:Nat->Obj)(os:OsState)(tk:Nat)(ps:Pos){f:Value×Value->Unit->Sem (ForInStep Unit)}(hf:∀ k v,f (k,v) ()=(do dictSet 262 k v;pure (.yield ()))):
 Rn p w 11 ann cd B 11676 (forIn vs () f) ps (S o os (De 0 w.2) tk) () ps (S o os (DD w.2) (tk+56)):=by
 have h:=qou w (w.2.followText "special-get-raises") o os tk ps hf;unfold wf at h;rw[World.withFollow_self]at h;exact h
theorem at_{w:World}{s:SharedT}{ps ps':Pos}:Rn p w 11 ann cd B 1 (standAt ps') ps s () ps' s:=qek fun K H lv=>by kernel_rfl
theorem al{w:World}{o:Nat->Obj}{os:OsState}{tk:Nat}{ps:Pos}:Rn p w 11 ann cd B 1 (alloc { cls:=.type "dict",data:=.dict #[] }) ps (S0 o os tk) 262 ps (S0d o os tk):=qek fun K H lv=>by kernel_rfl
theorem ev{w:World}{o:Nat->Obj}{os:OsState}{ps:Pos}:Rn p w 11 ann cd B 96 (evalPairs prs) ps (S0d o os 583) vs qoS (S o os (De 0 w.2) 637):=qek fun K H lv=>by
 rw[PySem.W.Fast.te10295753902157049106,PySem.W.Fast.te14364793385576792824];kernel_rfl
theorem sub{w:World}{o:Nat->Obj}{os:OsState}{ps:Pos}:Rn p w 11 ann cd B 11773 (subDict prs) ps (S0 o os 583) 262 qoS (S o os (DD w.2) 693):=by
 unfold subDict;refine Rn.more (m1:=1+(96+(11676+0)+0)) (qaj al (qaj (a:=()) (qbA ?_) qaM)) (by decide)
 rw[if_pos (Nat.le_of_ble_eq_true (by kernel_rfl))]
 refine qaj ev (qbA ?_);exact qaj (qt6 w o os 637 qoS (fun _ _=>rfl)) qaM
def S_D(P:Params)(os:OsState)(D:Obj):SharedT:=⟨treeOf ((((fin P D).take 277).set 3 (nsO ((e1 P "__name__" 165 (.str "lentgate.lines" 581))::((ns P).drop 1).take 60) 61)).set 12 (tbO (tb.take 93))),277,{},#[],{},694,os⟩
theorem bn{w:World}{os:OsState}{D:Obj}{ps:Pos}:Rn p w 11 ann cd B 6 (bindName env "LINE_STEPS" (.ref 262)) ps (S (ob w.2) os D 693) () ps (S_D w.2 os D):=qek fun K H lv=>by
 rw[PySem.W.Fast.te10295753902157049106,PySem.W.Fast.te14364793385576792824];kernel_rfl
theorem qwa{w:World}{os:OsState}{ps:Pos}:Rn p w 11 ann cd B 11782 (execs [st] env) ps (S0 (ob w.2) os 583) .next qq9 (S_D w.2 os (DD w.2)):=by
 rw[execs_cons,stq,dq,dd];refine Rn.more (m1:=(1+((1+((11773+0)+0))+(1+(6+0))))+0) (qaj (a:=.next) (qaj at_ (qaj (qaj at_ (qaj (qaj sub qaM) qaM)) (qaj at_ (qaj bn qaM)))) ?_) (by decide)
 exact qaM
theorem qC9(w:World)(os:OsState):segRunT treeTable p w 11 ann 1 11783 (S_7 w.2 os) (piecesOf [st] env cd ⟨129,0,129,8⟩ B)=some (.next,S_D w.2 os (DD w.2),cd,qq9):=by
 rw[qwi];obtain⟨n,hn,h⟩:=qwa (w:=w) (os:=os) (ps:=⟨129,0,129,8⟩) doneF deadEnd id;have e:=qlu (m:=1) (r:=(.next,S_D w.2 os (DD w.2),cd,qq9)) h rfl;have e2:=qjr (11782-n) e;rw[show n+1+(11782-n)=11783 by omega]at e2
 exact e2
def S_9(P:Params)(os:OsState)(D:Obj):SharedT:=⟨treeOf ((((fin P D).take 299).set 3 (nsO ((e1 P "__name__" 165 (.str "lentgate.rules" 727))::((ns P).drop 1).take 64) 65)).set 12 (tbO (tb.take 102))),299,{},#[],{},729,os⟩
theorem qC8(w:World)(os:OsState)(D:Obj):segRunT treeTable p w 11 ann 1 118 (S_D w.2 os D) (piecesOf ((body.drop 56).take 5) env cd qq9 B)=some (.next,S_9 w.2 os D,cd,⟨144,0,144,8⟩):=by
 walk_at "w9"
def qBu(P:Params)(os:OsState)(D:Obj):SharedT:=⟨treeOf ((((fin P D).take 355).set 3 (nsO ((e1 P "__name__" 165 (.str "lentgate.rules" 727))::((ns P).drop 1).take 65) 66)).set 12 (tbO (tb.take 105))),355,{},#[],{},810,os⟩
theorem qwt(w:World)(os:OsState)(D:Obj):segRunT treeTable p w 11 ann 1 395 (S_9 w.2 os D) (piecesOf ((body.drop 61).take 1) env cd ⟨144,0,144,8⟩ B)=some (.next,qBu w.2 os D,cd,⟨145,0,171,16⟩):=by
 walk_at "w9"
def qBt(P:Params)(os:OsState)(D:Obj):SharedT:=⟨treeOf ((((fin P D).take 355).set 3 (nsO ((e1 P "__name__" 165 (.str "lentgate.pool" 810))::((ns P).drop 1).take 65) 66)).set 12 (tbO (tb.take 105))),355,{},#[],{},812,os⟩
theorem qws(w:World)(os:OsState)(D:Obj):segRunT treeTable p w 11 ann 1 10 (qBu w.2 os D) (piecesOf ((body.drop 62).take 1) env cd ⟨145,0,171,16⟩ B)=some (.next,qBt w.2 os D,cd,⟨172,0,172,8⟩):=by
 walk_at "w9"
def qBs(P:Params)(os:OsState)(D:Obj):SharedT:=⟨treeOf ((((fin P D).take 428).set 3 (nsO ((e1 P "__name__" 165 (.str "lentgate.pool" 810))::((ns P).drop 1).take 66) 67)).set 12 (tbO (tb.take 108))),428,{},#[],{},910,os⟩
theorem qwr(w:World)(os:OsState)(D:Obj):segRunT treeTable p w 11 ann 1 480 (qBt w.2 os D) (piecesOf ((body.drop 63).take 1) env cd ⟨172,0,172,8⟩ B)=some (.next,qBs w.2 os D,cd,⟨173,0,215,105⟩):=by
 walk_at "w9"
def qBr(P:Params)(os:OsState)(D:Obj):SharedT:=⟨treeOf ((((fin P D).take 449).set 3 (nsO ((e1 P "__name__" 165 (.str "lentgate.talks" 910))::((ns P).drop 1).take 67) 68)).set 12 (tbO (tb.take 111))),449,{},#[],{},947,os⟩
theorem qwq(w:World)(os:OsState)(D:Obj):segRunT treeTable p w 11 ann 1 238 (qBs w.2 os D) (piecesOf ((body.drop 64).take 2) env cd ⟨173,0,215,105⟩ B)=some (.next,qBr w.2 os D,cd,⟨217,0,223,24⟩):=by
 walk_at "w9"
def qBq(P:Params)(os:OsState)(D:Obj):SharedT:=⟨treeOf ((((fin P D).take 569).set 3 (nsO ((e1 P "__name__" 165 (.str "lentgate.talks" 910))::((ns P).drop 1).take 68) 69)).set 12 (tbO (tb.take 114))),569,{},#[],{},1117,os⟩
theorem qwp(w:World)(os:OsState)(D:Obj):segRunT treeTable p w 11 ann 1 718 (qBr w.2 os D) (piecesOf ((body.drop 66).take 1) env cd ⟨217,0,223,24⟩ B)=some (.next,qBq w.2 os D,cd,⟨224,0,305,37⟩):=by
 walk_at "w9"
def qBp(P:Params)(os:OsState)(D:Obj):SharedT:=⟨treeOf ((((fin P D).take 569).set 3 (nsO ((e1 P "__name__" 165 (.str "lentgate.gate" 1117))::((ns P).drop 1).take 68) 69)).set 12 (tbO (tb.take 114))),569,{},#[],{},1119,os⟩
theorem qwo(w:World)(os:OsState)(D:Obj):segRunT treeTable p w 11 ann 1 10 (qBq w.2 os D) (piecesOf ((body.drop 67).take 1) env cd ⟨224,0,305,37⟩ B)=some (.next,qBp w.2 os D,cd,⟨306,0,306,8⟩):=by
 walk_at "w9"
def qBo(P:Params)(os:OsState)(D:Obj):SharedT:=⟨treeOf ((((fin P D).take 779).set 3 (nsO ((e1 P "__name__" 165 (.str "lentgate.gate" 1117))::((ns P).drop 1).take 69) 70)).set 12 (tbO (tb.take 117))),779,{},#[],{},1442,os⟩
theorem qwn(w:World)(os:OsState)(D:Obj):segRunT treeTable p w 11 ann 1 1165 (qBp w.2 os D) (piecesOf ((body.drop 68).take 1) env cd ⟨306,0,306,8⟩ B)=some (.next,qBo w.2 os D,cd,⟨307,0,476,19⟩):=by
 walk_at "w9"
def qBn(P:Params)(os:OsState)(D:Obj):SharedT:=⟨treeOf ((((fin P D).take 820).set 3 (nsO ((e1 P "__name__" 165 (.str "lentgate.meetings" 1442))::((ns P).drop 1).take 79) 80)).set 12 (tbO (tb.take 126))),820,{},#[],{},1515,os⟩
theorem qwm(w:World)(os:OsState)(D:Obj):segRunT treeTable p w 11 ann 1 391 (qBo w.2 os D) (piecesOf ((body.drop 69).take 11) env cd ⟨307,0,476,19⟩ B)=some (.next,qBn w.2 os D,cd,⟨491,0,500,77⟩):=by
 walk_at "w9"
def qBm(P:Params)(os:OsState)(D:Obj):SharedT:=⟨treeOf ((fin P D).take 887),887,{},#[],{},1615,os⟩
theorem qwl(w:World)(os:OsState)(D:Obj):segRunT treeTable p w 11 ann 1 340 (qBn w.2 os D) (piecesOf ((body.drop 80).take 12) env cd ⟨491,0,500,77⟩ B)=some (.next,qBm w.2 os D,cd,⟨587,0,605,15⟩):=by
 walk_at "w9"
def TF:BT:=(qBm P default (DD P)).tree
def H1:Heap:=absHeap (TF P) 887 {}
theorem qr2:body=((body.drop 0).take 22)++(((body.drop 22).take 10)++(((body.drop 32).take 5)++(((body.drop 37).take 1)++(((body.drop 38).take 1)++(((body.drop 39).take 1)++(((body.drop 40).take 9)++(((body.drop 49).take 6)++([st]++(((body.drop 56).take 5)++(((body.drop 61).take 1)++(((body.drop 62).take 1)++(((body.drop 63).take 1)++(((body.drop 64).take 2)++(((body.drop 66).take 1)++(((body.drop 67).take 1)++(((body.drop 68).take 1)++(((body.drop 69).take 11)++(((body.drop 80).take 12)++ [])))))))))))))))))):=by kernel_rfl
theorem run_eq(w:World)(os:OsState):topRun treeTable p w 11 ann (12+(1+(391+(315+(362+(214+(214+(214+(388+(170+(11783+(118+(395+(10+(480+(238+(718+(10+(1165+(391+(340+2))))))))))))))))))))) ⟨boot_heap w.2,#[],boot_drawn,boot_toks,os⟩ (topStub p)=some ⟨H1 w.2,#[],{},1615,os⟩:=by
 refine go_top (qtF w os) (piece_block (qo2 w os) ?_);show topRun treeTable p w 11 ann _ _ (restOf body env cd q0 B)=_;rw[qr2];refine piece_app (segRun_of (qDh w os)) ?_;refine piece_app (segRun_of (qDg w os)) ?_;refine piece_app (segRun_of (qDf w os)) ?_;refine piece_app (segRun_of (qDe w os)) ?_;refine piece_app (segRun_of (qDd w os)) ?_;refine piece_app (segRun_of (qDc w os)) ?_;refine piece_app (segRun_of (qDb w os)) ?_;refine piece_app (segRun_of (qDa w os)) ?_;refine piece_app (segRun_of (qC9 w os)) ?_;refine piece_app (segRun_of (qC8 w os _)) ?_;refine piece_app (segRun_of (qwt w os _)) ?_;refine piece_app (segRun_of (qws w os _)) ?_;refine piece_app (segRun_of (qwr w os _)) ?_;refine piece_app (segRun_of (qwq w os _)) ?_;refine piece_app (segRun_of (qwp w os _)) ?_;refine piece_app (segRun_of (qwo w os _)) ?_;refine piece_app (segRun_of (qwn w os _)) ?_;refine piece_app (segRun_of (qwm w os _)) ?_;refine piece_app (segRun_of (qwl w os _)) ?_;kernel_rfl
noncomputable def q:Program:=view p [0,2,3,4,5,6,7,8,9,10,11,12,13,14,15,16,17,18,19,20,21,22,23,24,25,26,27,28,29,30,31,32,33,34,36,37,38,39,40,42,43,44,45,46,47,48,49,50,51,52,53,55,56,57,58,59,61,63,65,66,68,70,71,72,73,74,75,76,77,78,79,80,81,82,84,85,86,87,88,89,90,91]
def loose:LSt:=["DEEDS","TIME_AT","LINE_STEPS"]
noncomputable def ks:List Addr:=[2,3,6,20,21,22,23,24,30,31,37,38,44,45,51,52,58,59,65,66,72,73,79,80,86,87,93,94,95,98,99,105,106,112,113,119,120,126,127,133,134,140,141,147,148,149,155,156,162,163,164,165,166,167,169,170,171,172,173,174,175,176,177,178,179,180,182,183,184,185,186,187,188,189,190,191,192,194,195,196,197,198,199,200,201,202,203,204,206,207,208,209,210,211,212,213,214,215,216,218,219,220,221,222,223,224,225,226,227,228,234,235,236,239,240,246,247,253,254,260,261,262,263,264,265,266,267,268,269,270,271,272,273,274,275,276,277,283,284,290,291,297,298,299,300,301,302,304,305,311,312,318,319,325,326,332,333,339,340,346,347,348,349,350,351,352,353,354,355,356,357,358,360,361,367,368,374,375,381,382,388,389,395,396,402,403,409,410,411,414,415,416,419,420,421,422,423,424,425,426,427,428,429,430,431,433,434,440,441,442,443,444,445,446,447,448,449,450,451,452,454,455,461,462,468,469,475,476,477,480,481,487,488,494,495,501,502,508,509,510,513,514,520,521,527,528,534,535,541,542,548,549,555,556,557,560,561,562,563,564,565,566,567,568,569,570,571,572,574,575,581,582,588,589,595,596,602,603,609,610,616,617,623,624,630,631,637,638,644,645,651,652,658,659,665,666,672,673,679,680,686,687,693,694,700,701,707,708,714,715,721,722,728,729,735,736,742,743,749,750,756,757,763,764,770,771,772,773,774,775,776,777,778,779,785,786,787,790,791,792,793,794,795,797,798,804,805,811,812,813,814,815,816,817,818,819,825,826,832,833,834,837,838,844,845,851,852,858,859,860,863,864,870,871,872,875,876,877,880,881,882,885,886]
def K:Frag:=ks.zip (boot_o_2 P::nsO ((ns P).take 91) 91::boot_o_6 P::d15.co::d15.fn::v35::v37::v39::d25.co::d25.fn::d32.co::d32.fn::d39.co::d39.fn::d46.co::d46.fn::d53.co::d53.fn::d60.co::d60.fn::d67.co::d67.fn::d74.co::d74.fn::d81.co::d81.fn::d88.co::d88.fn::v7::qAu::qAt::d100.co::d100.fn::d107.co::d107.fn::d114.co::d114.fn::d121.co::d121.fn::d128.co::d128.fn::d135.co::d135.fn::d142.co::d142.fn::v201 P::d150.co::d150.fn::d157.co::d157.fn::qAs::qe1::qAr P::v7::qAq::qAp::v7::qAo P::qzZ::qAn::qAm::qAl::qpa::qe1::qAk P::v7::qAj::qAi::v7::qAh P::qAg::qAf::qAe::qpa::qe1::qAd P::v7::qAc::qAb::v7::qAa P::qz9::qz8::qz7::qpa::qe1::qz6 P::v7::qz5::qz4::v7::qz3 P::qz2::qz1::qz0::qpa::qe1::qzY P::v7::qzX::qzW::v7::qzV P::qzU::qzT::qzS::qzR::qzQ::qzP::v307 P::d229.co::d229.fn::v7::qzO::qzN::d241.co::d241.fn::d248.co::d248.fn::d255.co::d255.fn::DD P::qzM::qzL::qzK::qzJ::qzI::qzH::qzG::qzF::qzE::qzD::qzC::qzB::qzA::qzz::qzy::d278.co::d278.fn::d285.co::d285.fn::d292.co::d292.fn::v7::qe1::qzx P::v7::qzw::qzv::d306.co::d306.fn::d313.co::d313.fn::d320.co::d320.fn::d327.co::d327.fn::d334.co::d334.fn::d341.co::d341.fn::qzu::qzt P::qzs::qzr::qzq::qzp::qzo::v7::qe1::qzn P::v7::qzm::qzl::d362.co::d362.fn::d369.co::d369.fn::d376.co::d376.fn::d383.co::d383.fn::d390.co::d390.fn::d397.co::d397.fn::d404.co::d404.fn::v7::qzk::qzj::v7::qzi::qzh::qzg::qzf P::qze::qzd::qzc::qzb::qza::v7::qe1::qy9 P::v7::qy8::qy7::d435.co::d435.fn::qy6::qy5 P::qy4::qy3::qy2::qy1::qy0::v7::qe1::qyZ P::v7::qyY::qyX::d456.co::d456.fn::d463.co::d463.fn::d470.co::d470.fn::v7::qyW::qyV::d482.co::d482.fn::d489.co::d489.fn::d496.co::d496.fn::d503.co::d503.fn::v7::qyU::qyT::d515.co::d515.fn::d522.co::d522.fn::d529.co::d529.fn::d536.co::d536.fn::d543.co::d543.fn::d550.co::d550.fn::v7::qyS::qyR::qyQ::qyP P::qyO::qyN::qyM::qyL::qyK::v7::qe1::qyJ P::v7::qyI::qyH::d576.co::d576.fn::d583.co::d583.fn::d590.co::d590.fn::d597.co::d597.fn::d604.co::d604.fn::d611.co::d611.fn::d618.co::d618.fn::d625.co::d625.fn::d632.co::d632.fn::d639.co::d639.fn::d646.co::d646.fn::d653.co::d653.fn::d660.co::d660.fn::d667.co::d667.fn::d674.co::d674.fn::d681.co::d681.fn::d688.co::d688.fn::d695.co::d695.fn::d702.co::d702.fn::d709.co::d709.fn::d716.co::d716.fn::d723.co::d723.fn::d730.co::d730.fn::d737.co::d737.fn::d744.co::d744.fn::d751.co::d751.fn::d758.co::d758.fn::d765.co::d765.fn::qyG::qyF P::qyE::qyD::qyC::qyB::qyA::qyz::d780.co::d780.fn::v7::qyy::qyx::v7::qe1::qyw P::v7::qyv::qyu::d799.co::d799.fn::d806.co::d806.fn::qyt::qys P::qyr::qyq::qyp::qyo::qyn::d820.co::d820.fn::d827.co::d827.fn::v7::qym::qyl::d839.co::d839.fn::d846.co::d846.fn::d853.co::d853.fn::v7::qsz::qsy::d865.co::d865.fn::v7::qsx::qsw::v7::qsv::qsu::v7::qst::qss::[])
theorem ks_eq(P:Params):ks=(K P).map (·.1):=by kernel_rfl
def Hk:Hook:=kHook K ks ks_eq
def Xt(s:Shared):Bool:=xlAt q [] s&&recOk [] s
def NN:Nat:=1000000
theorem size_eq(w:World):((boot_heap w.2).isNs mainGlobals&&(#[]:Array GenState).size==0,(boot_heap w.2).objs.size,(boot_heap w.2).nsMap mainGlobals "__annotations__")=(true,11,ann):=by kernel_rfl
theorem op1:opening p=plainProg p.main.scope.names:=by kernel_rfl
theorem op2(s:Shared):fenceModules? p s=some s:=by kernel_rfl
theorem qxr(w:World)(os:OsState):(staticsOk (importedModules p.main.body) (boot_heap w.2) (H1 w.2)&&namesBound p (H1 w.2)&&gensDone ⟨H1 w.2,#[],{},1615,os⟩&&laidKept (boot_heap w.2) (H1 w.2))=true:=by kernel_rfl
theorem l2a(w:World)(os:OsState):PyProof.Rows.seen (List.map (fun x=>x.name) (recsOf q)) (ownsOf q) [] ⟨H1 w.2,#[],{},1615,os⟩=expectedOf q:=by rw[PySem.W.Fast.te5160383126252970620];kernel_rfl
theorem l2b(w:World)(os:OsState):(H1 w.2).bltView=bltViewBooted:=by kernel_rfl
theorem l2c(w:World)(os:OsState):(H1 w.2).keysOk (looseW q loose) (List.map (fun x=>x.name) (recsOf q)) (List.map (fun x=>x.fst) (litsOf q)) (List.map (fun x=>x.name) (clssOf q (looseW q loose)))=true:=by rw[PySem.W.Fast.te10880121769531294198];kernel_rfl
theorem l2d(w:World)(os:OsState):(H1 w.2).accountedOkI (importedModules p.main.body)=true:=by rw[PySem.W.Fast.te14722251495701143533];kernel_rfl
theorem l2e(w:World)(os:OsState):((H1 w.2).isNs mainGlobals&&(H1 w.2).isNs builtinsNs)=true:=by kernel_rfl
theorem l2f(w:World)(os:OsState):tablesOk q (H1 w.2)=true:=by rw[PySem.W.Fast.te10994771534591457954];kernel_rfl
theorem l2g(w:World)(os:OsState):Xt ⟨H1 w.2,#[],{},1615,os⟩=true:=by kernel_rfl
theorem l2h(w:World)(os:OsState):tabsOk q ⟨H1 w.2,#[],{},1615,os⟩=true:=by rw[PySem.W.Fast.te479339242167458305];kernel_rfl
theorem l2i(w:World)(os:OsState):pinSeenD q (drecsOf q) ⟨H1 w.2,#[],{},1615,os⟩=pinGoodD (drecsOf q):=by kernel_rfl
theorem l2j(w:World)(os:OsState):plainSeenE q (looseW q loose) ⟨H1 w.2,#[],{},1615,os⟩=plainGoodE q (looseW q loose):=by rw[PySem.W.Fast.te2386780881361962483];kernel_rfl
theorem l2k(w:World)(os:OsState):plainSeenD q loose ⟨H1 w.2,#[],{},1615,os⟩=plainGoodD q loose:=by rw[PySem.W.Fast.te11698064438423848299];kernel_rfl
theorem l2l(w:World)(os:OsState):wideSeen q ⟨H1 w.2,#[],{},1615,os⟩=wideGood q:=by rw[PySem.W.Fast.te7317090234206586261];kernel_rfl
theorem l2m(w:World)(os:OsState):clsSeenW q loose ⟨H1 w.2,#[],{},1615,os⟩=clsGoodW q loose:=by rw[PySem.W.Fast.te7369524293546568484];kernel_rfl
theorem qxq(w:World)(os:OsState):openSeen q loose (importedModules p.main.body) Xt true ⟨H1 w.2,#[],{},1615,os⟩=openGood q loose:=
 qq2 (l2a w os) (l2b w os) (l2c w os) (l2d w os) (l2e w os) (l2f w os) (l2g w os) (l2h w os) (l2i w os) (l2j w os) (l2k w os) (l2l w os) (l2m w os)
theorem qxp(w:World)(os:OsState):Hk.obs ⟨H1 w.2,#[],{},1615,os⟩=Hk.val w:=by kernel_rfl
theorem left:LeftO p q loose Xt Hk.obs Hk.val NN:=
 LeftO.of_pieces (H₀:=boot_heap) (H₁:=H1) (gs₀:=#[]) (gs₁:=#[]) (d₀:=boot_drawn) (d₁:={}) (k₀:=boot_toks) (k₁:=1615) (m₀:=11) (ann:=ann) (M:=12+(1+(391+(315+(362+(214+(214+(214+(388+(170+(11783+(118+(395+(10+(480+(238+(718+(10+(1165+(391+(340+2))))))))))))))))))))) (boot_open op1 (by decide) op2) size_eq run_eq (by decide)
  fun w=>funext fun os=>Prod.ext (qxr w os) (Prod.ext (qxq w os) (qxp w os))
end
end H36
namespace R
open PySem PySem.Spec PyProof.Rows L2
section
variable {Γ:G}{σ:RSt}{M:RM}{Q:RVK}{D:RD}{a b c d e t l h o k r it:T}{i n:Nat}{QB:Bool->RM->Prop}{QA:LR->RM->Prop}{QI:LR->(RM->Prop)->(RM->RM)->RM->Prop}{QP:Option Int->RM->Prop}
def kV'(o:Option (Option RV))(Q:RV->Prop):Prop:=match o with|some (some v)=>Q v|_=>False
theorem qoD{v:RV}{Q:RV->Prop}:kV' (some (some v)) Q=Q v:=rfl
theorem t_v:(tr Γ (.v i)).E σ M Q=kV' σ[i]? (fun v=>Q v M):=by
 show qqH i σ M Q=_;unfold qqH kV';rfl
theorem t_i{n:Int}:(tr Γ (.i n)).E σ M Q=Q (.int n) M:=rfl
theorem t_s{x:Str}:(tr Γ (.s x)).E σ M Q=Q (.str x) M:=rfl
theorem t_b{x:Bool}:(tr Γ (.b x)).E σ M Q=Q (.bl x) M:=rfl
theorem t_n:(tr Γ .n).E σ M Q=Q .non M:=rfl
theorem t_g{x:Str}{i:Int}(h:Γ.S.gi.lookup x=some i):(tr Γ (.g x)).E σ M Q=Q (.int i) M:=by
 show(match Γ.S.gi.lookup x with|some i=>rC (.int i)|none=>qbT) σ M Q=_
 rw[h];rfl
theorem qB4{x:String}:(tr Γ (.ty x)).E σ M Q=Q (.ty x) M:=rfl
theorem qCd{o:Operator}:(tr Γ (.op o a b)).E σ M Q=(tr Γ a).E σ M fun x M1=>(tr Γ b).E σ M1 fun y M2=>opR o x y M2 Q:=rfl
theorem qCv{o:CmpOp}:(tr Γ (.cm o a b)).E σ M Q=(tr Γ a).E σ M fun x M1=>(tr Γ b).E σ M1 fun y M2=>cmR o x y M2 Q:=rfl
def kB(Q:Bool->RM->Prop):RVK:=fun v M=>match v with| .bl k=>Q k M|_=>False
theorem qfi{k:Bool}:kB QB (.bl k) M=QB k M:=rfl
def kCh(p:CmpOp)(Γ:G)(c:T)(σ:RSt)(y:RV)(Q:RVK):RVK:=fun z M3=>match z with
 | .bl k=>if k=true then(tr Γ c).E σ M3 fun w M4=>cmR p y w M4 Q else Q (.bl false) M3
 |_=>False
theorem qcw{k:Bool}{A B:Prop}:((k=true->A)/\(k=false->B))=if k=true then A else B:=by cases k<;>simp
theorem qCw{o p:CmpOp}:(tr Γ (.ch o p a b c)).E σ M Q=(tr Γ a).E σ M fun x M1=>(tr Γ b).E σ M1 fun y M2=>cmR o x y M2 (kCh p Γ c σ y Q):=by
 show qfu _ _ _ _ _ σ M Q=_;unfold qfu kCh;simp only[qcw]<;>rfl
theorem qut{p:CmpOp}{y:RV}{k:Bool}:kCh p Γ c σ y Q (.bl k) M=if k=true then(tr Γ c).E σ M fun w M4=>cmR p y w M4 Q else Q (.bl false) M:=rfl
theorem T_v:(tr Γ (.v i)).T σ M QB=(tr Γ (.v i)).E σ M (kB QB):=rfl
theorem qEs{o:CmpOp}:(tr Γ (.cm o a b)).T σ M QB=(tr Γ (.cm o a b)).E σ M (kB QB):=rfl
theorem qEt{f:Nat}:(tr Γ (.ca f a)).T σ M QB=(tr Γ (.ca f a)).E σ M (kB QB):=rfl
theorem qEp{f:Nat}:(tr Γ (.me f o a)).T σ M QB=(tr Γ (.me f o a)).E σ M (kB QB):=rfl
theorem qEu{f:Str}:(tr Γ (.bf f a)).T σ M QB=(tr Γ (.bf f a)).E σ M (kB QB):=rfl
theorem qEr{neg:Bool}:(tr Γ (.dn neg k d)).T σ M QB=(tr Γ (.dn neg k d)).E σ M (kB QB):=rfl
theorem qEq{neg:Bool}{x:Str}:(tr Γ (.ic neg a x)).T σ M QB=(tr Γ (.ic neg a x)).E σ M (kB QB):=rfl
theorem qEm{x:Str}:(tr Γ (.tn x a)).T σ M QB=(tr Γ (.tn x a)).E σ M (kB QB):=rfl
theorem qEv:(tr Γ (.an a b)).T σ M QB=(tr Γ a).T σ M fun c M1=>if c=true then(tr Γ b).T σ M1 QB else QB false M1:=by
 show qvu _ _ σ M QB=_;unfold qvu;simp only[qcw]
theorem qEn:(tr Γ (.or a b)).T σ M QB=(tr Γ a).T σ M fun c M1=>if c=true then QB true M1 else(tr Γ b).T σ M1 QB:=by
 show rOr _ _ σ M QB=_;unfold rOr;simp only[qcw]
theorem qEo:(tr Γ (.no a)).T σ M QB=(tr Γ a).T σ M fun c M1=>QB (!c) M1:=rfl
def kAn(N:RM->Prop)(Q:RVK):RVK:=fun x M=>match x with| .bl c=>if c=true then N M else Q (.bl false) M|_=>False
def kOr(N:RM->Prop)(Q:RVK):RVK:=fun x M=>match x with| .bl c=>if c=true then Q (.bl true) M else N M|_=>False
theorem qcS{N:RM->Prop}{c:Bool}:kAn N Q (.bl c) M=if c=true then N M else Q (.bl false) M:=rfl
theorem qpA{N:RM->Prop}{c:Bool}:kOr N Q (.bl c) M=if c=true then Q (.bl true) M else N M:=rfl
theorem qCB:(tr Γ (.an a b)).E σ M Q=(tr Γ a).E σ M (kAn (fun M1=>(tr Γ b).E σ M1 Q) Q):=by
 show qn4 _ _ σ M Q=_;unfold qn4 kAn;simp only[qcw]<;>rfl
theorem qCc:(tr Γ (.or a b)).E σ M Q=(tr Γ a).E σ M (kOr (fun M1=>(tr Γ b).E σ M1 Q) Q):=by
 show qvn _ _ σ M Q=_;unfold qvn kOr;simp only[qcw]<;>rfl
def kNo(Q:RVK):RVK:=fun x M=>match x with| .bl c=>Q (.bl (!c)) M|_=>False
theorem qur{c:Bool}:kNo Q (.bl c) M=Q (.bl (!c)) M:=rfl
theorem qCe:(tr Γ (.no a)).E σ M Q=(tr Γ a).E σ M (kNo Q):=rfl
theorem qCj:(tr Γ (.ie t a b)).E σ M Q=(tr Γ t).T σ M fun c M1=>if c=true then(tr Γ a).E σ M1 Q else(tr Γ b).E σ M1 Q:=by
 show rIf _ _ _ σ M Q=_;unfold rIf;simp only[qcw]
theorem qB6:(tr Γ (.tu a)).E σ M Q=(tr Γ a).A σ M fun rs M1=>rs.length<=sizeLine/\Q (.tup rs) M1:=rfl
theorem qCh:(tr Γ (.ll a)).E σ M Q=(tr Γ a).A σ M fun rs M1=>rs.length<=sizeLine/\Q (.ls rs) M1:=rfl
theorem qCg:(tr Γ (.lm a)).E σ M Q=(tr Γ a).A σ M fun rs M1=>rs.length<=sizeLine/\∀ p,M1 p=none->Q (.ref p) (put M1 p (.lst rs)):=rfl
theorem qCm:(tr Γ .e0).A σ M QA=QA [] M:=rfl
theorem qCl:(tr Γ (.ec a r)).A σ M QA=(tr Γ a).E σ M fun x M1=>(tr Γ r).A σ M1 fun xs M2=>QA (x::xs) M2:=rfl
theorem qCi:(tr Γ (.ix a b)).E σ M Q=(tr Γ a).E σ M fun x M1=>(tr Γ b).E σ M1 fun y M2=>rIx x y M2 Q:=rfl
theorem qB8:(tr Γ (.sl a l h)).E σ M Q=(tr Γ a).E σ M fun x M1=>(tr Γ l).P σ M1 fun lo M2=>(tr Γ h).P σ M2 fun u M3=>qn2 x lo u M3 Q:=rfl
theorem qCb:(tr Γ .p0).P σ M QP=QP none M:=rfl
def kP(Q:Option Int->RM->Prop):RVK:=fun x M=>match x with| .int i=>Q (some i) M|_=>False
theorem quq{i:Int}:kP QP (.int i) M=QP (some i) M:=rfl
theorem qCa:(tr Γ (.p1 a)).P σ M QP=(tr Γ a).E σ M (kP QP):=rfl
theorem qCk{c:Nat}{f:Str}:(tr Γ (.fl c f a)).E σ M Q=(tr Γ a).E σ M (kFl (Γ.C c) f Q):=rfl
theorem qCx{f:Nat}:(tr Γ (.ca f a)).E σ M Q=(tr Γ a).A σ M fun rs M1=>Γ.fn f rs M1 Q:=rfl
theorem qc6{f:Nat}{d:FD}(h:Γ.S.fd[f]? =some d):(tr Γ (.me f o a)).E σ M Q=(tr Γ o).E σ M (kMe (Γ.C d.cls) d.name (Γ.fn f) (tr Γ a).A σ Q):=by
 show(match Γ.S.fd[f]? with|some d=>uMe (Γ.C d.cls) d.name (Γ.fn f) (tr Γ o).E (tr Γ a).A|none=>qbT) σ M Q=_
 rw[h];rfl
theorem qse{f:Nat}{d:FD}(h:Γ.S.fd[f]? =some d):(tr Γ (.mk f a)).E σ M Q=(tr Γ a).A σ M fun rs M1=>∀ x,M1 x=none->Γ.ini f (.ref x::rs) (put M1 x (.ins (Γ.C d.cls) [])) fun v M2=>v= .non/\Q (.ref x) M2:=by
 show(match Γ.S.fd[f]? with|some d=>qkk (Γ.C d.cls) (Γ.ini f) (tr Γ a).A|none=>qbT) σ M Q=_
 rw[h];rfl
theorem qCz{f:Str}:(tr Γ (.bf f a)).E σ M Q=(tr Γ a).A σ M fun rs M1=>bfR f rs M1 Q:=rfl
theorem qCy{f:Str}:(tr Γ (.bt f a)).E σ M Q=(tr Γ a).A σ M fun rs M1=>btR f rs M1 Q:=rfl
theorem qCr:(tr Γ (.dg d k)).E σ M Q=(tr Γ d).E σ M fun x M1=>(tr Γ k).E σ M1 fun y M2=>qsE Q x y M2:=rfl
theorem qCp{neg:Bool}:(tr Γ (.dn neg k d)).E σ M Q=(tr Γ k).E σ M fun y M1=>(tr Γ d).E σ M1 fun x M2=>uIn neg Q x y M2:=rfl
theorem qCs:(tr Γ (.d1 d k)).E σ M Q=(tr Γ d).E σ M fun x M1=>isD M1 x/\(tr Γ k).E σ M1 fun y M2=>qkZ Q x y .non M2:=rfl
theorem qCq:(tr Γ .dk).E σ M Q= ∀ p,M p=none->Q (.ref p) (put M p (.dk [])):=rfl
theorem qCo:(tr Γ .dt).E σ M Q= ∀ p,M p=none->Q (.ref p) (put M p (.dt [])):=rfl
theorem qsf{neg:Bool}{x:Str}{ss:LSt}(h:Γ.S.gt.lookup x=some ss):(tr Γ (.ic neg a x)).E σ M Q=(tr Γ a).E σ M fun x M1=>okR 15 x=true/\Q (.bl (if neg then !inR x (ss.map RV.str)else inR x (ss.map RV.str))) M1:=by
 show(match Γ.S.gt.lookup x with|some ss=>qsh neg ss (tr Γ a).E|none=>qbT) σ M Q=_
 rw[h];rfl
theorem qvl:(tr Γ (.se a b)).S D σ M=(tr Γ a).S { D with nx:=(tr Γ b).S D } σ M:=rfl
theorem qC4:(tr Γ .en).S D σ M=D.nx σ M:=rfl
theorem qqt:(tr Γ (.set i a)).S D σ M=(tr Γ a).E σ M fun x M1=>D.nx (σ.set i (some x)) M1:=rfl
theorem qCY:(tr Γ (.re a)).S D σ M=(tr Γ a).E σ M D.rt:=rfl
theorem qC1:(tr Γ (.if_ t a b)).S D σ M=(tr Γ t).T σ M fun c M1=>if c=true then(tr Γ a).S D σ M1 else(tr Γ b).S D σ M1:=by
 show qvs _ _ _ D σ M=_;unfold qvs;simp only[qcw]
theorem qC3:(tr Γ (.ex a)).S D σ M=(tr Γ a).E σ M fun _ M1=>D.nx σ M1:=rfl
theorem qCX{c:Nat}{f:Str}:(tr Γ (.sf c f o a)).S D σ M=(tr Γ a).E σ M fun y M1=>(tr Γ o).E σ M1 (kSf (Γ.C c) f y (D.nx σ)):=rfl
theorem qC5:(tr Γ (.dp d k a)).S D σ M=(tr Γ a).E σ M fun v M1=>(tr Γ d).E σ M1 fun x M2=>(tr Γ k).E σ M2 fun y M3=>dPt M3 x y v (D.nx σ):=rfl
def kUn(is:List Nat)(σ:RSt)(N:RSt->RM->Prop):RVK:=fun x M=>match x with| .tup xs=>xs.length=is.length/\N (qfp σ is xs) M|_=>False
theorem qrg{is:List Nat}{xs:LR}{N:RSt->RM->Prop}:kUn is σ N (.tup xs) M=(xs.length=is.length/\N (qfp σ is xs) M):=rfl
theorem qCV{is:List Nat}:(tr Γ (.un is a)).S D σ M=(tr Γ a).E σ M (kUn is σ D.nx):=rfl
theorem qoo{i j:Int}:opR .Add (.int i) (.int j) M Q=Q (.int (i+j)) M:=rfl
theorem qxg{i j:Int}:opR .Sub (.int i) (.int j) M Q=Q (.int (i-j)) M:=rfl
theorem qD6{i j:Int}:cmR .Lt (.int i) (.int j) M Q=Q (.bl (decide (i<j))) M:=rfl
theorem qD7{i j:Int}:cmR .LtE (.int i) (.int j) M Q=Q (.bl (decide (i<=j))) M:=rfl
theorem qD9{i j:Int}:cmR .Gt (.int i) (.int j) M Q=Q (.bl (decide (j<i))) M:=rfl
theorem qEa{i j:Int}:cmR .GtE (.int i) (.int j) M Q=Q (.bl (decide (j<=i))) M:=rfl
theorem qD8{x:RV}:cmR .Is x .non M Q=Q (.bl (isN x)) M:=rfl
theorem qrW{x:RV}:cmR .IsNot x .non M Q=Q (.bl (!isN x)) M:=rfl
theorem qyc{i j:Int}:cmR .Eq (.int i) (.int j) M Q=Q (.bl (i==j)) M:=by
 show(_/\_/\Q (.bl (eqR (.int i) (.int j))) M)=_;simp[qaL,okR,eqR]
theorem qyb{i j:Str}:cmR .Eq (.str i) (.str j) M Q=Q (.bl (i==j)) M:=by
 show(_/\_/\Q (.bl (eqR (.str i) (.str j))) M)=_;simp[qaL,okR,eqR]
theorem qx8{i j:Int}:cmR .NotEq (.int i) (.int j) M Q=Q (.bl (!(i==j))) M:=by
 show(_/\_/\Q (.bl (!eqR (.int i) (.int j))) M)=_;simp[qaL,okR,eqR]
theorem qx7{i j:Str}:cmR .NotEq (.str i) (.str j) M Q=Q (.bl (!(i==j))) M:=by
 show(_/\_/\Q (.bl (!eqR (.str i) (.str j))) M)=_;simp[qaL,okR,eqR]
end
section
variable {Γ:G}{σ:RSt}{M:RM}{Q:RVK}{D:RD}{a b c d e t l h o k r it:T}{i n:Nat}{QB:Bool->RM->Prop}{QA:LR->RM->Prop}{QI:LR->(RM->Prop)->(RM->RM)->RM->Prop}{x:Addr}{f:Str}{C:Addr}{N:RM->Prop}{y v z:RV}
def wO{α:Type}(o:Option α)(Q:α->Prop):Prop:=match o with|some v=>Q v|none=>False
theorem qia{α:Type}{v:α}{Q:α->Prop}:wO (some v) Q=Q v:=rfl
def fO(C:Addr)(f:Str)(Q:RVK)(M:RM)(o:Option RO):Prop:=match o with
 |some (.ins C' fs)=>C'=C/\wO (fs.lookup f) fun v=>Q v M
 |_=>False
theorem qrm:kFl C f Q (.ref x) M=fO C f Q M (M x):=by
 show(match M x with|some (.ins C' fs)=>C'=C/\(match fs.lookup f with|some v=>Q v M|none=>False)|_=>False)=_
 unfold fO;cases M x with
 |none=>rfl
 |some u=>
  cases u<;>first|rfl|skip
  rename_i C' fs;show(C'=C/\(match fs.lookup f with|some v=>Q v M|none=>False))=(C'=C/\wO (fs.lookup f) fun v=>Q v M)
  cases fs.lookup f<;>rfl
theorem qaK{fs:List (Str×RV)}:fO C f Q M (some (.ins C fs))=wO (fs.lookup f) fun v=>Q v M:=by
 show(C=C/\_)=_;rw[eq_self_iff_true,true_and]
def sO(C:Addr)(f:Str)(y:RV)(N:RM->Prop)(x:Addr)(M:RM)(o:Option RO):Prop:=match o with
 |some (.ins C' fs)=>C'=C/\fs.length<1000/\N (put M x (.ins C (qg3 f y fs)))
 |_=>False
theorem qri:kSf C f y N (.ref x) M=sO C f y N x M (M x):=rfl
theorem qay{fs:List (Str×RV)}:sO C f y N x M (some (.ins C fs))=(fs.length<1000/\N (put M x (.ins C (qg3 f y fs)))):=by
 show(C=C/\_)=_;rw[eq_self_iff_true,true_and]
def mO(C:Addr)(m:Str)(sp:RSp)(t:RTA)(σ:RSt)(Q:RVK)(x:Addr)(M:RM)(o:Option RO):Prop:=match o with
 |some (.ins C' fs)=>C'=C/\fs.lookup m=none/\t σ M fun rs M2=>sp (.ref x::rs) M2 Q
 |_=>False
theorem qrk{m:Str}{sp:RSp}{t:RTA}:kMe C m sp t σ Q (.ref x) M=mO C m sp t σ Q x M (M x):=rfl
theorem qaz{m:Str}{sp:RSp}{t:RTA}{fs:List (Str×RV)}:mO C m sp t σ Q x M (some (.ins C fs))=(fs.lookup m=none/\t σ M fun rs M2=>sp (.ref x::rs) M2 Q):=by
 show(C=C/\_)=_;rw[eq_self_iff_true,true_and]
def gO(Q:RVK)(y:RV)(M:RM)(o:Option RO):Prop:=match o.bind (qsn · y)with
 |some (some v)=>Q v M
 |_=>False
theorem qnI:qsE Q (.ref x) y M=gO Q y M (M x):=rfl
def iO(neg:Bool)(Q:RVK)(y:RV)(M:RM)(o:Option RO):Prop:=match o.bind (qsn · y)with
 |some r=>Q (.bl (if neg then !r.isSome else r.isSome)) M
 |none=>False
theorem qqg{neg:Bool}:uIn neg Q (.ref x) y M=iO neg Q y M (M x):=rfl
def dO(Q:RVK)(y z:RV)(M:RM)(o:Option RO):Prop:=match o.bind (qsn · y)with
 |some r=>Q (r.getD z) M
 |none=>False
theorem qgy:qkZ Q (.ref x) y z M=dO Q y z M (M x):=rfl
def qO(o:Option RO):Prop:=match o with
 |some (.dk _)=>True
 |some (.dt _)=>True
 |some (.fk _)=>True
 |some (.ft _)=>True
 |_=>False
theorem qrB:isD M (.ref x)=qO (M x):=rfl
theorem qwV{kvs:LKR}:qO (some (.dk kvs))=True:=rfl
theorem qwU{kvs:List (TK×RV)}:qO (some (.dt kvs))=True:=rfl
theorem qxQ{kvs:LKR}{m:Int}:gO Q (.int m) M (some (.dk kvs))=wO (lk kvs (.inl m)) fun v=>Q v M:=by
 show(match some (lk kvs (.inl m))with|some (some v)=>Q v M|_=>False)=_
 cases lk kvs (.inl m)<;>rfl
theorem qxK{neg:Bool}{kvs:LKR}{m:Int}:iO neg Q (.int m) M (some (.dk kvs))=Q (.bl (if neg then !(lk kvs (.inl m)).isSome else(lk kvs (.inl m)).isSome)) M:=rfl
theorem qx1{kvs:LKR}{m:Int}:dO Q (.int m) z M (some (.dk kvs))=Q ((lk kvs (.inl m)).getD z) M:=rfl
theorem qrP{kvs:List (TK×RV)}{s:TK}(h:qhB y=some s):dO Q y z M (some (.dt kvs))=Q ((lk kvs s).getD z) M:=by
 show(match(qhB y).map (lk kvs)with|some r=>Q (r.getD z) M|none=>False)=_
 rw[h];rfl
def pO(y v:RV)(N:RM->Prop)(x:Addr)(M:RM)(o:Option RO):Prop:=match o with
 |some (.dk kvs)=>match qhC y with
  |some k=>kvs.length<sizeLine/\N (put M x (.dk (pt kvs k v)))
  |none=>False
 |some (.dt kvs)=>match qhB y with
  |some k=>kvs.length<sizeLine/\N (put M x (.dt (pt kvs k v)))
  |none=>False
 |_=>False
theorem qrN:dPt M (.ref x) y v N=pO y v N x M (M x):=rfl
theorem qw8{kvs:LKR}{m:Int}:pO (.int m) v N x M (some (.dk kvs))=(kvs.length<sizeLine/\N (put M x (.dk (pt kvs (.inl m) v)))):=rfl
theorem qlX{kvs:List (TK×RV)}{s:TK}(h:qhB y=some s):pO y v N x M (some (.dt kvs))=(kvs.length<sizeLine/\N (put M x (.dt (pt kvs s v)))):=by
 show(match qhB y with|some k=>kvs.length<sizeLine/\N (put M x (.dt (pt kvs k v)))|none=>False)=_
 rw[h]
def aO(t:RTA)(σ:RSt)(Q:RVK)(x:Addr)(M:RM)(o:Option RO):Prop:=match o with
 |some (.lst _)=>t σ M fun rs M2=>∃ ys y,rs= [y]/\M2 x=some (.lst ys)/\ys.length<sizeLine/\Q .non (put M2 x (.lst (ys++ [y])))
 |_=>False
def kAp(t:RTA)(σ:RSt)(Q:RVK):RVK:=fun v M=>match v with
 | .ref x=>aO t σ Q x M (M x)
 |_=>False
theorem qCA:(tr Γ (.ap o a)).E σ M Q=(tr Γ o).E σ M (kAp (tr Γ a).A σ Q):=by
 show qvt _ _ σ M Q=_;unfold qvt;congr 1;funext v M1;cases v<;>try rfl
 rename_i p;show((∃ ys,M1 p=some (.lst ys))/\_)=aO _ _ _ p M1 (M1 p);cases e:M1 p with
 |none=>exact propext ⟨fun z=>(by obtain⟨⟨_,z⟩,_⟩:=z;cases z),fun z=>z.elim⟩
 |some u=>cases u<;>first|exact propext ⟨fun z=>(by obtain⟨⟨_,z⟩,_⟩:=z;cases z),fun z=>z.elim⟩|exact propext ⟨fun z=>z.2,fun z=>⟨⟨_,rfl⟩,z⟩⟩
theorem qrn{t:RTA}:kAp t σ Q (.ref x) M=aO t σ Q x M (M x):=rfl
theorem qve{t:RTA}{xs:LR}:aO t σ Q x M (some (.lst xs))=t σ M fun rs M2=>∃ ys y,rs= [y]/\M2 x=some (.lst ys)/\ys.length<sizeLine/\Q .non (put M2 x (.lst (ys++ [y]))):=rfl
theorem xi_tup{xs:LR}{m:Int}:rIx (.tup xs) (.int m) M Q=wO (atI xs m) fun v=>Q v M:=by
 show(match atI xs m with|some v=>Q v M|none=>False)=_
 cases atI xs m<;>rfl
theorem qsp{xs:LR}{m:Int}:rIx (.ls xs) (.int m) M Q=wO (atI xs m) fun v=>Q v M:=by
 show(match atI xs m with|some v=>Q v M|none=>False)=_
 cases atI xs m<;>rfl
def xO(m:Int)(Q:RVK)(M:RM)(o:Option RO):Prop:=match o with
 |some (.lst xs)=>wO (atI xs m) fun v=>Q v M
 |_=>False
theorem qso{m:Int}:rIx (.ref x) (.int m) M Q=xO m Q M (M x):=by
 show(match M x with|some (.lst xs)=>(match atI xs m with|some v=>Q v M|none=>False)|_=>False)=_
 unfold xO;cases M x with
 |none=>rfl
 |some u=>
  cases u<;>first|rfl|skip
  rename_i xs;show(match atI xs m with|some v=>Q v M|none=>False)=wO (atI xs m) fun v=>Q v M
  cases atI xs m<;>rfl
theorem qsq{m:Int}{xs:LR}:xO m Q M (some (.lst xs))=wO (atI xs m) fun v=>Q v M:=rfl
theorem quT{xs:LR}{lo hi:Option Int}:qn2 (.tup xs) lo hi M Q=Q (.tup (qgu xs lo hi)) M:=rfl
theorem qx4{xs:LR}{lo hi:Option Int}:qn2 (.ls xs) lo hi M Q=Q (.ls (qgu xs lo hi)) M:=rfl
theorem qcl{xs:LR}:qvB false xs M Q=Q (.ls xs) M:=rfl
def kPr(i j:Nat)(σ:RSt)(N:RSt->RM->Prop):LR->RM->Prop:=fun rs M1=>match rs with
 | [v,w]=>N ((σ.set i (some v)).set j (some w)) M1
 |_=>False
theorem qC0{j:Nat}:(tr Γ (.pr i j a)).S D σ M=(tr Γ a).A σ M (kPr i j σ D.nx):=rfl
theorem qrj{j:Nat}{N:RSt->RM->Prop}:kPr i j σ N [v,y] M=N ((σ.set i (some v)).set j (some y)) M:=rfl
theorem qCW:(tr Γ (.sp l k a)).S D σ M=(tr Γ a).E σ M fun v M1=>(tr Γ l).E σ M1 fun o M2=>(tr Γ k).E σ M2 fun i M3=>qiE o i v M3 fun M4=>D.nx σ M4:=rfl
theorem qC2{tup:Bool}{is:List Nat}:(tr Γ (.fo tup is it b)).S D σ M=(tr Γ it).I σ M fun xs ok un M1=>qeu (match tup,is with|true,is=>rgU is|false,[i]=>rgN i|_,_=>fun _ _ _ _=>False) (tr Γ b).S D ok un xs σ M1:=rfl
def kS(Q:LR->(RM->Prop)->(RM->RM)->RM->Prop):RVK:=fun v M1=>match v with
 | .tup xs=>Q xs okT id M1
 | .ls xs=>Q xs okT id M1
 | .ref a=>match M1 a with
  |some (.lst xs)=>Q xs (fun M=>M a=some (.lst xs)) id M1
  |_=>False
 |_=>False
theorem qDP:(tr Γ (.is a)).I σ M QI=(tr Γ a).E σ M (kS QI):=rfl
theorem qxD{xs:LR}:kS QI (.ls xs) M=QI xs okT id M:=rfl
theorem quo{xs:LR}:kS QI (.tup xs) M=QI xs okT id M:=rfl
theorem qDN:(tr Γ (.r1 a)).I σ M QI=(tr Γ a).E σ M fun v M1=>qlI QI [v] M1:=rfl
theorem qwM{m:Int}:qlI QI [.int m] M=(-(2 ^ 62)<=m/\m<2 ^ 62/\QI (nums m.toNat) okT id M):=rfl
theorem qDO:(tr Γ (.iv a)).I σ M QI=(tr Γ a).E σ M (qsk false QI):=rfl
theorem qDQ:(tr Γ (.im a)).I σ M QI=(tr Γ a).E σ M (qsj QI):=rfl
theorem qCu{md tup:Bool}{nm:LSt}{cap:List (Nat×Str)}:(tr Γ (.cp md tup nm cap it t a)).E σ M Q=(tr Γ it).I σ M fun xs ok un M1=>xs.length<sizeLine/\qaR (qjP tup nm.length) md ok un (tr Γ t).T (tr Γ a).E ((cap.map Prod.fst).map fun i=>(σ[i]?).join) xs [] M1 Q:=rfl
theorem qAy{md tup:Bool}{nm:LSt}{cap:List (Nat×Str)}:(tr Γ (.sc i md tup nm cap it t a)).S D σ M=(tr Γ (.cp md tup nm cap it t a)).E σ M fun x M1=>D.nx (σ.set i (some x)) M1:=rfl
theorem qbd{bd:RV->Option (LR)}{md:Bool}{ok:RM->Prop}{un:RM->RM}{tt:RTT}{te:RTE}{base:List (Option RV)}{Q:RVK}{M:RM}(p:RV->Bool)(g:RV->RV)(hok:ok M):∀ (xs acc:LR),
 (∀ x∈xs,∃ bs,bd x=some bs/\(∀ K:Bool->RM->Prop,K (p x) M->tt (bs.map some++base) M K)/\(p x=true->∀ K:RVK,K (g x) M->te (bs.map some++base) M K))->
 qvB md (acc++(xs.filter p).map g) (un M) Q->qaR bd md ok un tt te base xs acc M Q
 | [],acc,_,h=>⟨hok,by simpa using h⟩
 |x::xs,acc,hx,h=>by
  obtain⟨bs,h1,h2,h3⟩:=hx x (.head _);have hx':=fun y hy=>hx y (waq x hy)
  refine⟨hok,?_⟩;rw[h1];refine h2 _ ⟨fun hp=>h3 hp _ (qbd p g hok xs _ hx' ?_),fun hp=>qbd p g hok xs _ hx' ?_⟩
  · rw[waM hp,wae]at h
    simpa using h
  · rw[waY (by simp[hp])]at h
    exact h
theorem qu8{i:Int}:bfR "isinstance" [.int i,.ty "int"] M Q=Q (.bl true) M:=rfl
theorem qu9{i:Int}:bfR "isinstance" [.int i,.ty "bool"] M Q=Q (.bl false) M:=rfl
theorem qr6{b:Bool}:bfR "isinstance" [.bl b,.ty "bool"] M Q=Q (.bl true) M:=rfl
theorem qu6{x:Str}:bfR "isinstance" [.str x,.ty "str"] M Q=Q (.bl true) M:=rfl
theorem qu5{xs:LR}:bfR "isinstance" [.tup xs,.ty "tuple"] M Q=Q (.bl true) M:=rfl
theorem qr3{xs:LR}:bfR "len" [.tup xs] M Q=Q (.int xs.length) M:=rfl
theorem qr4{x:Str}:bfR "len" [.str x] M Q=(x.length<=sizeLine/\Q (.int x.length) M):=rfl
theorem qr5{xs:LR}:bfR "len" [.ls xs] M Q=Q (.int xs.length) M:=rfl
theorem qjO{bs:List Bool}:bfR "all" [.ls (bs.map RV.bl)] M Q=Q (.bl (bs.all id)) M:=by
 refine propext ⟨fun h=>?_,fun h=>⟨bs,rfl,h⟩⟩
 obtain⟨bs',e,h⟩:=h;have e:bs.map RV.bl=bs'.map RV.bl:=by injection e with e1 _;injection e1
 have:bs=bs':=List.map_inj_right (fun a b z=>by cases z;rfl)|>.mp e
 subst this;exact h
theorem qvb{a b:Bool}:(if a=true then Q (.bl b) M else Q (.bl false) M)=Q (.bl (a&&b)) M:=by cases a<;>rfl
theorem qCZ:(tr Γ .ra).S D σ M=False:=rfl
theorem qB9:(tr Γ (.rv a)).E σ M Q=(tr Γ a).E σ M (qvz Q):=rfl
theorem qup{x y:RV}:qvz Q (.tup [x,y]) M=Q (.tup [y,x]) M:=rfl
theorem qDR{x:Str}{ss:LSt}(h:Γ.S.gt.lookup x=some ss):(tr Γ (.ig x)).I σ M QI=QI (ss.map RV.str) okT id M:=by show(match Γ.S.gt.lookup x with|some ss=>qvp ss|none=>fun _ _ _=>False) σ M QI=_;rw[h];rfl
theorem qCn{ks:LSt}:(tr Γ (.dy ks a)).E σ M Q= ∀ p,M p=none->qn1 (ks.zip (tr Γ a).L) σ (put M p (.dk [])) fun ps M2=>M2 p=some (.dk [])/\Q (.ref p) (put M2 p (.dk ps)):=rfl
theorem qr0{c:Bool}:btR "int" [.bl c] M Q=Q (.int (if c then 1 else 0)) M:=rfl
theorem qva{bs:List Bool}:bfR "any" [.ls (bs.map RV.bl)] M Q=Q (.bl (bs.any id)) M:=by
 refine propext ⟨fun h=>?_,fun h=>⟨bs,rfl,h⟩⟩
 obtain⟨bs',e,h⟩:=h;have e:bs.map RV.bl=bs'.map RV.bl:=by injection e with e1 _;injection e1
 have:bs=bs':=List.map_inj_right (fun a b z=>by cases z;rfl)|>.mp e
 subst this;exact h
theorem qDM:(tr Γ (.st a)).I σ M QI=(tr Γ a).E σ M fun v M1=>match v with| .str x=>QI (qcD x) okT id M1|_=>False:=rfl
theorem qrx:isN .non=true:=rfl
theorem qrv{x:Str}:isN (.str x)=false:=rfl
theorem qry{i:Int}:isN (.int i)=false:=rfl
theorem qrw:isN (.ref x)=false:=rfl
theorem qru{xs:LR}:isN (.tup xs)=false:=rfl
theorem quX{x:Str}:cmR .Eq .non (.str x) M Q=Q (.bl false) M:=by
 show(_/\_/\Q (.bl (eqR .non (.str x))) M)=_;simp[qaL,okR,eqR]
theorem qcm{α:Type}{xs:List α}{k:Nat}{v:α}(h:xs[k]? =some v):atI xs (k:Int)=some v:=by
 have hk:k<xs.length:=(List.getElem?_eq_some_iff.mp h).1;have e:ixN xs.length (k:Int)=some k:=by
  unfold ixN;simp;omega
 unfold atI;rw[e];exact h
theorem qyh{α:Type}{a0:α}{r:List α}:atI (a0::r) 0=some a0:=qcm (k:=0) rfl
theorem qyg{α:Type}{a0 a1:α}{r:List α}:atI (a0::a1::r) 1=some a1:=qcm (k:=1) rfl
theorem qyf{α:Type}{a0 a1 a2:α}{r:List α}:atI (a0::a1::a2::r) 2=some a2:=qcm (k:=2) rfl
theorem qBc{α:Type}{a0 a1 a2 a3:α}{r:List α}:atI (a0::a1::a2::a3::r) 3=some a3:=qcm (k:=3) rfl
theorem qEj{α:Type}{a0 a1 a2 a3 a4:α}{r:List α}:atI (a0::a1::a2::a3::a4::r) 4=some a4:=qcm (k:=4) rfl
theorem qBb{α:Type}{a0 a1 a2 a3 a4 a5:α}{r:List α}:atI (a0::a1::a2::a3::a4::a5::r) 5=some a5:=qcm (k:=5) rfl
theorem qBa{α:Type}{a0 a1 a2 a3 a4 a5 a6:α}{r:List α}:atI (a0::a1::a2::a3::a4::a5::a6::r) 6=some a6:=qcm (k:=6) rfl
theorem qEi{α:Type}{a0 a1 a2 a3 a4 a5 a6 a7:α}{r:List α}:atI (a0::a1::a2::a3::a4::a5::a6::a7::r) 7=some a7:=qcm (k:=7) rfl
theorem z_0:(0<=sizeLine)=True:=eq_true (by decide)
theorem qBG:(0<sizeLine)=True:=eq_true (by decide)
theorem qD5:((0:Nat):Int)=0:=rfl
theorem z_1:(1<=sizeLine)=True:=eq_true (by decide)
theorem z_2:(2<=sizeLine)=True:=eq_true (by decide)
theorem qBF:(2<sizeLine)=True:=eq_true (by decide)
theorem qD4:((2:Nat):Int)=2:=rfl
theorem z_3:(3<=sizeLine)=True:=eq_true (by decide)
theorem z_4:(4<=sizeLine)=True:=eq_true (by decide)
theorem qD3:((4:Nat):Int)=4:=rfl
theorem z_5:(5<=sizeLine)=True:=eq_true (by decide)
theorem qD2:((6:Nat):Int)=6:=rfl
theorem z_7:(7<=sizeLine)=True:=eq_true (by decide)
theorem qD1:((7:Nat):Int)=7:=rfl
theorem z_8:(8<=sizeLine)=True:=eq_true (by decide)
theorem qD0:((8:Nat):Int)=8:=rfl
theorem qua{k:Nat}:(((k+1:Nat):Int)==0)=false:=by simp;omega
theorem qvC{x:RV}{r:LR}:qgu (x::r) (some 1) none=r:=by
 unfold qgu;rw[show HT.sIx (x::r).length 0 (some 1)=1 from by show min 1 (r.length+1)=1;omega,HT.sIx_none]
 simp
def tO(key:Option Key)(kvs:LKR)(Q:RVK)(M:RM):Prop:=match key with
 |some k=>wO (qbC kvs k) fun v=>Q v M
 |none=>False
theorem qB5{x:Str}:(tr Γ (.tx x a)).E σ M Q=(tr Γ a).E σ M fun y M1=>tO (qhC y) (Γ.tb x) Q M1:=by
 show qvm (Γ.tb x) _ σ M Q=_;unfold qvm;congr 1;funext y M1;unfold tO wO;generalize qhC y=q;cases q with
 |none=>rfl
 |some k=>
  dsimp only;cases qbC (Γ.tb x) k<;>rfl
theorem qsN{x:Str}{kvs:LKR}:tO (qhC (.str x)) kvs Q M=wO (qbC kvs (.inr x)) fun v=>Q v M:=rfl
theorem qB7{x:Str}:(tr Γ (.tn x a)).E σ M Q=(tr Γ a).E σ M (qd7 (Γ.tb x) Q):=rfl
theorem qrh{x:Str}{kvs:LKR}:qd7 kvs Q (.str x) M=Q (.bl (!(qbC kvs (.inr x)).isSome)) M:=rfl
def kCv(cvs:List (Addr×RSp))(t:RTA)(σ:RSt)(Q:RVK):RVK:=fun v M1=>match v with
 | .ref f=>∃ sp,(f,sp)∈cvs/\t σ M1 fun rs M2=>sp rs M2 Q
 |_=>False
theorem qCt:(tr Γ (.cv i a)).E σ M Q=(tr Γ (.v i)).E σ M (kCv Γ.cvs (tr Γ a).A σ Q):=rfl
theorem qi5{cvs:List (Addr×RSp)}{t:RTA}:kCv cvs t σ Q (.ref x) M= ∃ sp,(x,sp)∈cvs/\t σ M fun rs M2=>sp rs M2 Q:=rfl
theorem qCf:(tr Γ (.lr a b)).E σ M Q=(tr Γ a).E σ M fun x M1=>(tr Γ b).E σ M1 fun y M2=>kLR Q [x,y] M2:=rfl
theorem qrl{i j:Int}:kLR Q [.int i,.int j] M=((-1000000<=i/\i<=1000000/\-1000000<=j/\j<=1000000)/\(j-i).toNat<=1000/\Q (.ls (qd6 i (j-i).toNat)) M):=rfl
theorem qC6:(tr Γ (.dd d k)).S D σ M=(tr Γ d).E σ M fun x M1=>(tr Γ k).E σ M1 fun y M2=>atKey M2 x y fun a kvs k=>(qbC kvs k).isSome=true/\D.nx σ (put M2 a (.dk (qoQ kvs k))):=rfl
theorem qt4{xs ys:LR}:opR .Add (.ls xs) (.ls ys) M Q=(xs.length+ys.length<=sizeLine/\Q (.ls (xs++ys)) M):=rfl
theorem ql1{xs ys:LR}:opR .Add (.tup xs) (.tup ys) M Q=(xs.length+ys.length<=sizeLine/\Q (.tup (xs++ys)) M):=rfl
theorem qxj{i j:Int}:opR .Mod (.int i) (.int j) M Q=(0<j/\Q (.int (i % j)) M):=rfl
theorem qxk{i j:Int}:opR .FloorDiv (.int i) (.int j) M Q=((0<j/\j<1073741824)/\Q (.int (i / j)) M):=rfl
theorem qxh{i j:Int}:opR .Pow (.int i) (.int j) M Q=((0<=j/\j<=1000000/\i.natAbs<2 ^ 64)/\Q (.int (i ^ j.toNat)) M):=rfl
theorem qxi{i j:Int}:opR .Mult (.int i) (.int j) M Q=(CMul i j/\Q (.int (i*j)) M):=rfl
def lO(k:Int)(v:RV)(N:RM->Prop)(x:Addr)(M:RM)(o:Option RO):Prop:=match o with
 |some (.lst xs)=>wO (ixN xs.length k) fun j=>N (put M x (.lst (xs.set j v)))
 |_=>False
theorem qqp{m:Int}:qiE (.ref x) (.int m) v M N=lO m v N x M (M x):=by
 show(match M x with|some (.lst xs)=>(match ixN xs.length m with|some j=>N (put M x (.lst (xs.set j v)))|none=>False)|_=>False)=_
 unfold lO;cases M x with
 |none=>rfl
 |some u=>
  cases u<;>first|rfl|skip
  rename_i xs;show(match ixN xs.length m with|some j=>N (put M x (.lst (xs.set j v)))|none=>False)=wO (ixN xs.length m) fun j=>N (put M x (.lst (xs.set j v)))
  cases ixN xs.length m<;>rfl
theorem que{m:Int}{xs:LR}:lO m v N x M (some (.lst xs))=wO (ixN xs.length m) fun j=>N (put M x (.lst (xs.set j v))):=rfl
theorem qxG:ixN 3 0=some 0:=rfl
theorem qxF:ixN 3 2=some 2:=rfl
end
end R
namespace K36
open PySem PySem.Spec PyProof.Rows L2 R
def top(i:Nat):Stmt:=PySem.Challenge.pw_lentgate_k36_whole_meetings_by_their_for.main.body.getD i (.Pass ⟨0,0,0,0⟩)
noncomputable def qcd:FD:=⟨0,0,"is_whole",["thing"],["thing"],.se (.re (.an (.bf "isinstance" (.ec (.v 0) (.ec (.ty "int") .e0))) (.no (.bf "isinstance" (.ec (.v 0) (.ec (.ty "bool") .e0)))))) .en⟩
noncomputable def qch:FD:=⟨0,0,"is_house",["thing"],["thing"],.se (.re (.ca 43 (.ec (.v 0) (.ec (.i 0) (.ec (.g "GREATEST_HOUSE") .e0))))) .en⟩
noncomputable def qc3:FD:=⟨0,0,"is_door",["thing"],["thing"],.se (.re (.ca 43 (.ec (.v 0) (.ec (.i 1) (.ec (.g "GREATEST_DOOR") .e0))))) .en⟩
noncomputable def qcg:FD:=⟨0,0,"is_place",["thing"],["thing"],.se (.re (.ca 43 (.ec (.v 0) (.ec (.i 0) (.ec (.g "GREATEST_PLACE") .e0))))) .en⟩
noncomputable def qaV:FD:=⟨0,0,"is_outer_place",["thing"],["thing"],.se (.re (.ca 43 (.ec (.v 0) (.ec (.i 1) (.ec (.g "GREATEST_PLACE") .e0))))) .en⟩
noncomputable def qfE:FD:=⟨0,0,"is_ticks",["thing"],["thing"],.se (.re (.ca 43 (.ec (.v 0) (.ec (.i 0) (.ec (.g "GREATEST_TICKS") .e0))))) .en⟩
noncomputable def qc1:FD:=⟨0,0,"is_kind",["thing"],["thing"],.se (.re (.ic false (.v 0) "KINDS")) .en⟩
noncomputable def qhL:FD:=⟨0,0,"is_sign",["sign"],["sign","at"],.se (.set 1 (.bf "ord" (.ec (.v 0) .e0))) (.se (.re (.an (.ch .LtE .LtE (.g "FIRST_SIGN") (.v 1) (.g "LAST_SIGN")) (.cm .NotEq (.v 1) (.g "PERCENT_SIGN")))) .en)⟩
noncomputable def qcY:FD:=⟨0,0,"is_text",["thing"],["thing"],.se (.if_ (.or (.no (.bf "isinstance" (.ec (.v 0) (.ec (.ty "str") .e0)))) (.cm .Gt (.bf "len" (.ec (.v 0) .e0)) (.g "MOST_SIGNS"))) (.se (.re (.b false)) .en) .en) (.se (.re (.bf "all" (.ec (.cp false false ["sign"] [] (.st (.v 0)) (.b true) (.ca 7 (.ec (.v 0) .e0))) .e0))) .en)⟩
noncomputable def qc0:FD:=⟨0,0,"is_out",["parts"],["parts","kind","house","door","place","far","word","text"],.se (.if_ (.cm .NotEq (.bf "len" (.ec (.v 0) .e0)) (.i 7)) (.se (.re (.b false)) .en) .en) (.se (.un [1,2,3,4,5,6,7] (.v 0)) (.se (.re (.an (.ca 1 (.ec (.v 2) .e0)) (.an (.ca 2 (.ec (.v 3) .e0)) (.an (.ca 3 (.ec (.v 4) .e0)) (.an (.ca 2 (.ec (.v 5) .e0)) (.ca 44 (.ec (.v 1) (.ec (.v 6) (.ec (.v 7) .e0))))))))) .en))⟩
noncomputable def qb2:FD:=⟨0,0,"is_come",["parts"],["parts","kind","place","far","number","word","text"],.se (.if_ (.cm .NotEq (.bf "len" (.ec (.v 0) .e0)) (.i 6)) (.se (.re (.b false)) .en) .en) (.se (.un [1,2,3,4,5,6] (.v 0)) (.se (.re (.an (.ca 4 (.ec (.v 2) .e0)) (.an (.ca 2 (.ec (.v 3) .e0)) (.an (.ca 2 (.ec (.v 4) .e0)) (.ca 44 (.ec (.v 1) (.ec (.v 5) (.ec (.v 6) .e0)))))))) .en))⟩
noncomputable def qcV:FD:=⟨0,0,"name_of",["thing"],["thing"],.se (.if_ (.or (.no (.bf "isinstance" (.ec (.v 0) (.ec (.ty "tuple") .e0)))) (.or (.cm .Eq (.bf "len" (.ec (.v 0) .e0)) (.i 0)) (.no (.bf "isinstance" (.ec (.ix (.v 0) (.i 0)) (.ec (.ty "str") .e0)))))) (.se (.re .n) .en) .en) (.se (.re (.ix (.v 0) (.i 0))) .en)⟩
noncomputable def qbD:FD:=⟨0,0,"is_deed",["thing"],["thing","name","has_parts"],.se (.set 1 (.ca 11 (.ec (.v 0) .e0))) (.se (.if_ (.tn "DEEDS" (.v 1)) (.se (.re (.b false)) .en) .en) (.se (.set 2 (.tx "DEEDS" (.v 1))) (.se (.re (.cv 2 (.ec (.sl (.v 0) (.p1 (.i 1)) .p0) .e0))) .en)))⟩
noncomputable def qce:FD:=⟨0,0,"is_times",["thing"],["thing","lives"],.se (.if_ (.or (.no (.bf "isinstance" (.ec (.v 0) (.ec (.ty "tuple") .e0)))) (.cm .NotEq (.bf "len" (.ec (.v 0) .e0)) (.i 4))) (.se (.re (.b false)) .en) .en) (.se (.set 1 (.bf "all" (.ec (.cp false false ["time"] [] (.is (.sl (.v 0) .p0 (.p1 (.i 3)))) (.b true) (.ca 43 (.ec (.v 0) (.ec (.i 1) (.ec (.g "GREATEST_TIME") .e0))))) .e0))) (.se (.re (.an (.v 1) (.ca 43 (.ec (.ix (.v 0) (.i 3)) (.ec (.i 0) (.ec (.g "GREATEST_TIME") .e0)))))) .en))⟩
noncomputable def qc2:FD:=⟨0,0,"is_form",["thing"],["thing","low","high","lending","sieve","pick","most","renew","times"],.se (.if_ (.or (.no (.bf "isinstance" (.ec (.v 0) (.ec (.ty "tuple") .e0)))) (.cm .NotEq (.bf "len" (.ec (.v 0) .e0)) (.i 8))) (.se (.re (.b false)) .en) .en) (.se (.un [1,2,3,4,5,6,7,8] (.v 0)) (.se (.if_ (.or (.ic true (.v 3) "LENDINGS") (.or (.ic true (.v 4) "SIEVES") (.ic true (.v 5) "PICKS"))) (.se (.re (.b false)) .en) .en) (.se (.if_ (.or (.no (.ca 43 (.ec (.v 6) (.ec (.i 1) (.ec (.g "GREATEST_MOST") .e0))))) (.no (.bf "isinstance" (.ec (.v 7) (.ec (.ty "bool") .e0))))) (.se (.re (.b false)) .en) .en) (.se (.re (.an (.ca 24 (.ec (.v 1) (.ec (.v 2) .e0))) (.ca 13 (.ec (.v 8) .e0)))) .en))))⟩
noncomputable def qbb:FD:=⟨2,0,"__init__",["self"],["self"],.se (.sf 0 "many_told" (.v 0) (.i 0)) (.se (.sf 0 "standing" (.v 0) .dk) .en)⟩
noncomputable def qaJ:FD:=⟨1,1,"from_mark",["self"],["self"],.se (.re (.op .Add (.lr (.fl 1 "mark" (.v 0)) (.op .Add (.fl 1 "high" (.v 0)) (.i 1))) (.lr (.fl 1 "low" (.v 0)) (.fl 1 "mark" (.v 0))))) .en⟩
noncomputable def qci:FD:=⟨0,0,"is_doors",["thing"],["thing"],.se (.re (.an (.bf "isinstance" (.ec (.v 0) (.ec (.ty "tuple") .e0))) (.an (.cm .Eq (.bf "len" (.ec (.v 0) .e0)) (.i 2)) (.an (.ca 2 (.ec (.ix (.v 0) (.i 0)) .e0)) (.ca 2 (.ec (.ix (.v 0) (.i 1)) .e0)))))) .en⟩
noncomputable def qcf:FD:=⟨0,0,"is_steps",["thing"],["thing"],.se (.if_ (.or (.no (.bf "isinstance" (.ec (.v 0) (.ec (.ty "list") .e0)))) (.cm .Gt (.bf "len" (.ec (.v 0) .e0)) (.g "MOST_STEPS"))) (.se (.re (.b false)) .en) .en) (.se (.re (.bf "all" (.ec (.cp false false ["step"] [] (.is (.v 0)) (.b true) (.or (.ic false (.v 0) "WRITERS") (.ca 5 (.ec (.v 0) .e0)))) .e0))) .en)⟩
noncomputable def qbh:FD:=⟨0,0,"_law_a_form",["bag"],["bag","many","low","lending","sieve","pick","most","renew","far","times","rest"],.se (.set 1 (.ix (.ll (.ec (.i 1) (.ec (.i 2) (.ec (.i 3) (.ec (.op .Add (.i 1) (.ca 42 (.ec (.v 0) (.ec (.i 12) .e0)))) (.ec (.i 200) .e0)))))) (.ca 42 (.ec (.v 0) (.ec (.i 5) .e0))))) (.se (.set 2 (.ix (.ll (.ec (.i 1) (.ec (.op .Sub (.i 10000) (.v 1)) (.ec (.op .Add (.i 1) (.ca 42 (.ec (.v 0) (.ec (.op .Sub (.i 10000) (.v 1)) .e0)))) .e0)))) (.ca 42 (.ec (.v 0) (.ec (.i 3) .e0))))) (.se (.set 3 (.ix (.ll (.ec (.s "door") (.ec (.s "place") (.ec (.s "talk") .e0)))) (.ca 42 (.ec (.v 0) (.ec (.i 3) .e0))))) (.se (.set 4 (.ix (.ll (.ec (.s "all") (.ec (.s "place") (.ec (.s "talk") .e0)))) (.ca 42 (.ec (.v 0) (.ec (.i 3) .e0))))) (.se (.set 5 (.ix (.ll (.ec (.s "next") (.ec (.s "keep") .e0))) (.ca 42 (.ec (.v 0) (.ec (.i 2) .e0))))) (.se (.set 6 (.ix (.ll (.ec (.i 1) (.ec (.i 2) (.ec (.i 200) (.ec (.op .Add (.i 1) (.ca 42 (.ec (.v 0) (.ec (.i 6) .e0)))) .e0))))) (.ca 42 (.ec (.v 0) (.ec (.i 4) .e0))))) (.se (.set 7 (.cm .Eq (.ca 42 (.ec (.v 0) (.ec (.i 2) .e0))) (.i 1))) (.se (.set 8 (.ix (.ll (.ec (.i 4) (.ec (.i 12) (.ec (.i 1000000) .e0)))) (.ca 42 (.ec (.v 0) (.ec (.i 3) .e0))))) (.se (.set 9 (.bt "tuple" (.ec (.cp false false ["k"] [(0,"bag"),(8,"far")] (.r1 (.i 3)) (.b true) (.op .Add (.i 1) (.ca 42 (.ec (.v 1) (.ec (.v 2) .e0))))) .e0))) (.se (.set 10 (.ix (.ll (.ec (.i 0) (.ec (.ca 42 (.ec (.v 0) (.ec (.i 4) .e0))) (.ec (.ca 42 (.ec (.v 0) (.ec (.i 30) .e0))) (.ec (.i 1000000) .e0))))) (.ca 42 (.ec (.v 0) (.ec (.i 4) .e0))))) (.se (.re (.tu (.ec (.v 2) (.ec (.op .Sub (.op .Add (.v 2) (.v 1)) (.i 1)) (.ec (.v 3) (.ec (.v 4) (.ec (.v 5) (.ec (.v 6) (.ec (.v 7) (.ec (.op .Add (.v 9) (.tu (.ec (.v 10) .e0))) .e0)))))))))) .en))))))))))⟩
noncomputable def qbv:FD:=⟨0,0,"_law_plain",["rows"],["rows"],.se (.re (.cp false false ["row"] [] (.is (.v 0)) (.b true) (.tu (.ec (.ix (.v 0) (.i 0)) (.ec (.ie (.cm .Eq (.ix (.ix (.v 0) (.i 1)) (.i 0)) (.s "led")) (.s "led") (.ix (.v 0) (.i 1))) (.ec (.ix (.v 0) (.i 2)) .e0)))))) .en⟩
noncomputable def qbg:FD:=⟨0,0,"_law_turned",["rows"],["rows","names"],.se (.set 1 (.dy ["one","other"] (.ec (.s "other") (.ec (.s "one") .e0)))) (.se (.re (.cp false false ["row"] [(1,"names")] (.is (.v 0)) (.b true) (.op .Add (.tu (.ec (.dg (.v 1) (.ix (.v 0) (.i 0))) .e0)) (.sl (.v 0) (.p1 (.i 1)) .p0)))) .en)⟩
noncomputable def f_law:FD:=⟨0,0,"law",["script"],["script","cell","bag","forms","doors","steps","rows","names","other","more"],.se (.fo false [1] (.is (.op .Add (.ll (.ec (.ca 40 (.ec (.v 0) (.ec (.i 0) .e0))) .e0)) (.sl (.v 0) (.p1 (.i 1)) (.p1 (.i 8))))) (.se (.set 2 (.ca 41 (.ec (.v 1) (.ec (.i 0) .e0)))) (.se (.sc 3 false false ["k"] [(2,"bag")] (.r1 (.i 2)) (.b true) (.ca 19 (.ec (.v 1) .e0))) (.se (.set 4 (.bt "tuple" (.ec (.cp false false ["k"] [(2,"bag")] (.r1 (.i 2)) (.b true) (.op .Add (.i 1) (.ca 42 (.ec (.v 1) (.ec (.i 9999) .e0))))) .e0))) (.se (.sc 5 false false ["k"] [(2,"bag")] (.r1 (.ca 42 (.ec (.v 2) (.ec (.i 21) .e0)))) (.b true) (.ix (.ll (.ec (.s "one") (.ec (.s "other") .e0))) (.ca 42 (.ec (.v 1) (.ec (.i 2) .e0))))) (.se (.set 6 (.ca 62 (.ec (.ix (.v 3) (.i 0)) (.ec (.ix (.v 3) (.i 1)) (.ec (.v 4) (.ec (.v 5) .e0)))))) (.se (.if_ (.cm .NotEq (.ca 20 (.ec (.v 6) .e0)) (.ca 56 (.ec (.v 3) (.ec (.v 4) (.ec (.v 5) .e0))))) (.se (.re (.b false)) .en) .en) (.se (.set 7 (.dy ["one","other"] (.ec (.s "other") (.ec (.s "one") .e0)))) (.se (.set 8 (.ca 62 (.ec (.ix (.v 3) (.i 1)) (.ec (.ix (.v 3) (.i 0)) (.ec (.rv (.v 4)) (.ec (.cp false false ["step"] [(7,"names")] (.is (.v 5)) (.b true) (.dg (.v 1) (.v 0))) .e0)))))) (.se (.if_ (.cm .NotEq (.ca 21 (.ec (.v 8) .e0)) (.v 6)) (.se (.re (.b false)) .en) .en) (.se (.set 9 (.op .Add (.v 5) (.ll (.ec (.ix (.ll (.ec (.s "one") (.ec (.s "other") .e0))) (.ca 42 (.ec (.v 2) (.ec (.i 2) .e0)))) .e0)))) (.se (.if_ (.an (.ca 63 (.ec (.ix (.v 3) (.i 0)) (.ec (.ix (.v 3) (.i 1)) (.ec (.v 4) (.ec (.v 5) .e0))))) (.no (.ca 63 (.ec (.ix (.v 3) (.i 0)) (.ec (.ix (.v 3) (.i 1)) (.ec (.v 4) (.ec (.v 9) .e0))))))) (.se (.re (.b false)) .en) .en) (.se (.if_ (.cm .NotEq (.sl (.ca 62 (.ec (.ix (.v 3) (.i 0)) (.ec (.ix (.v 3) (.i 1)) (.ec (.v 4) (.ec (.v 9) .e0))))) .p0 (.p1 (.bf "len" (.ec (.v 6) .e0)))) (.v 6)) (.se (.re (.b false)) .en) .en) .en))))))))))))) (.se (.re (.b true)) .en)⟩
noncomputable def qcX:FD:=⟨0,0,"is_word",["kind","thing"],["kind","thing"],.se (.if_ (.cm .Eq (.v 0) (.s "note")) (.se (.re (.ic false (.v 1) "NOTE_WORDS")) .en) .en) .ra⟩
noncomputable def qcZ:FD:=⟨0,0,"is_pool",["low","high"],["low","high"],.se (.re (.an (.ca 2 (.ec (.v 0) .e0)) (.an (.ca 2 (.ec (.v 1) .e0)) (.ch .LtE .LtE (.v 0) (.v 1) (.op .Add (.v 0) (.g "WIDEST_STEP")))))) .en⟩
noncomputable def qbM:FD:=⟨0,0,"holder_of",["form","inner"],["form","inner","lending","kind","house","door","place","far"],.se (.un [3,4,5,6,7] (.v 1)) (.se (.set 2 (.ix (.v 0) (.i 2))) (.se (.if_ (.cm .Eq (.v 2) (.s "door")) (.se (.re (.tu (.ec (.v 3) (.ec (.v 4) (.ec (.v 5) (.ec .n (.ec .n .e0))))))) .en) .en) (.se (.if_ (.cm .Eq (.v 2) (.s "place")) (.se (.re (.tu (.ec (.v 3) (.ec (.v 4) (.ec (.v 5) (.ec (.v 6) (.ec .n .e0))))))) .en) .en) (.se (.re (.tu (.ec (.v 3) (.ec (.v 4) (.ec (.v 5) (.ec (.v 6) (.ec (.v 7) .e0))))))) .en))))⟩
noncomputable def qcU:FD:=⟨0,0,"time_of",["form","state"],["form","state","times"],.se (.set 2 (.ix (.v 0) (.i 7))) (.se (.re (.ix (.v 2) (.tx "TIME_AT" (.v 1)))) .en)⟩
noncomputable def qbt:FD:=⟨0,0,"note_state",["state","word"],["state","word"],.se (.if_ (.an (.cm .Eq (.v 1) (.s "say")) (.or (.cm .Is (.v 0) .n) (.cm .Eq (.v 0) (.s "note")))) (.se (.re (.s "note")) .en) .en) (.se (.re .n) .en)⟩
noncomputable def qbE:FD:=⟨1,1,"has",["self","number"],["self","number"],.se (.re (.ch .LtE .LtE (.fl 1 "low" (.v 0)) (.v 1) (.fl 1 "high" (.v 0)))) .en⟩
noncomputable def qbl:FD:=⟨1,1,"take",["self","number"],["self","number"],.se (.dp (.fl 1 "taken" (.v 0)) (.v 1) (.b true)) (.se (.if_ (.dn false (.v 1) (.fl 1 "until" (.v 0))) (.se (.dd (.fl 1 "until" (.v 0)) (.v 1)) .en) .en) (.se (.sf 1 "mark" (.v 0) (.ie (.cm .Eq (.v 1) (.fl 1 "high" (.v 0))) (.fl 1 "low" (.v 0)) (.op .Add (.v 1) (.i 1)))) .en))⟩
noncomputable def qa9:FD:=⟨2,3,"__init__",["self","form"],["self","form"],.se (.sf 3 "form" (.v 0) (.v 1)) (.se (.sf 3 "pool" (.v 0) (.mk 45 (.ec (.ix (.v 1) (.i 0)) (.ec (.ix (.v 1) (.i 1)) .e0)))) (.se (.sf 3 "now" (.v 0) (.i 0)) (.se (.sf 3 "by_inner" (.v 0) .dt) (.se (.sf 3 "by_number" (.v 0) .dk) (.se (.sf 3 "holders" (.v 0) .dk) (.se (.sf 3 "numbers" (.v 0) .dt) .en))))))⟩
noncomputable def qaI:FD:=⟨1,3,"of_inner",["self","inner"],["self","inner"],.se (.re (.d1 (.fl 3 "by_inner" (.v 0)) (.v 1))) .en⟩
noncomputable def qaC:FD:=⟨1,3,"number_of",["self","inner"],["self","inner"],.se (.re (.d1 (.fl 3 "numbers" (.v 0)) (.ca 25 (.ec (.fl 3 "form" (.v 0)) (.ec (.v 1) .e0))))) .en⟩
noncomputable def qaD:FD:=⟨1,3,"holder_at",["self","number"],["self","number"],.se (.re (.d1 (.fl 3 "holders" (.v 0)) (.v 1))) .en⟩
noncomputable def qba:FD:=⟨1,3,"held",["self","house"],["self","house"],.se (.re (.cp false true ["number","holder"] [(1,"house")] (.im (.fl 3 "holders" (.v 0))) (.cm .Eq (.ix (.v 1) (.i 1)) (.v 2)) (.v 0))) .en⟩
noncomputable def qbo:FD:=⟨2,4,"__init__",["self","form"],["self","form"],.se (.if_ (.no (.ca 14 (.ec (.v 1) .e0))) (.se .ra .en) .en) (.se (.sf 4 "form" (.v 0) (.v 1)) (.se (.sf 4 "table" (.v 0) (.mk 30 (.ec (.v 1) .e0))) (.se (.sf 4 "strangers" (.v 0) (.mk 15 .e0)) (.se (.sf 4 "done" (.v 0) (.lm .e0)) (.se (.sf 4 "wish" (.v 0) .n) .en)))))⟩
noncomputable def qaX:FD:=⟨1,4,"deed",["self","deed"],["self","deed","answer"],.se (.if_ (.no (.ca 12 (.ec (.v 1) .e0))) (.se .ra .en) .en) (.se (.set 2 (.me 50 (.v 0) (.ec (.ix (.v 1) (.i 0)) (.ec (.sl (.v 1) (.p1 (.i 1)) .p0) .e0)))) (.se (.ex (.ap (.fl 4 "done" (.v 0)) (.ec (.tu (.ec (.v 1) (.ec (.v 2) .e0))) .e0))) (.se (.re (.v 2)) .en)))⟩
noncomputable def qbn:FD:=⟨1,4,"sent",["self","parts"],["self","parts","answer","number","kind","house","door","place","far","word","text"],.se (.un [4,5,6,7,8,9,10] (.v 1)) (.se (.set 2 (.me 51 (.v 0) (.ec (.tu (.ec (.v 4) (.ec (.v 5) (.ec (.v 6) (.ec (.v 7) (.ec (.v 8) .e0)))))) (.ec (.v 9) .e0)))) (.se (.if_ (.or (.cm .NotEq (.v 7) (.i 0)) (.cm .Eq (.ix (.v 2) (.i 0)) (.s "kept"))) (.se (.re (.v 2)) .en) .en) .ra))⟩
noncomputable def qaE:FD:=⟨1,4,"picked_for",["self","door"],["self","door","pool","now"],.se (.pr 2 3 (.ec (.fl 3 "pool" (.fl 4 "table" (.v 0))) (.ec (.fl 3 "now" (.fl 4 "table" (.v 0))) .e0))) (.se (.if_ (.an (.cm .IsNot (.fl 4 "wish" (.v 0)) .n) (.me 46 (.v 2) (.ec (.fl 4 "wish" (.v 0)) (.ec (.v 3) .e0)))) (.se (.re (.fl 4 "wish" (.v 0))) .en) .en) (.se (.re (.me 58 (.v 2) (.ec (.ix (.fl 4 "form" (.v 0)) (.i 4)) (.ec (.v 1) (.ec (.v 3) .e0))))) .en))⟩
noncomputable def qcc:FD:=⟨0,0,"write_to",["writer","reader"],["writer","reader","answer","arrived"],.se (.set 2 (.me 55 (.v 0) (.ec (.fl 5 "place" (.v 1)) (.ec (.fl 5 "known" (.v 1)) .e0)))) (.se (.if_ (.cm .NotEq (.ix (.v 2) (.i 0)) (.s "led")) (.se (.re (.tu (.ec (.v 2) (.ec .n .e0)))) .en) .en) (.se (.set 3 (.me 67 (.fl 5 "gate" (.v 1)) (.ec (.s "note") (.ec (.fl 5 "place" (.v 0)) (.ec (.ix (.v 2) (.i 1)) (.ec (.fl 5 "known" (.v 1)) (.ec (.s "say") (.ec (.s "") .e0)))))))) (.se (.re (.tu (.ec (.v 2) (.ec (.v 3) .e0)))) .en)))⟩
noncomputable def qbO:FD:=⟨0,0,"_law_cell",["script","k"],["script","k"],.se (.if_ (.cm .Lt (.v 1) (.bf "len" (.ec (.v 0) .e0))) (.se (.re (.ix (.v 0) (.v 1))) .en) .en) (.se (.re (.i 0)) .en)⟩
noncomputable def qbN:FD:=⟨0,0,"_law_well",["cell","turn"],["cell","turn"],.se (.if_ (.cm .GtE (.v 0) (.op .Pow (.i 10) (.i 18))) (.se (.re (.lm (.ec (.op .Sub (.v 0) (.op .Pow (.i 10) (.i 18))) (.ec (.op .Mod (.v 0) (.i 2305843009213693951)) (.ec (.v 1) .e0))))) .en) .en) (.se (.re (.lm (.ec (.i 0) (.ec (.op .Mod (.v 0) (.i 2305843009213693951)) (.ec (.v 1) .e0))))) .en)⟩
noncomputable def qa6:FD:=⟨0,0,"_law_take",["bag","many"],["bag","many","p","n","found"],.se (.if_ (.cm .Gt (.ix (.v 0) (.i 0)) (.i 0)) (.se (.set 4 (.op .Mod (.ix (.v 0) (.i 0)) (.v 1))) (.se (.sp (.v 0) (.i 0) (.op .FloorDiv (.ix (.v 0) (.i 0)) (.v 1))) (.se (.re (.v 4)) .en))) .en) (.se (.sp (.v 0) (.i 2) (.op .Add (.ix (.v 0) (.i 2)) (.i 1))) (.se (.set 2 (.i 2305843009213693951)) (.se (.set 3 (.op .Mod (.op .Add (.ix (.v 0) (.i 1)) (.op .Mult (.i 1000003) (.ix (.v 0) (.i 2)))) (.v 2))) (.se (.set 3 (.op .Mod (.op .Add (.op .Add (.op .Mult (.v 3) (.v 3)) (.op .Mult (.i 7919) (.op .Pow (.ix (.v 0) (.i 2)) (.i 2)))) (.i 5)) (.v 2))) (.se (.re (.op .Mod (.op .FloorDiv (.op .Mod (.op .Pow (.v 3) (.i 3)) (.v 2)) (.i 13)) (.v 1))) .en)))))⟩
noncomputable def qaQ:FD:=⟨0,0,"is_whole_within",["thing","least","greatest"],["thing","least","greatest"],.se (.re (.an (.ca 0 (.ec (.v 0) .e0)) (.ch .LtE .LtE (.v 1) (.v 0) (.v 2)))) .en⟩
noncomputable def qbL:FD:=⟨0,0,"is_letter",["kind","word","text"],["kind","word","text"],.se (.re (.an (.ca 6 (.ec (.v 0) .e0)) (.an (.ca 23 (.ec (.v 0) (.ec (.v 1) .e0))) (.ca 8 (.ec (.v 2) .e0))))) .en⟩
noncomputable def qbm:FD:=⟨2,1,"__init__",["self","low","high"],["self","low","high"],.se (.sf 1 "low" (.v 0) (.v 1)) (.se (.sf 1 "high" (.v 0) (.v 2)) (.se (.sf 1 "mark" (.v 0) (.v 1)) (.se (.sf 1 "taken" (.v 0) .dk) (.se (.sf 1 "until" (.v 0) .dk) .en))))⟩
noncomputable def qaS:FD:=⟨1,1,"is_free",["self","number","moment"],["self","number","moment"],.se (.if_ (.or (.no (.me 28 (.v 0) (.ec (.v 1) .e0))) (.dn false (.v 1) (.fl 1 "taken" (.v 0)))) (.se (.re (.b false)) .en) .en) (.se (.re (.or (.dn true (.v 1) (.fl 1 "until" (.v 0))) (.cm .LtE (.dg (.fl 1 "until" (.v 0)) (.v 1)) (.v 2)))) .en)⟩
noncomputable def qaN:FD:=⟨1,3,"is_with",["self","number","place"],["self","number","place"],.se (.re (.bf "any" (.ec (.cp false false ["talk"] [(2,"place")] (.iv (.dg (.fl 3 "by_number" (.v 0)) (.v 1))) (.b true) (.cm .Eq (.ix (.fl 2 "inner" (.v 0)) (.i 3)) (.v 1))) .e0))) .en⟩
noncomputable def qa7:FD:=⟨1,3,"lend",["self","number","inner"],["self","number","inner","holder"],.se (.set 3 (.ca 25 (.ec (.fl 3 "form" (.v 0)) (.ec (.v 2) .e0)))) (.se (.ex (.me 29 (.fl 3 "pool" (.v 0)) (.ec (.v 1) .e0))) (.se (.dp (.fl 3 "holders" (.v 0)) (.v 1) (.v 3)) (.se (.dp (.fl 3 "numbers" (.v 0)) (.v 3) (.v 1)) .en)))⟩
noncomputable def qa8:FD:=⟨1,3,"lead",["self","talk","state"],["self","talk","state"],.se (.if_ (.cm .Eq (.v 2) (.s "shut")) .ra .en) (.se (.sf 2 "state" (.v 1) (.v 2)) (.se (.sf 2 "over" (.v 1) (.op .Add (.fl 3 "now" (.v 0)) (.ca 26 (.ec (.fl 3 "form" (.v 0)) (.ec (.v 2) .e0))))) .en))⟩
noncomputable def qaw:FD:=⟨1,4,"answered",["self","name","parts"],["self","name","parts","kind","place","far","number","word","text"],.se (.if_ (.cm .Eq (.v 1) (.s "out")) (.se (.re (.me 37 (.v 0) (.ec (.v 2) .e0))) .en) .en) (.se (.if_ (.cm .Eq (.v 1) (.s "come")) (.se (.un [3,4,5,6,7,8] (.v 2)) (.se (.re (.me 66 (.v 0) (.ec (.v 3) (.ec (.v 4) (.ec (.v 5) (.ec (.v 6) (.ec (.v 7) .e0))))))) .en)) .en) .ra)⟩
noncomputable def qav:FD:=⟨1,4,"lead_out",["self","inner","word"],["self","inner","word","talk","state"],.se (.set 3 (.me 31 (.fl 4 "table" (.v 0)) (.ec (.v 1) .e0))) (.se (.set 4 (.ca 57 (.ec (.ix (.v 1) (.i 0)) (.ec (.ie (.cm .Is (.v 3) .n) .n (.fl 2 "state" (.v 3))) (.ec (.s "house") (.ec (.v 2) .e0)))))) (.se (.if_ (.cm .Is (.v 4) .n) (.se (.re (.tu (.ec (.s "kept") (.ec (.s "astray") .e0)))) .en) .en) (.se (.if_ (.cm .Is (.v 3) .n) (.se (.re (.me 52 (.v 0) (.ec (.v 1) (.ec (.v 4) .e0)))) .en) .en) (.se (.ex (.me 49 (.fl 4 "table" (.v 0)) (.ec (.v 3) (.ec (.v 4) .e0)))) (.se (.re (.tu (.ec (.s "led") (.ec (.fl 2 "number" (.v 3)) .e0)))) .en)))))⟩
noncomputable def qaf:FD:=⟨1,4,"begin_out",["self","inner","state"],["self","inner","state","number"],.se (.set 3 (.me 32 (.fl 4 "table" (.v 0)) (.ec (.v 1) .e0))) (.se (.if_ (.cm .Is (.v 3) .n) (.se (.if_ (.cm .GtE (.bf "len" (.ec (.me 34 (.fl 4 "table" (.v 0)) (.ec (.ix (.v 1) (.i 1)) .e0)) .e0)) (.ix (.fl 4 "form" (.v 0)) (.i 5))) (.se (.re (.tu (.ec (.s "kept") (.ec (.s "most") .e0)))) .en) .en) (.se (.set 3 (.me 38 (.v 0) (.ec (.ix (.v 1) (.i 2)) .e0))) (.se (.if_ (.cm .Is (.v 3) .n) (.se (.re (.tu (.ec (.s "kept") (.ec (.s "full") .e0)))) .en) .en) (.se (.ex (.me 48 (.fl 4 "table" (.v 0)) (.ec (.v 3) (.ec (.v 1) .e0)))) .en)))) .en) (.se (.ex (.me 59 (.fl 4 "table" (.v 0)) (.ec (.v 1) (.ec (.v 3) (.ec (.v 2) .e0))))) (.se (.re (.tu (.ec (.s "led") (.ec (.v 3) .e0)))) .en)))⟩
noncomputable def qaT:FD:=⟨1,4,"lead_in",["self","talk","word"],["self","talk","word","state","renew","kind","house","door","place","far"],.se (.un [5,6,7,8,9] (.fl 2 "inner" (.v 1))) (.se (.set 3 (.ca 57 (.ec (.v 5) (.ec (.fl 2 "state" (.v 1)) (.ec (.s "far") (.ec (.v 2) .e0)))))) (.se (.if_ (.cm .Is (.v 3) .n) (.se (.re (.tu (.ec (.s "kept") (.ec (.s "astray") .e0)))) .en) .en) (.se (.set 4 (.ix (.fl 4 "form" (.v 0)) (.i 6))) (.se (.if_ (.or (.v 4) (.cm .NotEq (.v 3) (.fl 2 "state" (.v 1)))) (.se (.ex (.me 49 (.fl 4 "table" (.v 0)) (.ec (.v 1) (.ec (.v 3) .e0)))) .en) .en) (.se (.re (.tu (.ec (.s "in") (.ec (.v 6) (.ec (.v 7) .e0))))) .en)))))⟩
noncomputable def qau:FD:=⟨1,4,"lets_note_in",["self","place","number"],["self","place","number","sieve"],.se (.set 3 (.ix (.fl 4 "form" (.v 0)) (.i 3))) (.se (.re (.or (.cm .Eq (.v 3) (.s "all")) (.an (.cm .Eq (.v 3) (.s "place")) (.me 47 (.fl 4 "table" (.v 0)) (.ec (.v 2) (.ec (.v 1) .e0)))))) .en)⟩
noncomputable def qaO:FD:=⟨1,5,"write",["self","place","far"],["self","place","far"],.se (.re (.me 68 (.fl 5 "gate" (.v 0)) (.ec (.s "note") (.ec (.g "HOUSE") (.ec (.fl 5 "door" (.v 0)) (.ec (.v 1) (.ec (.v 2) (.ec (.s "say") (.ec (.s "") .e0))))))))) .en⟩
noncomputable def f__law_due:FD:=⟨0,0,"_law_due",["forms","doors","steps"],["forms","doors","steps","wrote","found","step","at","form","there","out","inward"],.se (.set 3 (.lm (.ec (.b false) (.ec (.b false) .e0)))) (.se (.set 4 (.lm .e0)) (.se (.fo false [5] (.is (.v 2)) (.se (.set 6 (.bt "int" (.ec (.cm .Eq (.v 5) (.s "other")) .e0))) (.se (.set 7 (.ix (.v 0) (.v 6))) (.se (.set 8 (.ix (.v 0) (.op .Sub (.i 1) (.v 6)))) (.se (.set 9 (.s "led")) (.se (.if_ (.an (.cm .NotEq (.ix (.v 7) (.i 2)) (.s "door")) (.cm .Lt (.ix (.v 7) (.i 5)) (.i 2))) (.se (.set 9 (.s "most")) .en) (.se (.if_ (.an (.cm .NotEq (.ix (.v 7) (.i 2)) (.s "door")) (.cm .Eq (.ix (.v 7) (.i 0)) (.ix (.v 7) (.i 1)))) (.se (.set 9 (.s "full")) .en) .en) .en)) (.se (.set 10 (.cm .Eq (.ix (.v 8) (.i 3)) (.s "all"))) (.se (.if_ (.an (.cm .Eq (.ix (.v 8) (.i 2)) (.s "door")) (.ix (.v 3) (.op .Sub (.i 1) (.v 6)))) (.se (.set 10 (.or (.v 10) (.or (.cm .Eq (.ix (.v 8) (.i 3)) (.s "place")) (.cm .Eq (.ix (.v 7) (.i 2)) (.s "door"))))) .en) .en) (.se (.if_ (.cm .NotEq (.v 9) (.s "led")) (.se (.ex (.ap (.v 4) (.ec (.tu (.ec (.v 5) (.ec (.tu (.ec (.s "kept") (.ec (.v 9) .e0))) (.ec .n .e0)))) .e0))) .en) (.se (.if_ (.v 10) (.se (.ex (.ap (.v 4) (.ec (.tu (.ec (.v 5) (.ec (.s "led") (.ec (.tu (.ec (.s "in") (.ec (.i 0) (.ec (.ix (.v 1) (.op .Sub (.i 1) (.v 6))) .e0)))) .e0)))) .e0))) .en) (.se (.ex (.ap (.v 4) (.ec (.tu (.ec (.v 5) (.ec (.s "led") (.ec (.tu (.ec (.s "kept") (.ec (.s "sieve") .e0))) .e0)))) .e0))) .en)) .en)) (.se (.sp (.v 3) (.v 6) (.or (.ix (.v 3) (.v 6)) (.cm .Eq (.v 9) (.s "led")))) .en)))))))))) (.se (.re (.v 4)) .en)))⟩
noncomputable def qbu:FD:=⟨0,0,"next_state",["kind","state","side","word"],["kind","state","side","word"],.se (.if_ (.cm .Eq (.v 0) (.s "note")) (.se (.re (.ca 27 (.ec (.v 1) (.ec (.v 3) .e0)))) .en) .en) .ra⟩
noncomputable def qa2:FD:=⟨1,1,"picked",["self","pick","door","moment"],["self","pick","door","moment","number"],.se (.if_ (.an (.cm .Eq (.v 1) (.s "keep")) (.me 46 (.v 0) (.ec (.v 2) (.ec (.v 3) .e0)))) (.se (.re (.v 2)) .en) .en) (.se (.fo false [4] (.is (.me 16 (.v 0) .e0)) (.se (.if_ (.me 46 (.v 0) (.ec (.v 4) (.ec (.v 3) .e0))) (.se (.re (.v 4)) .en) .en) .en)) (.se (.re .n) .en))⟩
noncomputable def qaF:FD:=⟨1,3,"begin",["self","inner","number","state"],["self","inner","number","state","talk","kind","house","door","place","far"],.se (.un [5,6,7,8,9] (.v 1)) (.se (.set 4 (.mk 64 (.ec (.v 1) (.ec (.v 2) (.ec (.v 3) (.ec (.op .Add (.fl 3 "now" (.v 0)) (.ca 26 (.ec (.fl 3 "form" (.v 0)) (.ec (.v 3) .e0)))) .e0)))))) (.se (.dp (.fl 3 "by_inner" (.v 0)) (.v 1) (.v 4)) (.se (.if_ (.dn true (.v 2) (.fl 3 "by_number" (.v 0))) (.se (.dp (.fl 3 "by_number" (.v 0)) (.v 2) .dt) .en) .en) (.se (.dp (.dg (.fl 3 "by_number" (.v 0)) (.v 2)) (.tu (.ec (.v 5) (.ec (.v 8) (.ec (.v 9) .e0)))) (.v 4)) .en))))⟩
noncomputable def qa3:FD:=⟨1,4,"sifted",["self","kind","place","number"],["self","kind","place","number","holder"],.se (.set 4 (.me 33 (.fl 4 "table" (.v 0)) (.ec (.v 3) .e0))) (.se (.if_ (.or (.cm .Is (.v 4) .n) (.cm .NotEq (.ix (.v 4) (.i 0)) (.v 1))) (.se (.re (.tu (.ec (.s "kept") (.ec (.s "nobody") .e0)))) .en) .en) (.se (.if_ (.or (.cm .Eq (.v 1) (.s "line")) (.no (.me 54 (.v 0) (.ec (.v 2) (.ec (.v 3) .e0))))) (.se (.re (.tu (.ec (.s "kept") (.ec (.s "sieve") .e0)))) .en) .en) (.se (.re (.tu (.ec (.s "in") (.ec (.ix (.v 4) (.i 1)) (.ec (.ix (.v 4) (.i 2)) .e0))))) .en)))⟩
noncomputable def qbk:FD:=⟨2,5,"__init__",["self","form","place","door"],["self","form","place","door"],.se (.sf 5 "gate" (.v 0) (.mk 35 (.ec (.v 1) .e0))) (.se (.sf 5 "place" (.v 0) (.v 2)) (.se (.sf 5 "door" (.v 0) (.v 3)) (.se (.sf 5 "known" (.v 0) (.ix (.me 55 (.v 0) (.ec (.g "HELPER_PLACE") (.ec (.g "HELPER_DOOR") .e0))) (.i 1))) .en)))⟩
noncomputable def qcW:FD:=⟨0,0,"meeting",["one","other","doors","steps"],["one","other","doors","steps","first","second","rows","step"],.se (.if_ (.or (.no (.ca 14 (.ec (.v 0) .e0))) (.no (.ca 14 (.ec (.v 1) .e0)))) (.se .ra .en) .en) (.se (.if_ (.or (.no (.ca 17 (.ec (.v 2) .e0))) (.no (.ca 18 (.ec (.v 3) .e0)))) (.se .ra .en) .en) (.se (.set 4 (.mk 61 (.ec (.v 0) (.ec (.g "FIRST_PLACE") (.ec (.ix (.v 2) (.i 0)) .e0))))) (.se (.set 5 (.mk 61 (.ec (.v 1) (.ec (.g "SECOND_PLACE") (.ec (.ix (.v 2) (.i 1)) .e0))))) (.se (.set 6 (.lm .e0)) (.se (.fo false [7] (.is (.v 3)) (.se (.if_ (.cm .Eq (.v 7) (.s "one")) (.se (.ex (.ap (.v 6) (.ec (.op .Add (.tu (.ec (.v 7) .e0)) (.ca 39 (.ec (.v 4) (.ec (.v 5) .e0)))) .e0))) .en) (.se (.if_ (.cm .Eq (.v 7) (.s "other")) (.se (.ex (.ap (.v 6) (.ec (.op .Add (.tu (.ec (.v 7) .e0)) (.ca 39 (.ec (.v 5) (.ec (.v 4) .e0)))) .e0))) .en) .ra) .en)) .en)) (.se (.re (.v 6)) .en))))))⟩
noncomputable def qgl:FD:=⟨0,0,"meets",["one","other","doors","steps"],["one","other","doors","steps","rows","led_in"],.se (.set 4 (.ca 62 (.ec (.v 0) (.ec (.v 1) (.ec (.v 2) (.ec (.v 3) .e0)))))) (.se (.set 5 (.cp false true ["step","answer","arrived"] [] (.is (.v 4)) (.an (.cm .IsNot (.v 2) .n) (.cm .Eq (.ix (.v 2) (.i 0)) (.s "in"))) (.v 0))) (.se (.re (.bf "all" (.ec (.cp false false ["writer"] [(5,"led_in")] (.ig "WRITERS") (.b true) (.cm .In (.v 0) (.v 1))) .e0))) .en))⟩
noncomputable def qbj:FD:=⟨2,2,"__init__",["self","inner","number","state","over"],["self","inner","number","state","over"],.se (.sf 2 "inner" (.v 0) (.v 1)) (.se (.sf 2 "number" (.v 0) (.v 2)) (.se (.sf 2 "state" (.v 0) (.v 3)) (.se (.sf 2 "over" (.v 0) (.v 4)) .en)))⟩
noncomputable def qas:FD:=⟨1,3,"of_outer",["self","kind","number","place","far"],["self","kind","number","place","far"],.se (.if_ (.dn true (.v 2) (.fl 3 "by_number" (.v 0))) (.se (.re .n) .en) .en) (.se (.re (.d1 (.dg (.fl 3 "by_number" (.v 0)) (.v 2)) (.tu (.ec (.v 1) (.ec (.v 3) (.ec (.v 4) .e0)))))) .en)⟩
noncomputable def qaU:FD:=⟨1,4,"come_in",["self","kind","place","far","number","word"],["self","kind","place","far","number","word","talk"],.se (.set 6 (.me 65 (.fl 4 "table" (.v 0)) (.ec (.v 1) (.ec (.v 4) (.ec (.v 2) (.ec (.v 3) .e0)))))) (.se (.if_ (.cm .IsNot (.v 6) .n) (.se (.re (.me 53 (.v 0) (.ec (.v 6) (.ec (.v 5) .e0)))) .en) .en) (.se (.if_ (.me 28 (.fl 3 "pool" (.fl 4 "table" (.v 0))) (.ec (.v 4) .e0)) (.se (.re (.me 60 (.v 0) (.ec (.v 1) (.ec (.v 2) (.ec (.v 4) .e0))))) .en) .en) .ra))⟩
noncomputable def qbp:FD:=⟨1,4,"come",["self","kind","place","far","number","word","text"],["self","kind","place","far","number","word","text"],.se (.re (.me 36 (.v 0) (.ec (.tu (.ec (.s "come") (.ec (.v 1) (.ec (.v 2) (.ec (.v 3) (.ec (.v 4) (.ec (.v 5) (.ec (.v 6) .e0)))))))) .e0))) .en⟩
noncomputable def qbF:FD:=⟨1,4,"out",["self","kind","house","door","place","far","word","text"],["self","kind","house","door","place","far","word","text"],.se (.re (.me 36 (.v 0) (.ec (.tu (.ec (.s "out") (.ec (.v 1) (.ec (.v 2) (.ec (.v 3) (.ec (.v 4) (.ec (.v 5) (.ec (.v 6) (.ec (.v 7) .e0))))))))) .e0))) .en⟩
noncomputable def S:SI where
 gi:=[("GREATEST_HOUSE",99),("GREATEST_DOOR",9999),("GREATEST_PLACE",1000000),("GREATEST_TICKS",1000000),("MOST_SIGNS",40),("FIRST_SIGN",32),("LAST_SIGN",126),("PERCENT_SIGN",37),("WIDEST_STEP",199),("GREATEST_MOST",200),("GREATEST_TIME",1000000),("FIRST_PLACE",1),("SECOND_PLACE",2),("HELPER_PLACE",3),("HELPER_DOOR",1),("HOUSE",0),("MOST_STEPS",100)]
 gt:=[("KINDS",["note","line"]),("NOTE_WORDS",["say"]),("LENDINGS",["door","place","talk"]),("SIEVES",["all","place","talk"]),("PICKS",["next","keep"]),("WRITERS",["one","other"])]
 tb:=["DEEDS","TIME_AT"]
 tt:=[]
 cl:=["Rules","Pool","Talk","Talks","Gate","Side"]
 fs:=[(0,"many_told"),(0,"standing"),(1,"low"),(1,"high"),(1,"mark"),(1,"taken"),(1,"until"),(2,"inner"),(2,"number"),(2,"state"),(2,"over"),(3,"form"),(3,"pool"),(3,"now"),(3,"by_inner"),(3,"by_number"),(3,"holders"),(3,"numbers"),(4,"form"),(4,"table"),(4,"strangers"),(4,"done"),(4,"wish"),(5,"gate"),(5,"place"),(5,"door"),(5,"known")]
 bl:=["all","any","bool","int","isinstance","len","list","ord","range","str","tuple"]
 fd:=[qcd,qch,qc3,qcg,qaV,qfE,qc1,qhL,qcY,qc0,qb2,qcV,qbD,qce,qc2,qbb,qaJ,qci,qcf,qbh,qbv,qbg,f_law,qcX,qcZ,qbM,qcU,qbt,qbE,qbl,qa9,qaI,qaC,qaD,qba,qbo,qaX,qbn,qaE,qcc,qbO,qbN,qa6,qaQ,qbL,qbm,qaS,qaN,qa7,qa8,qaw,qav,qaf,qaT,qau,qaO,f__law_due,qbu,qa2,qaF,qa3,qbk,qcW,qgl,qbj,qas,qaU,qbp,qbF]
abbrev qj4:Stmt:=top 14
abbrev qj9:Stmt:=top 16
abbrev qlq:Stmt:=top 17
abbrev qj8:Stmt:=top 18
abbrev qdI:Stmt:=top 19
abbrev qj6:Stmt:=top 20
abbrev qlo:Stmt:=top 21
abbrev qlm:Stmt:=top 23
abbrev qll:Stmt:=top 24
abbrev qnR:Stmt:=top 26
abbrev qls:Stmt:=top 27
abbrev qlh:Stmt:=top 33
abbrev qlr:Stmt:=top 34
abbrev qj5:Stmt:=top 50
abbrev qlp:Stmt:=top 51
abbrev qgO:Stmt:=inClass (top 61) 0
abbrev qdL:Stmt:=inClass (top 63) 3
abbrev qka:Stmt:=top 77
abbrev qj7:Stmt:=top 78
abbrev qfQ:Stmt:=top 87
abbrev qgI:Stmt:=top 89
abbrev qfP:Stmt:=top 90
abbrev qsZ:Stmt:=top 91
abbrev qlk:Stmt:=top 22
abbrev qln:Stmt:=top 49
abbrev qii:Stmt:=top 52
abbrev qlg:Stmt:=top 53
abbrev qgG:Stmt:=top 57
abbrev qkc:Stmt:=inClass (top 63) 1
abbrev qio:Stmt:=inClass (top 63) 5
abbrev qgL:Stmt:=inClass (top 66) 0
abbrev qdK:Stmt:=inClass (top 66) 1
abbrev qdc:Stmt:=inClass (top 66) 6
abbrev qdd:Stmt:=inClass (top 66) 7
abbrev qgM:Stmt:=inClass (top 66) 8
abbrev qir:Stmt:=inClass (top 68) 0
abbrev qis:Stmt:=inClass (top 68) 1
abbrev qiq:Stmt:=inClass (top 68) 16
abbrev qde:Stmt:=inClass (top 68) 19
abbrev qj2:Stmt:=top 80
abbrev qil:Stmt:=top 84
abbrev qij:Stmt:=top 85
abbrev qik:Stmt:=top 86
abbrev qdb:Stmt:=top 15
abbrev qih:Stmt:=top 25
abbrev qip:Stmt:=inClass (top 63) 0
abbrev qe5:Stmt:=inClass (top 63) 2
abbrev qeg:Stmt:=inClass (top 66) 3
abbrev qgJ:Stmt:=inClass (top 66) 10
abbrev qgK:Stmt:=inClass (top 66) 13
abbrev qei:Stmt:=inClass (top 68) 15
abbrev qeh:Stmt:=inClass (top 68) 17
abbrev qdM:Stmt:=inClass (top 68) 18
abbrev qe6:Stmt:=inClass (top 68) 21
abbrev qcp:Stmt:=inClass (top 68) 23
abbrev qgN:Stmt:=inClass (top 79) 1
abbrev qkb:Stmt:=top 88
abbrev qgH:Stmt:=top 59
abbrev qfS:Stmt:=inClass (top 63) 4
abbrev qfR:Stmt:=inClass (top 66) 12
abbrev qfT:Stmt:=inClass (top 68) 22
abbrev qin:Stmt:=inClass (top 79) 0
abbrev qli:Stmt:=top 81
abbrev qqu:Stmt:=top 82
abbrev qim:Stmt:=inClass (top 65) 0
abbrev qdJ:Stmt:=inClass (top 66) 2
abbrev qe7:Stmt:=inClass (top 68) 20
abbrev qit:Stmt:=inClass (top 68) 3
abbrev qkd:Stmt:=inClass (top 68) 2
structure Env where
 tb:Str->LKR
 C:Nat->Addr
 cv:List (Addr×Nat)
def P(e:Env):Prg:=⟨S,e.tb,e.C,e.cv⟩
def rd(Q:RVK):RD:={ nx:=fun _ M'=>Q .non M',rt:=Q }
section
variable {e:Env}{n:Nat}{M:RM}{Q:RVK}{σ:RSt}{rs:LR}
theorem qwz{y:Str}{N:LSt}{x:RV}:qbS (y::N) (x::rs)=some x::qbS N rs:=by unfold qbS;rw[wah,wah,Nat.add_sub_add_right];rfl
theorem qwx{y:Str}{N:LSt}:qbS (y::N) []=none::qbS N []:=rfl
theorem qwy:qbS [] []= []:=rfl
theorem qam{A B C:Prop}(h:A)(k:B=C):(A/\B)=C:=by rw[eq_true h,true_and,k]
theorem qwI:(rd Q).nx σ M=Q .non M:=rfl
theorem qwH:(rd Q).rt=Q:=rfl
theorem qDV{i:Nat}:((P e).Gn n).fn i rs M Q=sem (P e) n i rs M Q:=rfl
theorem qDU{x:Str}:((P e).Gn n).tb x=e.tb x:=rfl
theorem qxP:((P e).Gn n).cvs=e.cv.map fun q=>(q.1,sem (P e) n q.2):=rfl
theorem g_C{i:Nat}:((P e).Gn n).C i=e.C i:=rfl
theorem us{i:Nat}{d:FD}{rs:LR}(h:S.fd[i]? =some d):sem (P e) (n+1) i rs M Q=(rs.length=d.ps.length/\(tr ((P e).Gn n) d.body).S (rd Q) (qbS d.N rs) M):=by rw[qjq (p:=P e) h];rfl
end
def qiI(e:Env)(v0 v1:RV):RO:=.ins (e.C 0) [("many_told",v0),("standing",v1)]
def qak(e:Env)(v0 v1 v2 v3 v4:RV):RO:=.ins (e.C 1) [("low",v0),("high",v1),("mark",v2),("taken",v3),("until",v4)]
def qan(e:Env)(v0 v1 v2 v3:RV):RO:=.ins (e.C 2) [("inner",v0),("number",v1),("state",v2),("over",v3)]
def qae(e:Env)(v0 v1 v2 v3 v4 v5 v6:RV):RO:=.ins (e.C 3) [("form",v0),("pool",v1),("now",v2),("by_inner",v3),("by_number",v4),("holders",v5),("numbers",v6)]
def qag(e:Env)(v0 v1 v2 v3 v4:RV):RO:=.ins (e.C 4) [("form",v0),("table",v1),("strangers",v2),("done",v3),("wish",v4)]
def qbB(e:Env)(v0 v1 v2 v3:RV):RO:=.ins (e.C 5) [("gate",v0),("place",v1),("door",v2),("known",v3)]
section
variable {e:Env}{n:Nat}{M:RM}{Q:RVK}{σ:RSt}{rs:LR}{x:Addr}{y:RV}{N:RM->Prop}{t:RTA}{sp:RSp}{o a:T}
theorem qkG:sO (e.C 0) "many_told" y N x M (some (.ins (e.C 0) []))=N (put M x (.ins (e.C 0) [("many_told",y)])):=by rw[qay];exact qam (Nat.le_of_ble_eq_true rfl) rfl
theorem qkF{v0:RV}:sO (e.C 0) "standing" y N x M (some (.ins (e.C 0) [("many_told",v0)]))=N (put M x (qiI e v0 y)):=by rw[qay];exact qam (Nat.le_of_ble_eq_true rfl) rfl
theorem qrf:(tr ((P e).Gn (n+1)) (.mk 15 a)).E σ M Q=(tr ((P e).Gn (n+1)) a).A σ M fun rs M1=>∀ x,M1 x=none->sem (P e) n 15 (.ref x::rs) (put M1 x (.ins (e.C 0) [])) fun v M2=>v= .non/\Q (.ref x) M2:=qse (d:=qbb) rfl
theorem qks{v0 v1 v2 v3 v4:RV}:fO (e.C 1) "low" Q M (some (qak e v0 v1 v2 v3 v4))=Q v0 M:=by rw[qak,qaK];rfl
theorem qiQ{v0 v1 v2 v3 v4:RV}:fO (e.C 1) "high" Q M (some (qak e v0 v1 v2 v3 v4))=Q v1 M:=by rw[qak,qaK];rfl
theorem qiP{v0 v1 v2 v3 v4:RV}:fO (e.C 1) "mark" Q M (some (qak e v0 v1 v2 v3 v4))=Q v2 M:=by rw[qak,qaK];rfl
theorem qh9{v0 v1 v2 v3 v4:RV}:sO (e.C 1) "mark" y N x M (some (qak e v0 v1 v2 v3 v4))=N (put M x (qak e v0 v1 y v3 v4)):=by rw[qak,qay];exact qam (Nat.le_of_ble_eq_true rfl) rfl
theorem qhp{v0 v1 v2 v3 v4:RV}:fO (e.C 1) "taken" Q M (some (qak e v0 v1 v2 v3 v4))=Q v3 M:=by rw[qak,qaK];rfl
theorem qho{v0 v1 v2 v3 v4:RV}:fO (e.C 1) "until" Q M (some (qak e v0 v1 v2 v3 v4))=Q v4 M:=by rw[qak,qaK];rfl
theorem qmF:sO (e.C 1) "low" y N x M (some (.ins (e.C 1) []))=N (put M x (.ins (e.C 1) [("low",y)])):=by rw[qay];exact qam (Nat.le_of_ble_eq_true rfl) rfl
theorem qmE{v0:RV}:sO (e.C 1) "high" y N x M (some (.ins (e.C 1) [("low",v0)]))=N (put M x (.ins (e.C 1) [("low",v0),("high",y)])):=by rw[qay];exact qam (Nat.le_of_ble_eq_true rfl) rfl
theorem qmD{v0 v1:RV}:sO (e.C 1) "mark" y N x M (some (.ins (e.C 1) [("low",v0),("high",v1)]))=N (put M x (.ins (e.C 1) [("low",v0),("high",v1),("mark",y)])):=by rw[qay];exact qam (Nat.le_of_ble_eq_true rfl) rfl
theorem qmC{v0 v1 v2:RV}:sO (e.C 1) "taken" y N x M (some (.ins (e.C 1) [("low",v0),("high",v1),("mark",v2)]))=N (put M x (.ins (e.C 1) [("low",v0),("high",v1),("mark",v2),("taken",y)])):=by rw[qay];exact qam (Nat.le_of_ble_eq_true rfl) rfl
theorem qmB{v0 v1 v2 v3:RV}:sO (e.C 1) "until" y N x M (some (.ins (e.C 1) [("low",v0),("high",v1),("mark",v2),("taken",v3)]))=N (put M x (qak e v0 v1 v2 v3 y)):=by rw[qay];exact qam (Nat.le_of_ble_eq_true rfl) rfl
theorem qbr{v0 v1 v2 v3 v4:RV}:mO (e.C 1) "from_mark" sp t σ Q x M (some (qak e v0 v1 v2 v3 v4))=t σ M fun rs M2=>sp (.ref x::rs) M2 Q:=by rw[qak,qaz];exact qam rfl rfl
theorem qdF:(tr ((P e).Gn n) (.me 16 o a)).E σ M Q=(tr ((P e).Gn n) o).E σ M (kMe (e.C 1) "from_mark" (sem (P e) n 16) (tr ((P e).Gn n) a).A σ Q):=qc6 (d:=qaJ) rfl
theorem qhd{v0 v1 v2 v3 v4:RV}:mO (e.C 1) "has" sp t σ Q x M (some (qak e v0 v1 v2 v3 v4))=t σ M fun rs M2=>sp (.ref x::rs) M2 Q:=by rw[qak,qaz];exact qam rfl rfl
theorem qjZ:(tr ((P e).Gn n) (.me 28 o a)).E σ M Q=(tr ((P e).Gn n) o).E σ M (kMe (e.C 1) "has" (sem (P e) n 28) (tr ((P e).Gn n) a).A σ Q):=qc6 (d:=qbE) rfl
theorem qcN{v0 v1 v2 v3 v4:RV}:mO (e.C 1) "take" sp t σ Q x M (some (qak e v0 v1 v2 v3 v4))=t σ M fun rs M2=>sp (.ref x::rs) M2 Q:=by rw[qak,qaz];exact qam rfl rfl
theorem qid:(tr ((P e).Gn n) (.me 29 o a)).E σ M Q=(tr ((P e).Gn n) o).E σ M (kMe (e.C 1) "take" (sem (P e) n 29) (tr ((P e).Gn n) a).A σ Q):=qc6 (d:=qbl) rfl
theorem qum:(tr ((P e).Gn (n+1)) (.mk 45 a)).E σ M Q=(tr ((P e).Gn (n+1)) a).A σ M fun rs M1=>∀ x,M1 x=none->sem (P e) n 45 (.ref x::rs) (put M1 x (.ins (e.C 1) [])) fun v M2=>v= .non/\Q (.ref x) M2:=qse (d:=qbm) rfl
theorem qdP{v0 v1 v2 v3 v4:RV}:mO (e.C 1) "is_free" sp t σ Q x M (some (qak e v0 v1 v2 v3 v4))=t σ M fun rs M2=>sp (.ref x::rs) M2 Q:=by rw[qak,qaz];exact qam rfl rfl
theorem qe2:(tr ((P e).Gn n) (.me 46 o a)).E σ M Q=(tr ((P e).Gn n) o).E σ M (kMe (e.C 1) "is_free" (sem (P e) n 46) (tr ((P e).Gn n) a).A σ Q):=qc6 (d:=qaS) rfl
theorem qeB{v0 v1 v2 v3 v4:RV}:mO (e.C 1) "picked" sp t σ Q x M (some (qak e v0 v1 v2 v3 v4))=t σ M fun rs M2=>sp (.ref x::rs) M2 Q:=by rw[qak,qaz];exact qam rfl rfl
theorem qfM:(tr ((P e).Gn n) (.me 58 o a)).E σ M Q=(tr ((P e).Gn n) o).E σ M (kMe (e.C 1) "picked" (sem (P e) n 58) (tr ((P e).Gn n) a).A σ Q):=qc6 (d:=qa2) rfl
theorem qhl{v0 v1 v2 v3:RV}:fO (e.C 2) "inner" Q M (some (qan e v0 v1 v2 v3))=Q v0 M:=by rw[qan,qaK];rfl
theorem qf9{v0 v1 v2 v3:RV}:fO (e.C 2) "number" Q M (some (qan e v0 v1 v2 v3))=Q v1 M:=by rw[qan,qaK];rfl
theorem qhk{v0 v1 v2 v3:RV}:fO (e.C 2) "state" Q M (some (qan e v0 v1 v2 v3))=Q v2 M:=by rw[qan,qaK];rfl
theorem qgv{v0 v1 v2 v3:RV}:sO (e.C 2) "state" y N x M (some (qan e v0 v1 v2 v3))=N (put M x (qan e v0 v1 y v3)):=by rw[qan,qay];exact qam (Nat.le_of_ble_eq_true rfl) rfl
theorem qh8{v0 v1 v2 v3:RV}:sO (e.C 2) "over" y N x M (some (qan e v0 v1 v2 v3))=N (put M x (qan e v0 v1 v2 y)):=by rw[qan,qay];exact qam (Nat.le_of_ble_eq_true rfl) rfl
theorem qmw:sO (e.C 2) "inner" y N x M (some (.ins (e.C 2) []))=N (put M x (.ins (e.C 2) [("inner",y)])):=by rw[qay];exact qam (Nat.le_of_ble_eq_true rfl) rfl
theorem qmv{v0:RV}:sO (e.C 2) "number" y N x M (some (.ins (e.C 2) [("inner",v0)]))=N (put M x (.ins (e.C 2) [("inner",v0),("number",y)])):=by rw[qay];exact qam (Nat.le_of_ble_eq_true rfl) rfl
theorem qmu{v0 v1:RV}:sO (e.C 2) "state" y N x M (some (.ins (e.C 2) [("inner",v0),("number",v1)]))=N (put M x (.ins (e.C 2) [("inner",v0),("number",v1),("state",y)])):=by rw[qay];exact qam (Nat.le_of_ble_eq_true rfl) rfl
theorem qmt{v0 v1 v2:RV}:sO (e.C 2) "over" y N x M (some (.ins (e.C 2) [("inner",v0),("number",v1),("state",v2)]))=N (put M x (qan e v0 v1 v2 y)):=by rw[qay];exact qam (Nat.le_of_ble_eq_true rfl) rfl
theorem quk:(tr ((P e).Gn (n+1)) (.mk 64 a)).E σ M Q=(tr ((P e).Gn (n+1)) a).A σ M fun rs M1=>∀ x,M1 x=none->sem (P e) n 64 (.ref x::rs) (put M1 x (.ins (e.C 2) [])) fun v M2=>v= .non/\Q (.ref x) M2:=qse (d:=qbj) rfl
theorem qhj{v0 v1 v2 v3 v4 v5 v6:RV}:fO (e.C 3) "form" Q M (some (qae e v0 v1 v2 v3 v4 v5 v6))=Q v0 M:=by rw[qae,qaK];rfl
theorem qhi{v0 v1 v2 v3 v4 v5 v6:RV}:fO (e.C 3) "pool" Q M (some (qae e v0 v1 v2 v3 v4 v5 v6))=Q v1 M:=by rw[qae,qaK];rfl
theorem qiM{v0 v1 v2 v3 v4 v5 v6:RV}:fO (e.C 3) "now" Q M (some (qae e v0 v1 v2 v3 v4 v5 v6))=Q v2 M:=by rw[qae,qaK];rfl
theorem qdT{v0 v1 v2 v3 v4 v5 v6:RV}:fO (e.C 3) "by_inner" Q M (some (qae e v0 v1 v2 v3 v4 v5 v6))=Q v3 M:=by rw[qae,qaK];rfl
theorem qdm{v0 v1 v2 v3 v4 v5 v6:RV}:fO (e.C 3) "by_number" Q M (some (qae e v0 v1 v2 v3 v4 v5 v6))=Q v4 M:=by rw[qae,qaK];rfl
theorem qeH{v0 v1 v2 v3 v4 v5 v6:RV}:fO (e.C 3) "holders" Q M (some (qae e v0 v1 v2 v3 v4 v5 v6))=Q v5 M:=by rw[qae,qaK];rfl
theorem qeG{v0 v1 v2 v3 v4 v5 v6:RV}:fO (e.C 3) "numbers" Q M (some (qae e v0 v1 v2 v3 v4 v5 v6))=Q v6 M:=by rw[qae,qaK];rfl
theorem qkE:sO (e.C 3) "form" y N x M (some (.ins (e.C 3) []))=N (put M x (.ins (e.C 3) [("form",y)])):=by rw[qay];exact qam (Nat.le_of_ble_eq_true rfl) rfl
theorem qkD{v0:RV}:sO (e.C 3) "pool" y N x M (some (.ins (e.C 3) [("form",v0)]))=N (put M x (.ins (e.C 3) [("form",v0),("pool",y)])):=by rw[qay];exact qam (Nat.le_of_ble_eq_true rfl) rfl
theorem qkC{v0 v1:RV}:sO (e.C 3) "now" y N x M (some (.ins (e.C 3) [("form",v0),("pool",v1)]))=N (put M x (.ins (e.C 3) [("form",v0),("pool",v1),("now",y)])):=by rw[qay];exact qam (Nat.le_of_ble_eq_true rfl) rfl
theorem qkB{v0 v1 v2:RV}:sO (e.C 3) "by_inner" y N x M (some (.ins (e.C 3) [("form",v0),("pool",v1),("now",v2)]))=N (put M x (.ins (e.C 3) [("form",v0),("pool",v1),("now",v2),("by_inner",y)])):=by rw[qay];exact qam (Nat.le_of_ble_eq_true rfl) rfl
theorem qkA{v0 v1 v2 v3:RV}:sO (e.C 3) "by_number" y N x M (some (.ins (e.C 3) [("form",v0),("pool",v1),("now",v2),("by_inner",v3)]))=N (put M x (.ins (e.C 3) [("form",v0),("pool",v1),("now",v2),("by_inner",v3),("by_number",y)])):=by rw[qay];exact qam (Nat.le_of_ble_eq_true rfl) rfl
theorem qkz{v0 v1 v2 v3 v4:RV}:sO (e.C 3) "holders" y N x M (some (.ins (e.C 3) [("form",v0),("pool",v1),("now",v2),("by_inner",v3),("by_number",v4)]))=N (put M x (.ins (e.C 3) [("form",v0),("pool",v1),("now",v2),("by_inner",v3),("by_number",v4),("holders",y)])):=by rw[qay];exact qam (Nat.le_of_ble_eq_true rfl) rfl
theorem qky{v0 v1 v2 v3 v4 v5:RV}:sO (e.C 3) "numbers" y N x M (some (.ins (e.C 3) [("form",v0),("pool",v1),("now",v2),("by_inner",v3),("by_number",v4),("holders",v5)]))=N (put M x (qae e v0 v1 v2 v3 v4 v5 y)):=by rw[qay];exact qam (Nat.le_of_ble_eq_true rfl) rfl
theorem qre:(tr ((P e).Gn (n+1)) (.mk 30 a)).E σ M Q=(tr ((P e).Gn (n+1)) a).A σ M fun rs M1=>∀ x,M1 x=none->sem (P e) n 30 (.ref x::rs) (put M1 x (.ins (e.C 3) [])) fun v M2=>v= .non/\Q (.ref x) M2:=qse (d:=qa9) rfl
theorem qcM{v0 v1 v2 v3 v4 v5 v6:RV}:mO (e.C 3) "of_inner" sp t σ Q x M (some (qae e v0 v1 v2 v3 v4 v5 v6))=t σ M fun rs M2=>sp (.ref x::rs) M2 Q:=by rw[qae,qaz];exact qam rfl rfl
theorem qdE:(tr ((P e).Gn n) (.me 31 o a)).E σ M Q=(tr ((P e).Gn n) o).E σ M (kMe (e.C 3) "of_inner" (sem (P e) n 31) (tr ((P e).Gn n) a).A σ Q):=qc6 (d:=qaI) rfl
theorem qcr{v0 v1 v2 v3 v4 v5 v6:RV}:mO (e.C 3) "number_of" sp t σ Q x M (some (qae e v0 v1 v2 v3 v4 v5 v6))=t σ M fun rs M2=>sp (.ref x::rs) M2 Q:=by rw[qae,qaz];exact qam rfl rfl
theorem qc7:(tr ((P e).Gn n) (.me 32 o a)).E σ M Q=(tr ((P e).Gn n) o).E σ M (kMe (e.C 3) "number_of" (sem (P e) n 32) (tr ((P e).Gn n) a).A σ Q):=qc6 (d:=qaC) rfl
theorem qcs{v0 v1 v2 v3 v4 v5 v6:RV}:mO (e.C 3) "holder_at" sp t σ Q x M (some (qae e v0 v1 v2 v3 v4 v5 v6))=t σ M fun rs M2=>sp (.ref x::rs) M2 Q:=by rw[qae,qaz];exact qam rfl rfl
theorem qc8:(tr ((P e).Gn n) (.me 33 o a)).E σ M Q=(tr ((P e).Gn n) o).E σ M (kMe (e.C 3) "holder_at" (sem (P e) n 33) (tr ((P e).Gn n) a).A σ Q):=qc6 (d:=qaD) rfl
theorem qfe{v0 v1 v2 v3 v4 v5 v6:RV}:mO (e.C 3) "held" sp t σ Q x M (some (qae e v0 v1 v2 v3 v4 v5 v6))=t σ M fun rs M2=>sp (.ref x::rs) M2 Q:=by rw[qae,qaz];exact qam rfl rfl
theorem qgC:(tr ((P e).Gn n) (.me 34 o a)).E σ M Q=(tr ((P e).Gn n) o).E σ M (kMe (e.C 3) "held" (sem (P e) n 34) (tr ((P e).Gn n) a).A σ Q):=qc6 (d:=qba) rfl
theorem qdj{v0 v1 v2 v3 v4 v5 v6:RV}:mO (e.C 3) "is_with" sp t σ Q x M (some (qae e v0 v1 v2 v3 v4 v5 v6))=t σ M fun rs M2=>sp (.ref x::rs) M2 Q:=by rw[qae,qaz];exact qam rfl rfl
theorem qec:(tr ((P e).Gn n) (.me 47 o a)).E σ M Q=(tr ((P e).Gn n) o).E σ M (kMe (e.C 3) "is_with" (sem (P e) n 47) (tr ((P e).Gn n) a).A σ Q):=qc6 (d:=qaN) rfl
theorem qfc{v0 v1 v2 v3 v4 v5 v6:RV}:mO (e.C 3) "lend" sp t σ Q x M (some (qae e v0 v1 v2 v3 v4 v5 v6))=t σ M fun rs M2=>sp (.ref x::rs) M2 Q:=by rw[qae,qaz];exact qam rfl rfl
theorem qgA:(tr ((P e).Gn n) (.me 48 o a)).E σ M Q=(tr ((P e).Gn n) o).E σ M (kMe (e.C 3) "lend" (sem (P e) n 48) (tr ((P e).Gn n) a).A σ Q):=qc6 (d:=qa7) rfl
theorem qfd{v0 v1 v2 v3 v4 v5 v6:RV}:mO (e.C 3) "lead" sp t σ Q x M (some (qae e v0 v1 v2 v3 v4 v5 v6))=t σ M fun rs M2=>sp (.ref x::rs) M2 Q:=by rw[qae,qaz];exact qam rfl rfl
theorem qgB:(tr ((P e).Gn n) (.me 49 o a)).E σ M Q=(tr ((P e).Gn n) o).E σ M (kMe (e.C 3) "lead" (sem (P e) n 49) (tr ((P e).Gn n) a).A σ Q):=qc6 (d:=qa8) rfl
theorem qeA{v0 v1 v2 v3 v4 v5 v6:RV}:mO (e.C 3) "begin" sp t σ Q x M (some (qae e v0 v1 v2 v3 v4 v5 v6))=t σ M fun rs M2=>sp (.ref x::rs) M2 Q:=by rw[qae,qaz];exact qam rfl rfl
theorem qfL:(tr ((P e).Gn n) (.me 59 o a)).E σ M Q=(tr ((P e).Gn n) o).E σ M (kMe (e.C 3) "begin" (sem (P e) n 59) (tr ((P e).Gn n) a).A σ Q):=qc6 (d:=qaF) rfl
theorem qcL{v0 v1 v2 v3 v4 v5 v6:RV}:mO (e.C 3) "of_outer" sp t σ Q x M (some (qae e v0 v1 v2 v3 v4 v5 v6))=t σ M fun rs M2=>sp (.ref x::rs) M2 Q:=by rw[qae,qaz];exact qam rfl rfl
theorem qdD:(tr ((P e).Gn n) (.me 65 o a)).E σ M Q=(tr ((P e).Gn n) o).E σ M (kMe (e.C 3) "of_outer" (sem (P e) n 65) (tr ((P e).Gn n) a).A σ Q):=qc6 (d:=qas) rfl
theorem qiS{v0 v1 v2 v3 v4:RV}:fO (e.C 4) "form" Q M (some (qag e v0 v1 v2 v3 v4))=Q v0 M:=by rw[qag,qaK];rfl
theorem qhq{v0 v1 v2 v3 v4:RV}:fO (e.C 4) "table" Q M (some (qag e v0 v1 v2 v3 v4))=Q v1 M:=by rw[qag,qaK];rfl
theorem qiT{v0 v1 v2 v3 v4:RV}:fO (e.C 4) "done" Q M (some (qag e v0 v1 v2 v3 v4))=Q v3 M:=by rw[qag,qaK];rfl
theorem qiR{v0 v1 v2 v3 v4:RV}:fO (e.C 4) "wish" Q M (some (qag e v0 v1 v2 v3 v4))=Q v4 M:=by rw[qag,qaK];rfl
theorem qmK:sO (e.C 4) "form" y N x M (some (.ins (e.C 4) []))=N (put M x (.ins (e.C 4) [("form",y)])):=by rw[qay];exact qam (Nat.le_of_ble_eq_true rfl) rfl
theorem qmJ{v0:RV}:sO (e.C 4) "table" y N x M (some (.ins (e.C 4) [("form",v0)]))=N (put M x (.ins (e.C 4) [("form",v0),("table",y)])):=by rw[qay];exact qam (Nat.le_of_ble_eq_true rfl) rfl
theorem qmI{v0 v1:RV}:sO (e.C 4) "strangers" y N x M (some (.ins (e.C 4) [("form",v0),("table",v1)]))=N (put M x (.ins (e.C 4) [("form",v0),("table",v1),("strangers",y)])):=by rw[qay];exact qam (Nat.le_of_ble_eq_true rfl) rfl
theorem qmH{v0 v1 v2:RV}:sO (e.C 4) "done" y N x M (some (.ins (e.C 4) [("form",v0),("table",v1),("strangers",v2)]))=N (put M x (.ins (e.C 4) [("form",v0),("table",v1),("strangers",v2),("done",y)])):=by rw[qay];exact qam (Nat.le_of_ble_eq_true rfl) rfl
theorem qmG{v0 v1 v2 v3:RV}:sO (e.C 4) "wish" y N x M (some (.ins (e.C 4) [("form",v0),("table",v1),("strangers",v2),("done",v3)]))=N (put M x (qag e v0 v1 v2 v3 y)):=by rw[qay];exact qam (Nat.le_of_ble_eq_true rfl) rfl
theorem qun:(tr ((P e).Gn (n+1)) (.mk 35 a)).E σ M Q=(tr ((P e).Gn (n+1)) a).A σ M fun rs M1=>∀ x,M1 x=none->sem (P e) n 35 (.ref x::rs) (put M1 x (.ins (e.C 4) [])) fun v M2=>v= .non/\Q (.ref x) M2:=qse (d:=qbo) rfl
theorem qf6{v0 v1 v2 v3 v4:RV}:mO (e.C 4) "deed" sp t σ Q x M (some (qag e v0 v1 v2 v3 v4))=t σ M fun rs M2=>sp (.ref x::rs) M2 Q:=by rw[qag,qaz];exact qam rfl rfl
theorem qif:(tr ((P e).Gn n) (.me 36 o a)).E σ M Q=(tr ((P e).Gn n) o).E σ M (kMe (e.C 4) "deed" (sem (P e) n 36) (tr ((P e).Gn n) a).A σ Q):=qc6 (d:=qaX) rfl
theorem qf5{v0 v1 v2 v3 v4:RV}:mO (e.C 4) "sent" sp t σ Q x M (some (qag e v0 v1 v2 v3 v4))=t σ M fun rs M2=>sp (.ref x::rs) M2 Q:=by rw[qag,qaz];exact qam rfl rfl
theorem qie:(tr ((P e).Gn n) (.me 37 o a)).E σ M Q=(tr ((P e).Gn n) o).E σ M (kMe (e.C 4) "sent" (sem (P e) n 37) (tr ((P e).Gn n) a).A σ Q):=qc6 (d:=qbn) rfl
theorem qct{v0 v1 v2 v3 v4:RV}:mO (e.C 4) "picked_for" sp t σ Q x M (some (qag e v0 v1 v2 v3 v4))=t σ M fun rs M2=>sp (.ref x::rs) M2 Q:=by rw[qag,qaz];exact qam rfl rfl
theorem qc9:(tr ((P e).Gn n) (.me 38 o a)).E σ M Q=(tr ((P e).Gn n) o).E σ M (kMe (e.C 4) "picked_for" (sem (P e) n 38) (tr ((P e).Gn n) a).A σ Q):=qc6 (d:=qaE) rfl
theorem qdl{v0 v1 v2 v3 v4:RV}:mO (e.C 4) "answered" sp t σ Q x M (some (qag e v0 v1 v2 v3 v4))=t σ M fun rs M2=>sp (.ref x::rs) M2 Q:=by rw[qag,qaz];exact qam rfl rfl
theorem qee:(tr ((P e).Gn n) (.me 50 o a)).E σ M Q=(tr ((P e).Gn n) o).E σ M (kMe (e.C 4) "answered" (sem (P e) n 50) (tr ((P e).Gn n) a).A σ Q):=qc6 (d:=qaw) rfl
theorem qdk{v0 v1 v2 v3 v4:RV}:mO (e.C 4) "lead_out" sp t σ Q x M (some (qag e v0 v1 v2 v3 v4))=t σ M fun rs M2=>sp (.ref x::rs) M2 Q:=by rw[qag,qaz];exact qam rfl rfl
theorem qed:(tr ((P e).Gn n) (.me 51 o a)).E σ M Q=(tr ((P e).Gn n) o).E σ M (kMe (e.C 4) "lead_out" (sem (P e) n 51) (tr ((P e).Gn n) a).A σ Q):=qc6 (d:=qav) rfl
theorem qcO{v0 v1 v2 v3 v4:RV}:mO (e.C 4) "begin_out" sp t σ Q x M (some (qag e v0 v1 v2 v3 v4))=t σ M fun rs M2=>sp (.ref x::rs) M2 Q:=by rw[qag,qaz];exact qam rfl rfl
theorem qdG:(tr ((P e).Gn n) (.me 52 o a)).E σ M Q=(tr ((P e).Gn n) o).E σ M (kMe (e.C 4) "begin_out" (sem (P e) n 52) (tr ((P e).Gn n) a).A σ Q):=qc6 (d:=qaf) rfl
theorem qdQ{v0 v1 v2 v3 v4:RV}:mO (e.C 4) "lead_in" sp t σ Q x M (some (qag e v0 v1 v2 v3 v4))=t σ M fun rs M2=>sp (.ref x::rs) M2 Q:=by rw[qag,qaz];exact qam rfl rfl
theorem qe3:(tr ((P e).Gn n) (.me 53 o a)).E σ M Q=(tr ((P e).Gn n) o).E σ M (kMe (e.C 4) "lead_in" (sem (P e) n 53) (tr ((P e).Gn n) a).A σ Q):=qc6 (d:=qaT) rfl
theorem qb0{v0 v1 v2 v3 v4:RV}:mO (e.C 4) "lets_note_in" sp t σ Q x M (some (qag e v0 v1 v2 v3 v4))=t σ M fun rs M2=>sp (.ref x::rs) M2 Q:=by rw[qag,qaz];exact qam rfl rfl
theorem qco:(tr ((P e).Gn n) (.me 54 o a)).E σ M Q=(tr ((P e).Gn n) o).E σ M (kMe (e.C 4) "lets_note_in" (sem (P e) n 54) (tr ((P e).Gn n) a).A σ Q):=qc6 (d:=qau) rfl
theorem qeC{v0 v1 v2 v3 v4:RV}:mO (e.C 4) "sifted" sp t σ Q x M (some (qag e v0 v1 v2 v3 v4))=t σ M fun rs M2=>sp (.ref x::rs) M2 Q:=by rw[qag,qaz];exact qam rfl rfl
theorem qfN:(tr ((P e).Gn n) (.me 60 o a)).E σ M Q=(tr ((P e).Gn n) o).E σ M (kMe (e.C 4) "sifted" (sem (P e) n 60) (tr ((P e).Gn n) a).A σ Q):=qc6 (d:=qa3) rfl
theorem qdR{v0 v1 v2 v3 v4:RV}:mO (e.C 4) "come_in" sp t σ Q x M (some (qag e v0 v1 v2 v3 v4))=t σ M fun rs M2=>sp (.ref x::rs) M2 Q:=by rw[qag,qaz];exact qam rfl rfl
theorem qe4:(tr ((P e).Gn n) (.me 66 o a)).E σ M Q=(tr ((P e).Gn n) o).E σ M (kMe (e.C 4) "come_in" (sem (P e) n 66) (tr ((P e).Gn n) a).A σ Q):=qc6 (d:=qaU) rfl
theorem qf7{v0 v1 v2 v3 v4:RV}:mO (e.C 4) "come" sp t σ Q x M (some (qag e v0 v1 v2 v3 v4))=t σ M fun rs M2=>sp (.ref x::rs) M2 Q:=by rw[qag,qaz];exact qam rfl rfl
theorem qig:(tr ((P e).Gn n) (.me 67 o a)).E σ M Q=(tr ((P e).Gn n) o).E σ M (kMe (e.C 4) "come" (sem (P e) n 67) (tr ((P e).Gn n) a).A σ Q):=qc6 (d:=qbp) rfl
theorem qhe{v0 v1 v2 v3 v4:RV}:mO (e.C 4) "out" sp t σ Q x M (some (qag e v0 v1 v2 v3 v4))=t σ M fun rs M2=>sp (.ref x::rs) M2 Q:=by rw[qag,qaz];exact qam rfl rfl
theorem qj0:(tr ((P e).Gn n) (.me 68 o a)).E σ M Q=(tr ((P e).Gn n) o).E σ M (kMe (e.C 4) "out" (sem (P e) n 68) (tr ((P e).Gn n) a).A σ Q):=qc6 (d:=qbF) rfl
theorem qiN{v0 v1 v2 v3:RV}:fO (e.C 5) "gate" Q M (some (qbB e v0 v1 v2 v3))=Q v0 M:=by rw[qbB,qaK];rfl
theorem qhm{v0 v1 v2 v3:RV}:fO (e.C 5) "place" Q M (some (qbB e v0 v1 v2 v3))=Q v1 M:=by rw[qbB,qaK];rfl
theorem qiO{v0 v1 v2 v3:RV}:fO (e.C 5) "door" Q M (some (qbB e v0 v1 v2 v3))=Q v2 M:=by rw[qbB,qaK];rfl
theorem qhn{v0 v1 v2 v3:RV}:fO (e.C 5) "known" Q M (some (qbB e v0 v1 v2 v3))=Q v3 M:=by rw[qbB,qaK];rfl
theorem qmA:sO (e.C 5) "gate" y N x M (some (.ins (e.C 5) []))=N (put M x (.ins (e.C 5) [("gate",y)])):=by rw[qay];exact qam (Nat.le_of_ble_eq_true rfl) rfl
theorem qmz{v0:RV}:sO (e.C 5) "place" y N x M (some (.ins (e.C 5) [("gate",v0)]))=N (put M x (.ins (e.C 5) [("gate",v0),("place",y)])):=by rw[qay];exact qam (Nat.le_of_ble_eq_true rfl) rfl
theorem qmy{v0 v1:RV}:sO (e.C 5) "door" y N x M (some (.ins (e.C 5) [("gate",v0),("place",v1)]))=N (put M x (.ins (e.C 5) [("gate",v0),("place",v1),("door",y)])):=by rw[qay];exact qam (Nat.le_of_ble_eq_true rfl) rfl
theorem qmx{v0 v1 v2:RV}:sO (e.C 5) "known" y N x M (some (.ins (e.C 5) [("gate",v0),("place",v1),("door",v2)]))=N (put M x (qbB e v0 v1 v2 y)):=by rw[qay];exact qam (Nat.le_of_ble_eq_true rfl) rfl
theorem qff{v0 v1 v2 v3:RV}:mO (e.C 5) "write" sp t σ Q x M (some (qbB e v0 v1 v2 v3))=t σ M fun rs M2=>sp (.ref x::rs) M2 Q:=by rw[qbB,qaz];exact qam rfl rfl
theorem qgD:(tr ((P e).Gn n) (.me 55 o a)).E σ M Q=(tr ((P e).Gn n) o).E σ M (kMe (e.C 5) "write" (sem (P e) n 55) (tr ((P e).Gn n) a).A σ Q):=qc6 (d:=qaO) rfl
theorem qul:(tr ((P e).Gn (n+1)) (.mk 61 a)).E σ M Q=(tr ((P e).Gn (n+1)) a).A σ M fun rs M1=>∀ x,M1 x=none->sem (P e) n 61 (.ref x::rs) (put M1 x (.ins (e.C 5) [])) fun v M2=>v= .non/\Q (.ref x) M2:=qse (d:=qbk) rfl
theorem qdX:(tr ((P e).Gn n) (.g "GREATEST_HOUSE")).E σ M Q=Q (.int 99) M:=t_g rfl
theorem qeQ:(tr ((P e).Gn n) (.g "GREATEST_DOOR")).E σ M Q=Q (.int 9999) M:=t_g rfl
theorem qdW:(tr ((P e).Gn n) (.g "GREATEST_PLACE")).E σ M Q=Q (.int 1000000) M:=t_g rfl
theorem qhK:(tr ((P e).Gn n) (.g "MOST_SIGNS")).E σ M Q=Q (.int 40) M:=t_g rfl
theorem qgf:(tr ((P e).Gn n) (.g "WIDEST_STEP")).E σ M Q=Q (.int 199) M:=t_g rfl
theorem qeP:(tr ((P e).Gn n) (.g "GREATEST_MOST")).E σ M Q=Q (.int 200) M:=t_g rfl
theorem qeO:(tr ((P e).Gn n) (.g "GREATEST_TIME")).E σ M Q=Q (.int 1000000) M:=t_g rfl
theorem qgh:(tr ((P e).Gn n) (.g "FIRST_PLACE")).E σ M Q=Q (.int 1) M:=t_g rfl
theorem qfj:(tr ((P e).Gn n) (.g "SECOND_PLACE")).E σ M Q=Q (.int 2) M:=t_g rfl
theorem qfk:(tr ((P e).Gn n) (.g "HELPER_PLACE")).E σ M Q=Q (.int 3) M:=t_g rfl
theorem qgg:(tr ((P e).Gn n) (.g "HELPER_DOOR")).E σ M Q=Q (.int 1) M:=t_g rfl
theorem qrD:(tr ((P e).Gn n) (.g "HOUSE")).E σ M Q=Q (.int 0) M:=t_g rfl
theorem qhJ:(tr ((P e).Gn n) (.g "MOST_STEPS")).E σ M Q=Q (.int 100) M:=t_g rfl
theorem qrY{neg:Bool}:(tr ((P e).Gn n) (.ic neg a "KINDS")).E σ M Q=(tr ((P e).Gn n) a).E σ M fun x M1=>okR 15 x=true/\Q (.bl (if neg then !inR x ((["note","line"]:LSt).map RV.str)else inR x ((["note","line"]:LSt).map RV.str))) M1:=qsf rfl
theorem qhZ{neg:Bool}:(tr ((P e).Gn n) (.ic neg a "NOTE_WORDS")).E σ M Q=(tr ((P e).Gn n) a).E σ M fun x M1=>okR 15 x=true/\Q (.bl (if neg then !inR x ((["say"]:LSt).map RV.str)else inR x ((["say"]:LSt).map RV.str))) M1:=qsf rfl
theorem qkU{neg:Bool}:(tr ((P e).Gn n) (.ic neg a "LENDINGS")).E σ M Q=(tr ((P e).Gn n) a).E σ M fun x M1=>okR 15 x=true/\Q (.bl (if neg then !inR x ((["door","place","talk"]:LSt).map RV.str)else inR x ((["door","place","talk"]:LSt).map RV.str))) M1:=qsf rfl
theorem qo1{neg:Bool}:(tr ((P e).Gn n) (.ic neg a "SIEVES")).E σ M Q=(tr ((P e).Gn n) a).E σ M fun x M1=>okR 15 x=true/\Q (.bl (if neg then !inR x ((["all","place","talk"]:LSt).map RV.str)else inR x ((["all","place","talk"]:LSt).map RV.str))) M1:=qsf rfl
theorem qrX{neg:Bool}:(tr ((P e).Gn n) (.ic neg a "PICKS")).E σ M Q=(tr ((P e).Gn n) a).E σ M fun x M1=>okR 15 x=true/\Q (.bl (if neg then !inR x ((["next","keep"]:LSt).map RV.str)else inR x ((["next","keep"]:LSt).map RV.str))) M1:=qsf rfl
theorem qnc{neg:Bool}:(tr ((P e).Gn n) (.ic neg a "WRITERS")).E σ M Q=(tr ((P e).Gn n) a).E σ M fun x M1=>okR 15 x=true/\Q (.bl (if neg then !inR x ((["one","other"]:LSt).map RV.str)else inR x ((["one","other"]:LSt).map RV.str))) M1:=qsf rfl
theorem qmL{QI:LR->(RM->Prop)->(RM->RM)->RM->Prop}:(tr ((P e).Gn n) (.ig "WRITERS")).I σ M QI=QI ((["one","other"]:LSt).map RV.str) okT id M:=qDR rfl
end
set_option hygiene false in
local macro_rules | `(tactic| walk_at "ev") => `(tactic| simp -implicitDefEqProofs only [↓qoD, ↓t_v, ↓t_i, ↓t_s, ↓t_b, ↓t_n, ↓qB4, ↓qCd, ↓qCv, ↓qfi, ↓qCw, ↓qut, ↓T_v, ↓qEs, ↓qEt, ↓qEp, ↓qEu, ↓qEr, ↓qEq, ↓qEm, ↓qEv, ↓qEn, ↓qEo, ↓qcS, ↓qpA, ↓qCB, ↓qCc, ↓qur, ↓qCe, ↓qCj, ↓qB6, ↓qCh, ↓qCg, ↓qCm, ↓qCl, ↓qCi, ↓qB8, ↓qCb, ↓quq, ↓qCa, ↓qCk, ↓qCx, ↓qCz, ↓qCy, ↓qCr, ↓qCp, ↓qCs, ↓qCq, ↓qCo, ↓qvl, ↓qC4, ↓qqt, ↓qCY, ↓qC1, ↓qC3, ↓qCX, ↓qC5, ↓qrg, ↓qCV, ↓qoo, ↓qxg, ↓qD6, ↓qD7, ↓qD9, ↓qEa, ↓qD8, ↓qrW, ↓qyc, ↓qyb, ↓qx8, ↓qx7, List.getElem?_cons_zero, List.getElem?_cons_succ, ↓qwz, ↓qwx, ↓qwy, ↓qwI, ↓qwH, ↓qDV, ↓g_C, ↓qDU, ↓qxP, ↓qia, ↓qrm, ↓qri, ↓qrk, ↓qnI, ↓qqg, ↓qgy, ↓qrB, ↓qwV, ↓qwU, ↓qxQ, ↓qxK, ↓qx1, ↓qrN, ↓qw8, ↓qCA, ↓qrn, ↓qve, ↓xi_tup, ↓qsp, ↓qso, ↓qsq, ↓quT, ↓qx4, ↓qcl, ↓qC0, ↓qrj, ↓qCW, ↓qC2, ↓qDP, ↓qxD, ↓quo, ↓qDN, ↓qwM, ↓qDQ, ↓qCu, ↓qAy, ↓qu8, ↓qu9, ↓qr6, ↓qu6, ↓qu5, ↓qr3, ↓qr4, ↓qr5, ↓qCZ, ↓qDM, ↓qrx, ↓qrv, ↓qry, ↓qrw, ↓qru, ↓quX, ↓qyh, ↓qyg, ↓qyf, ↓qBc, ↓qEj, ↓qBb, ↓qBa, ↓qEi, ↓qB5, ↓qsN, ↓qB7, ↓qrh, ↓qCt, ↓qi5, ↓qCf, ↓qrl, ↓qC6, ↓qt4, ↓ql1, ↓qxj, ↓qxk, ↓qxh, ↓qxi, ↓qqp, ↓que, ↓qxG, ↓qxF, ↓reduceIte, ↓qB9, ↓qup, ↓qCn, ↓qr0, ↓qDO, true_and, and_true, Bool.not_true, Bool.not_false, waD, Bool.true_and, wbb, Bool.and_true, Bool.true_or, Bool.false_or, List.set_cons_zero, List.set_cons_succ, qfp, wah, List.length_nil, wae, wa4, List.cons_append, waI, Option.join_some, Option.isSome_some, Option.isSome_none, qad, qbi, Nat.reduceAdd, Nat.zero_add, Int.reduceBEq, beq_self_eq_true, Int.reduceLE, Int.reduceLT, decide_true, decide_false, z_0, qBG, qD5, z_1, z_2, qBF, qD4, z_3, z_4, qD3, z_5, qD2, z_7, qD1, z_8, qD0, ↓qkG, ↓qkF, ↓qrf, ↓qks, ↓qiQ, ↓qiP, ↓qh9, ↓qhp, ↓qho, ↓qmF, ↓qmE, ↓qmD, ↓qmC, ↓qmB, ↓qbr, ↓qdF, ↓qhd, ↓qjZ, ↓qcN, ↓qid, ↓qum, ↓qdP, ↓qe2, ↓qeB, ↓qfM, ↓qhl, ↓qf9, ↓qhk, ↓qgv, ↓qh8, ↓qmw, ↓qmv, ↓qmu, ↓qmt, ↓quk, ↓qhj, ↓qhi, ↓qiM, ↓qdT, ↓qdm, ↓qeH, ↓qeG, ↓qkE, ↓qkD, ↓qkC, ↓qkB, ↓qkA, ↓qkz, ↓qky, ↓qre, ↓qcM, ↓qdE, ↓qcr, ↓qc7, ↓qcs, ↓qc8, ↓qfe, ↓qgC, ↓qdj, ↓qec, ↓qfc, ↓qgA, ↓qfd, ↓qgB, ↓qeA, ↓qfL, ↓qcL, ↓qdD, ↓qiS, ↓qhq, ↓qiT, ↓qiR, ↓qmK, ↓qmJ, ↓qmI, ↓qmH, ↓qmG, ↓qun, ↓qf6, ↓qif, ↓qf5, ↓qie, ↓qct, ↓qc9, ↓qdl, ↓qee, ↓qdk, ↓qed, ↓qcO, ↓qdG, ↓qdQ, ↓qe3, ↓qb0, ↓qco, ↓qeC, ↓qfN, ↓qdR, ↓qe4, ↓qf7, ↓qig, ↓qhe, ↓qj0, ↓qiN, ↓qhm, ↓qiO, ↓qhn, ↓qmA, ↓qmz, ↓qmy, ↓qmx, ↓qff, ↓qgD, ↓qul, ↓qdX, ↓qeQ, ↓qdW, ↓qhK, ↓qgf, ↓qeP, ↓qeO, ↓qgh, ↓qfj, ↓qfk, ↓qgg, ↓qrD, ↓qhJ, ↓qrY, ↓qhZ, ↓qkU, ↓qo1, ↓qrX, ↓qnc, ↓qmL])
local macro_rules | `(tactic| walk_at "evs") => do
 let some s<-Lean.Macro.expandMacro? (<-`(tactic|walk_at "ev"))|Lean.Macro.throwUnsupported
 match s with
 | `(tactic|simp -implicitDefEqProofs only[$ls,*])=>`(tactic|simp -implicitDefEqProofs only[*,qac,ne_eq,not_false_eq_true,$ls,*])
 |_=>Lean.Macro.throwUnsupported
section
variable {e:Env}{n:Nat}{M:RM}{Q:RVK}
theorem qkL{i:Int}:sem (P e) (n+1) 0 [.int i] M Q=Q (.bl true) M:=by
 rw[us (i:=0) (d:=qcd) rfl];simp only[qcd];walk_at "ev"
theorem qaq{i j k:Int}:sem (P e) (n+2) 43 [.int i,.int j,.int k] M Q=Q (.bl (decide (j<=i)&&decide (i<=k))) M:=by
 rw[us (i:=43) (d:=qaQ) rfl];simp only[qaQ];walk_at "ev";simp only[↓qkL];walk_at "ev";simp only[qvb]
theorem qkO{i:Int}:sem (P e) (n+3) 1 [.int i] M Q=Q (.bl (decide (0<=i)&&decide (i<=99))) M:=by
 rw[us (i:=1) (d:=qch) rfl];simp only[qch];walk_at "ev";rw[qaq]
theorem qbG{i:Int}:sem (P e) (n+3) 2 [.int i] M Q=Q (.bl (decide (1<=i)&&decide (i<=9999))) M:=by
 rw[us (i:=2) (d:=qc3) rfl];simp only[qc3];walk_at "ev";rw[qaq]
theorem qkM{i:Int}:sem (P e) (n+3) 3 [.int i] M Q=Q (.bl (decide (0<=i)&&decide (i<=1000000))) M:=by
 rw[us (i:=3) (d:=qcg) rfl];simp only[qcg];walk_at "ev";rw[qaq]
theorem qkN{i:Int}:sem (P e) (n+3) 4 [.int i] M Q=Q (.bl (decide (1<=i)&&decide (i<=1000000))) M:=by
 rw[us (i:=4) (d:=qaV) rfl];simp only[qaV];walk_at "ev";rw[qaq]
theorem qkx:inR (.str "note") [.str "note",.str "line"]=true:=by decide+kernel
theorem qkY:inR (.str "say") [.str "say"]=true:=by decide+kernel
theorem qjx{k:Nat}{x:Str}:(okR k (.str x)=true)=True:=by cases k<;>exact eq_true rfl
theorem qfl:sem (P e) (n+1) 6 [.str "note"] M Q=Q (.bl true) M:=by
 rw[us (i:=6) (d:=qc1) rfl];simp only[qc1];walk_at "ev";rw[qkx,qjx,true_and]
theorem qgn:sem (P e) (n+1) 23 [.str "note",.str "say"] M Q=Q (.bl true) M:=by
 rw[us (i:=23) (d:=qcX) rfl];simp only[qcX];walk_at "ev";rw[qkY,qjx,true_and]
theorem qat{M:RM}:okT M:=trivial
theorem qxV:Str.length "" =0:=by decide+kernel
theorem qrH:qcD "" = []:=by decide+kernel
theorem qiy(h:Q (.bl true) M):sem (P e) (n+2) 8 [.str ""] M Q:=by
 rw[us (i:=8) (d:=qcY) rfl];simp only[qcY];walk_at "ev";rw[qxV,qrH];walk_at "ev";refine(qbd (bd:=qjP false 1) (fun _=>true) (fun _=>.bl true) qat _ _ (fun x hx=>by cases hx) ?_)
 exact(qjO (bs:=[])).mpr h
theorem qeq(h:Q (.bl true) M):sem (P e) (n+3) 44 [.str "note",.str "say",.str ""] M Q:=by
 rw[us (i:=44) (d:=qbL) rfl];simp only[qbL];walk_at "ev";rw[qfl,qcS,if_pos rfl,qgn,qcS,if_pos rfl];exact qiy h
theorem qbw{a b c d:Int}(h1:a<=b)(h2:c<=d):(decide (a<=b)&&decide (c<=d))=true:=by simp[h1,h2]
theorem qnZ{a b c d:Int}(ha:0<=a/\a<=99)(hb:1<=b/\b<=9999)(hc:0<=c/\c<=1000000)(hd:1<=d/\d<=9999)(h:Q (.bl true) M):sem (P e) (n+4) 9 [.tup [.str "note",.int a,.int b,.int c,.int d,.str "say",.str ""]] M Q:=by
 rw[us (i:=9) (d:=qc0) rfl];simp only[qc0];walk_at "ev";simp only[↓qkO,↓qbG,↓qkM,↓qcS,qbw ha.1 ha.2,qbw hb.1 hb.2,qbw hc.1 hc.2,qbw hd.1 hd.2,↓reduceIte];exact qeq h
theorem qhO{x:Str}{r:LR}:sem (P e) (n+1) 11 [.tup (.str x::r)] M Q=Q (.str x) M:=by
 rw[us (i:=11) (d:=qcV) rfl];simp only[qcV];walk_at "ev";simp only[qua,waD,↓reduceIte]
structure Tb(e:Env):Prop where
 out:∃ a,qbC (e.tb "DEEDS") (.inr "out")=some (.ref a)/\(a,9)∈e.cv
 come:∃ a,qbC (e.tb "DEEDS") (.inr "come")=some (.ref a)/\(a,10)∈e.cv
 time:qbC (e.tb "TIME_AT") (.inr "note")=some (.int 0)
theorem qlE(tb:Tb e){a b c d:Int}(ha:0<=a/\a<=99)(hb:1<=b/\b<=9999)(hc:0<=c/\c<=1000000)(hd:1<=d/\d<=9999)(h:Q (.bl true) M):sem (P e) (n+5) 12 [.tup [.str "out",.str "note",.int a,.int b,.int c,.int d,.str "say",.str ""]] M Q:=by
 rw[us (i:=12) (d:=qbD) rfl];simp only[qbD];walk_at "ev";rw[qhO];walk_at "ev";obtain⟨f,h1,h2⟩:=tb.out;rw[h1,qia,qi5,if_neg (by simp)]
 refine⟨_,wan.mpr ⟨_,h2,rfl⟩,?_⟩;walk_at "ev";rw[qvC];exact qnZ ha hb hc hd h
theorem qlF{a b c:Int}(ha:1<=a/\a<=1000000)(hb:1<=b/\b<=9999)(hc:1<=c/\c<=9999)(h:Q (.bl true) M):sem (P e) (n+4) 10 [.tup [.str "note",.int a,.int b,.int c,.str "say",.str ""]] M Q:=by
 rw[us (i:=10) (d:=qb2) rfl];simp only[qb2];walk_at "ev";simp only[↓qkN,↓qbG,↓qcS,qbw ha.1 ha.2,qbw hb.1 hb.2,qbw hc.1 hc.2,↓reduceIte];exact qeq h
theorem qiz(tb:Tb e){a b c:Int}(ha:1<=a/\a<=1000000)(hb:1<=b/\b<=9999)(hc:1<=c/\c<=9999)(h:Q (.bl true) M):sem (P e) (n+5) 12 [.tup [.str "come",.str "note",.int a,.int b,.int c,.str "say",.str ""]] M Q:=by
 rw[us (i:=12) (d:=qbD) rfl];simp only[qbD];walk_at "ev";rw[qhO];walk_at "ev";obtain⟨f,h1,h2⟩:=tb.come;rw[h1,qia,qi5,if_neg (by simp)]
 refine⟨_,wan.mpr ⟨_,h2,rfl⟩,?_⟩;walk_at "ev";rw[qvC];exact qlF ha hb hc h
theorem qcz(tb:Tb e){l h le si pi mo re t0 t1 t2 t3:RV}:sem (P e) (n+1) 26 [.tup [l,h,le,si,pi,mo,re,.tup [t0,t1,t2,t3]],.str "note"] M Q=Q t0 M:=by
 rw[us (i:=26) (d:=qcU) rfl];simp only[qcU];walk_at "ev";rw[tb.time];walk_at "ev"
theorem qhN{s:RV}(h:s= .non∨s= .str "note"):sem (P e) (n+1) 27 [s,.str "say"] M Q=Q (.str "note") M:=by
 rcases h with rfl|rfl<;>(rw[us (i:=27) (d:=qbt) rfl];simp only[qbt];walk_at "ev")
theorem qb4{s sd:RV}(h:s= .non∨s= .str "note"):sem (P e) (n+2) 57 [.str "note",s,sd,.str "say"] M Q=Q (.str "note") M:=by
 rw[us (i:=57) (d:=qbu) rfl];simp only[qbu];walk_at "ev";rw[qhN h]
theorem qoO{lend:Str}{l h si pi mo re ti ki ho do_ pl fa:RV}:sem (P e) (n+1) 25 [.tup [l,h,.str lend,si,pi,mo,re,ti],.tup [ki,ho,do_,pl,fa]] M Q=
 Q (if lend= "door" then .tup [ki,ho,do_,.non,.non]else if lend= "place" then .tup [ki,ho,do_,pl,.non]else .tup [ki,ho,do_,pl,fa]) M:=by
 rw[us (i:=25) (d:=qbM) rfl];simp only[qbM];walk_at "ev";simp only[beq_iff_eq]
 by_cases h1:lend= "door"
 · rw[if_pos h1,if_pos h1]
 · rw[if_neg h1,if_neg h1]
   by_cases h2:lend= "place"
   · rw[if_pos h2,if_pos h2]
   · rw[if_neg h2,if_neg h2]
theorem qmU{l h:Int}(h1:1<=l)(h2:l<=h)(h3:h<=9999)(h4:h<=l+199):sem (P e) (n+4) 24 [.int l,.int h] M Q=Q (.bl true) M:=by
 rw[us (i:=24) (d:=qcZ) rfl];simp only[qcZ];walk_at "ev";rw[qbG,qbw h1 (by omega),qcS,if_pos rfl,qbG,qbw (by omega) h3,qcS,if_pos rfl]
 rw[decide_eq_true h2,decide_eq_true h4];rfl
theorem qkh{a b c d:Int}(ha:1<=a/\a<=1000000)(hb:1<=b/\b<=1000000)(hc:1<=c/\c<=1000000)(hd:0<=d/\d<=1000000)(h:Q (.bl true) M):sem (P e) (n+3) 13 [.tup [.int a,.int b,.int c,.int d]] M Q:=by
 rw[us (i:=13) (d:=qce) rfl];simp only[qce];walk_at "ev";rw[show qgu [RV.int a,RV.int b,RV.int c,RV.int d] none (some 3)= [RV.int a,RV.int b,RV.int c]from rfl]
 refine⟨(by decide:3<sizeLine),qbd (bd:=qjP false 1) (fun _=>true) (fun _=>.bl true) qat _ _ (fun x hx=>⟨[x],rfl,fun K h=>h,fun _ K h=>?_⟩) ?_⟩
 · have:∃ i:Int,x= .int i/\1<=i/\i<=1000000:=by
    simp only[waf,wax,or_false]at hx;rcases hx with rfl|rfl|rfl
    · exact⟨a,rfl,ha⟩
    · exact⟨b,rfl,hb⟩
    · exact⟨c,rfl,hc⟩
   obtain⟨i,rfl,h1,h2⟩:=this;walk_at "ev";rw[qaq,qbw h1 h2];exact h
 · refine(qjO (bs:=[true,true,true])).mpr ?_
   show kAn _ Q (.bl true) M;rw[qcS,if_pos rfl,qaq,qbw hd.1 hd.2];exact h
theorem qrd{x:Str}(h:x= "door"∨x= "place"∨x= "talk"):inR (.str x) [.str "door",.str "place",.str "talk"]=true:=by rcases h with rfl|rfl|rfl<;>decide+kernel
theorem qnN{x:Str}(h:x= "all"∨x= "place"∨x= "talk"):inR (.str x) [.str "all",.str "place",.str "talk"]=true:=by rcases h with rfl|rfl|rfl<;>decide+kernel
theorem qqS{x:Str}(h:x= "next"∨x= "keep"):inR (.str x) [.str "next",.str "keep"]=true:=by rcases h with rfl|rfl<;>decide+kernel
structure Fm where
 low:Int
 high:Int
 lend:Str
 sieve:Str
 pick:Str
 most:Int
 renew:Bool
 t0:Int
 t1:Int
 t2:Int
 t3:Int
def Fm.times(f:Fm):RV:=.tup [.int f.t0,.int f.t1,.int f.t2,.int f.t3]
def Fm.r(f:Fm):RV:=.tup [.int f.low,.int f.high,.str f.lend,.str f.sieve,.str f.pick,.int f.most,.bl f.renew,f.times]
structure Fm.Ok(f:Fm):Prop where
 lo:1<=f.low
 le:f.low<=f.high
 hi:f.high<=9999
 wide:f.high<=f.low+199
 lend:f.lend= "door"∨f.lend= "place"∨f.lend= "talk"
 sieve:f.sieve= "all"∨f.sieve= "place"∨f.sieve= "talk"
 pick:f.pick= "next"∨f.pick= "keep"
 most:1<=f.most/\f.most<=200
 t0:1<=f.t0/\f.t0<=1000000
 t1:1<=f.t1/\f.t1<=1000000
 t2:1<=f.t2/\f.t2<=1000000
 t3:0<=f.t3/\f.t3<=1000000
theorem qer{f:Fm}(ok:f.Ok)(h:Q (.bl true) M):sem (P e) (n+5) 14 [f.r] M Q:=by
 unfold Fm.r;rw[us (i:=14) (d:=qc2) rfl];simp only[qc2];walk_at "ev";simp only[qrd ok.lend,qnN ok.sieve,qqS ok.pick,qjx,↓reduceIte,Bool.not_true,waD,true_and];rw[qaq,qbw ok.most.1 ok.most.2];walk_at "ev";rw[qmU ok.lo ok.le ok.hi ok.wide,qcS,if_pos rfl];exact qkh ok.t0 ok.t1 ok.t2 ok.t3 h
end
section
variable {κ κ' β:Type}[DecidableEq κ][DecidableEq κ']{g:κ->κ'}{v:β->RV}
def enc(g:κ->κ')(v:β->RV)(l:List (κ×β)):List (κ'×RV):=l.map fun x=>(g x.1,v x.2)
theorem qeE(hg:∀ a b,g a=g b->a=b){k:κ}:∀ {l:List (κ×β)},lk (enc g v l) (g k)=(lk l k).map v
 | []=>rfl
 |(j,x)::r=>by
  show lk ((g j,v x)::enc g v r) (g k)=_;rw[qaB,qaB]
  by_cases h:j=k
  · rw[if_pos h,if_pos (by rw[h])];rfl
  · rw[if_neg h,if_neg (fun z=>h (hg _ _ z))];exact qeE hg
theorem qev(hg:∀ a b,g a=g b->a=b){k:κ}{y:β}{l:List (κ×β)}:pt (enc g v l) (g k) (v y)=enc g v (pt l k y):=by
 have e1:((enc g v l).any fun kv=>decide (kv.1=g k))=(l.any fun kv=>decide (kv.1=k)):=by
  unfold enc;rw[List.any_map];congr 1;funext x;exact decide_eq_decide.mpr ⟨fun z=>hg _ _ z,fun z=>by show g x.1=g k;rw[z]⟩
 unfold pt;rw[e1];split
 · unfold enc
   rw[was,was];refine waE fun x _=>?_
   show(if g x.1=g k then(g x.1,v y)else(g x.1,v x.2))=(g (if x.1=k then(x.1,y)else x).1,v (if x.1=k then(x.1,y)else x).2)
   by_cases h:x.1=k
   · rw[if_pos h,if_pos (by rw[h])]
   · rw[if_neg h,if_neg (fun z=>h (hg _ _ z))]
 · unfold enc;rw[wao];rfl
theorem qb3{l:List (κ×β)}:(enc g v l).length=l.length:=by simp[enc]
theorem qdw{l:List (κ×β)}{k:κ}{y:β}(h:lk l k=none):pt l k y=l++ [(k,y)]:=by
 unfold pt;rw[if_neg];intro z;obtain⟨x,hx,e⟩:=List.any_eq_true.mp z;unfold lk at h;rw[Option.map_eq_none_iff,List.find?_eq_none]at h;exact h x hx e
theorem qcx(a b:Int)(h:(Sum.inl a:Key)= .inl b):a=b:=Sum.inl.inj h
theorem qfB(a b:TK)(h:id a=id b):a=b:=h
end
section
variable {e:Env}{n:Nat}{M:RM}{Q:RVK}
structure PoolS where
 low:Int
 high:Int
 mark:Int
 taken:List (Int×Unit)
 untl:List (Int×Int)
def eT(l:List (Int×Unit)):LKR:=enc Sum.inl (fun _=>.bl true) l
def eU(l:List (Int×Int)):LKR:=enc Sum.inl RV.int l
structure qb8(e:Env)(M:RM)(a ta un:Addr)(p:PoolS):Prop where
 o:M a=some (qak e (.int p.low) (.int p.high) (.int p.mark) (.ref ta) (.ref un))
 t:M ta=some (.dk (eT p.taken))
 u:M un=some (.dk (eU p.untl))
def PoolS.has(p:PoolS)(i:Int):Bool:=decide (p.low<=i)&&decide (i<=p.high)
def PoolS.free(p:PoolS)(i m:Int):Bool:=p.has i&& !(lk p.taken i).isSome&&(match lk p.untl i with|none=>true|some u=>decide (u<=m))
theorem qxu{l:List (Int×Unit)}{i:Int}:(lk (eT l) (.inl i)).isSome=(lk l i).isSome:=by
 unfold eT;rw[qeE qcx];simp
theorem qt7{l:List (Int×Int)}{i:Int}:lk (eU l) (.inl i)=(lk l i).map RV.int:=qeE qcx
theorem quK{a:Addr}{l h i:Int}{mk ta un:RV}(o:M a=some (qak e (.int l) (.int h) mk ta un)):sem (P e) (n+1) 28 [.ref a,.int i] M Q=Q (.bl (decide (l<=i)&&decide (i<=h))) M:=by
 rw[us (i:=28) (d:=qbE) rfl];simp only[qbE];walk_at "ev";rw[o];walk_at "ev";rw[o];walk_at "ev";exact qvb
theorem qhP{a ta un:Addr}{p:PoolS}{i m:Int}(h:qb8 e M a ta un p):sem (P e) (n+2) 46 [.ref a,.int i,.int m] M Q=Q (.bl (p.free i m)) M:=by
 obtain⟨ho,ht,hu⟩:=h;rw[us (i:=46) (d:=qaS) rfl];simp only[qaS];walk_at "evs";rw[quK ho];walk_at "evs";rw[qxu,qt7];unfold PoolS.free PoolS.has;cases(decide (p.low<=i)&&decide (i<=p.high))<;>cases(lk p.taken i).isSome<;>cases lk p.untl i<;>simp[wO,qpA,cmR]<;>rfl
def PoolS.line(p:PoolS):List Int:=(List.range (p.high+1-p.mark).toNat).map (fun(i:Nat)=>p.mark+(i:Int))++(List.range (p.mark-p.low).toNat).map fun(i:Nat)=>p.low+(i:Int)
structure PoolS.Ok(p:PoolS):Prop where
 lo:1<=p.low
 mlo:p.low<=p.mark
 mhi:p.mark<=p.high
 hi:p.high<=9999
 wide:p.high<=p.low+199
theorem qjz{a:Int}{k:Nat}:qd6 a k=((List.range k).map fun(i:Nat)=>a+(i:Int)).map RV.int:=by unfold qd6;rw[was];rfl
theorem qow(p:PoolS)(ok:p.Ok):p.line.length<=200:=by
 obtain⟨o1,o2,o3,o4,o5⟩:=ok;unfold PoolS.line;simp;omega
theorem qjc{a ta un:Addr}{p:PoolS}(ok:p.Ok)(h:qb8 e M a ta un p)(hq:Q (.ls (p.line.map RV.int)) M):sem (P e) (n+1) 16 [.ref a] M Q:=by
 have hl:=qow p ok;obtain⟨ho,ht,hu⟩:=h;obtain⟨o1,o2,o3,o4,o5⟩:=ok;rw[us (i:=16) (d:=qaJ) rfl];simp only[qaJ];walk_at "evs";rw[qjz,qjz,<-wao];refine⟨by omega,by omega,by omega,by omega,?_,hq⟩
 unfold PoolS.line at hl;simp only[wab,wad]at hl ⊢;exact waw hl (by decide)
def PoolS.pick(p:PoolS)(keep:Bool)(door m:Int):Option Int:=if(keep&&p.free door m)=true then some door else p.line.find? fun i=>p.free i m
def qq0:Option Int->RV
 |some i=>.int i
 |none=>.non
theorem qnY{a ta un:Addr}{p:PoolS}{pick:Str}{d m:Int}(ok:p.Ok)(h:qb8 e M a ta un p)(hq:Q (qq0 (p.pick (pick== "keep") d m)) M):sem (P e) (n+3) 58 [.ref a,.str pick,.int d,.int m] M Q:=by
 obtain⟨ho,ht,hu⟩:=id h;have rest:∀ (xs:List Int) (z:Option RV),Q (qq0 (xs.find? fun i=>p.free i m)) M->qeu (rgN 4) (tr ((P e).Gn (n+2)) (.se (.if_ (.me 46 (.v 0) (.ec (.v 4) (.ec (.v 3) .e0))) (.se (.re (.v 4)) .en) .en) .en)).S
  { nx:=(tr ((P e).Gn (n+2)) (.se (.re .n) .en)).S (rd Q),rt:=Q,bk:=(rd Q).bk,ct:=(rd Q).ct } okT id (xs.map RV.int) [some (.ref a),some (.str pick),some (.int d),some (.int m),z] M:=by
  intro xs
  induction xs with
  |nil=>intro z hq;refine⟨qat,?_⟩;show Q .non M;exact hq
  |cons x xs ih=>
   intro z hq;refine⟨qat,?_⟩;unfold rgN;walk_at "evs";rw[qhP h,qfi];rw[List.find?_cons]at hq;cases e1:p.free x m with
   |true=>rw[e1]at hq;rw[if_pos rfl];first|exact hq|exact And.intro qat hq
   |false=>rw[e1]at hq;rw[if_neg (by simp)];exact ih _ hq
 have tail:Q (qq0 (p.line.find? fun i=>p.free i m)) M->sem (P e) (n+2) 16 [.ref a] M (kS fun xs ok un M1=>qeu (rgN 4) (tr ((P e).Gn (n+2)) (.se (.if_ (.me 46 (.v 0) (.ec (.v 4) (.ec (.v 3) .e0))) (.se (.re (.v 4)) .en) .en) .en)).S
  { nx:=(tr ((P e).Gn (n+2)) (.se (.re .n) .en)).S (rd Q),rt:=Q,bk:=(rd Q).bk,ct:=(rd Q).ct } ok un xs [some (.ref a),some (.str pick),some (.int d),some (.int m),none] M1):=fun hq=>qjc ok h (rest _ _ hq)
 rw[us (i:=58) (d:=qa2) rfl];simp only[qa2];walk_at "evs";unfold PoolS.pick at hq;cases e1:(pick== "keep")with
 |false=>
  rw[e1]at hq;simp only[wbb,waD,↓reduceIte]at hq ⊢;exact tail hq
 |true=>
  rw[e1]at hq;simp only[Bool.true_and,↓reduceIte]at hq ⊢;rw[qhP h,qfi];cases e2:p.free d m with
  |true=>rw[e2]at hq;rw[if_pos rfl];exact hq
  |false=>
   rw[e2]at hq;simp only[waD,↓reduceIte]at hq ⊢;rw[ho,qbr];exact tail hq
def PoolS.take(p:PoolS)(i:Int):PoolS:={ p with taken:=pt p.taken i (),mark:=if i=p.high then p.low else i+1 }
theorem qhG{a b:Addr}{o:RO}{C:Addr}{fs:List (Str×RV)}{kvs:LKR}(h1:M a=some (.ins C fs))(h2:M b=some (.dk kvs)):a≠b:=fun z=>by rw[z,h2]at h1;cases h1
theorem qtj{a ta un:Addr}{p:PoolS}{i:Int}(h:qb8 e M a ta un p)(hn:lk p.untl i=none)(hl:p.taken.length<1000)(n3:un≠ta)
 (hq:Q .non (put (put M ta (.dk (eT (p.take i).taken))) a (qak e (.int p.low) (.int p.high) (.int (p.take i).mark) (.ref ta) (.ref un)))):sem (P e) (n+1) 29 [.ref a,.int i] M Q:=by
 obtain⟨ho,ht,hun⟩:=h;have n1:a≠ta:=qhG (o:=.dk []) ho ht;have n2:a≠un:=qhG (o:=.dk []) ho hun;rw[us (i:=29) (d:=qbl) rfl];simp only[qbl];walk_at "evs";rw[qt7,hn];have e1:pt (eT p.taken) (Sum.inl i) (RV.bl true)=eT (p.take i).taken:=qev (v:=fun _:Unit=>RV.bl true) qcx (y:=())
 rw[e1];refine⟨by unfold eT;rw[qb3];exact waB hl (by decide),?_⟩
 rw[if_neg (by simp)]
 unfold PoolS.take at hq ⊢
 by_cases z:i=p.high
 · rw[if_pos (by simpa using z)];simp only[if_pos z]at hq;exact hq
 · rw[if_neg (by simpa using z)];simp only[if_neg z]at hq;exact hq
end
section
variable {e:Env}{n:Nat}{M:RM}{Q:RVK}
structure Inn where
 kind:Str
 house:Int
 door:Int
 place:Int
 far:Int
def Inn.k(i:Inn):TK:=[some (.inr i.kind),some (.inl i.house),some (.inl i.door),some (.inl i.place),some (.inl i.far)]
def Inn.r(i:Inn):RV:=.tup [.str i.kind,.int i.house,.int i.door,.int i.place,.int i.far]
theorem ql0:∀ (k:TK),qsi (k.map oR)=some k
 | []=>rfl
 |x::r=>by
  have e1:qvw (oR x)=some x:=by cases x with|none=>rfl|some k=>cases k<;>rfl
  show(match qvw (oR x),qsi (r.map oR)with|some k,some ks=>some (k::ks)|_,_=>none)=_
  rw[e1,ql0 r]
theorem qb1(k:TK):qhB (qk3 k)=some k:=ql0 k
def qai(f:Fm)(i:Inn):TK:=if f.lend= "door" then [some (.inr i.kind),some (.inl i.house),some (.inl i.door),none,none]else if f.lend= "place" then [some (.inr i.kind),some (.inl i.house),some (.inl i.door),some (.inl i.place),none]else i.k
theorem qeV{f:Fm}{i:Inn}:sem (P e) (n+1) 25 [f.r,i.r] M Q=Q (qk3 (qai f i)) M:=by
 unfold Fm.r Inn.r qai;rw[qoO]
 by_cases h1:f.lend= "door"
 · rw[if_pos h1,if_pos h1];rfl
 · rw[if_neg h1,if_neg h1]
   by_cases h2:f.lend= "place"
   · rw[if_pos h2,if_pos h2];rfl
   · rw[if_neg h2,if_neg h2];rfl
def eA(l:List (TK×Addr)):List (TK×RV):=enc id RV.ref l
def eB(l:List (Int×Addr)):LKR:=enc Sum.inl RV.ref l
def eH(l:List (Int×TK)):LKR:=enc Sum.inl qk3 l
def eN(l:List (TK×Int)):List (TK×RV):=enc id RV.int l
theorem qt8{l:List (TK×Addr)}{k:TK}:lk (eA l) k=(lk l k).map RV.ref:=qeE (g:=id) qfB
theorem qkr{l:List (Int×Addr)}{i:Int}:lk (eB l) (.inl i)=(lk l i).map RV.ref:=qeE qcx
theorem qxv{l:List (TK×Int)}{k:TK}:lk (eN l) k=(lk l k).map RV.int:=qeE (g:=id) qfB
theorem qxw{l:List (Int×TK)}{i:Int}:lk (eH l) (.inl i)=(lk l i).map qk3:=qeE qcx
def qq1:Option Addr->RV
 |some a=>.ref a
 |none=>.non
variable {t pl bi bn ho nu:Addr}{fr now:RV}
theorem qkJ{rp rbn rho rnu:RV}{l:List (TK×Addr)}{k:TK}(ht:M t=some (qae e fr rp now (.ref bi) rbn rho rnu))(hb:M bi=some (.dt (eA l))):sem (P e) (n+1) 31 [.ref t,qk3 k] M Q=Q (qq1 (lk l k)) M:=by
 rw[us (i:=31) (d:=qaI) rfl];simp only[qaI];walk_at "evs";rw[qrP (qb1 k),qt8];cases lk l k<;>rfl
theorem qbP{rp rbn rho:RV}{rbi:RV}{f:Fm}{i:Inn}{l:List (TK×Int)}(ht:M t=some (qae e f.r rp now rbi rbn rho (.ref nu)))(hb:M nu=some (.dt (eN l))):sem (P e) (n+2) 32 [.ref t,i.r] M Q=Q (qq0 (lk l (qai f i))) M:=by
 rw[us (i:=32) (d:=qaC) rfl];simp only[qaC];walk_at "evs";rw[qeV];first|rw[qgy]|skip
 rw[hb,qrP (qb1 _),qxv];cases lk l (qai f i)<;>rfl
theorem qd3{a:Addr}{o:RO}(h:M a=some o):put M a o=M:=by
 funext b;unfold put;by_cases z:b=a
 · rw[if_pos z,z,h]
 · rw[if_neg z]
def qdV(l:List (Int×TK))(h:Int):List Int:=(l.filter fun x=>decide (x.2[1]? =some (some (.inl h)))).map (·.1)
def tag:RO->Nat
 | .dk _=>0
 | .dt _=>1
 | .lst _=>2
 | .fk _=>3
 | .ft _=>4
 | .ins _ fs=>10+fs.length
theorem qaA{a b:Addr}{o o':RO}(h1:M a=some o)(h2:M b=some o')(h:(tag o==tag o')=false:=by rfl):a≠b:=fun z=>by
 rw[z,h2]at h1;cases h1;simp at h
theorem qxt{κ β:Type}[DecidableEq κ]{l:List (κ×β)}{k:κ}{y:β}:lk (pt l k y) k=some y:=by
 induction l with
 |nil=>show lk [(k,y)] k=_;rw[qaB,if_pos rfl]
 |cons x r ih=>
  obtain⟨j,z⟩:=x;unfold pt at ih ⊢;rw[waL]
  by_cases h:j=k
  · rw[if_pos (by simp[h])]
    show lk ((if(j,z).1=k then((j,z).1,y)else(j,z))::_) k=_
    rw[if_pos h,qaB,if_pos h]
  · rw[show(decide ((j,z).1=k)||r.any fun kv=>decide (kv.1=k))=r.any fun kv=>decide (kv.1=k) by simp[h]]
    split
    · rename_i h2
      rw[if_pos h2]at ih;show lk ((if(j,z).1=k then((j,z).1,y)else(j,z))::_) k=_
      rw[if_neg h,qaB,if_neg h];exact ih
    · rename_i h2
      rw[if_neg h2]at ih;show lk ((j,z)::(r++ [(k,y)])) k=_;rw[qaB,if_neg h];exact ih
theorem qaZ{x a:Addr}{o:RO}(hx:M x=none)(h:M a=some o):a≠x:=fun z=>by
 rw[z,hx]at h;cases h
theorem qab{x a:Addr}{o:RO}(h:put M a o x=none):M x=none/\x≠a:=by
 unfold put at h
 by_cases z:x=a
 · rw[if_pos z]at h;cases h
 · rw[if_neg z]at h;exact⟨h,z⟩
theorem qd4{a b:Addr}{o o':RO}(h:a≠b):put (put M a o) b o'=put (put M b o') a o:=by
 funext c;unfold put
 by_cases z1:c=b
 · rw[if_pos z1,if_neg (by rw[z1];exact fun z=>h z.symm),if_pos z1]
 · rw[if_neg z1,if_neg z1]
def itP(h:Int):RV->Bool
 | .tup [_,.tup (_::.int j::_)]=>j==h
 |_=>false
def itG:RV->RV
 | .tup [k,_]=>k
 |_=>.non
theorem held_eq{h:Int}:∀ {l:List (Int×TK)},(∀ x∈l,∃ k j r,x.2=k::some (.inl j)::r)->((qbU (eH l)).filter (itP h)).map itG=(qdV l h).map RV.int
 | [],_=>rfl
 |(m,y)::l,hh=>by
  obtain⟨k,j,r,e1⟩:=hh (m,y) (.head _);have e1:y=k::some (.inl j)::r:=e1;subst e1;have ih:=held_eq (h:=h) (l:=l) fun x hx=>hh x (.tail _ hx)
  show List.map itG (List.filter (itP h) (.tup [.int m,qk3 (k::some (.inl j)::r)]::qbU (eH l)))=_;have p1:itP h (.tup [.int m,qk3 (k::some (.inl j)::r)])=(j==h):=rfl;unfold qdV at ih ⊢
  by_cases z:j=h
  · rw[waM (by rw[p1];simpa using z),waM (by simpa using z),wae,wae,wae,ih];rfl
  · rw[waY (by rw[p1];simpa using z),waY (by simpa using z),ih]
theorem qlG{rp rbn rbi rnu:RV}{l:List (Int×TK)}{h:Int}(ht:M t=some (qae e fr rp now rbi rbn (.ref ho) rnu))(hb:M ho=some (.dk (eH l)))(hh:∀ x∈l,∃ k j r,x.2=k::some (.inl j)::r)(hl:l.length<1000)(hq:Q (.ls ((qdV l h).map RV.int)) M):
 sem (P e) (n+1) 34 [.ref t,.int h] M Q:=by
 rw[us (i:=34) (d:=qba) rfl];simp only[qba];walk_at "evs";unfold qsj;simp only[hb];refine⟨by unfold qbU eH;rw[wab,qb3];exact waB hl (by decide),qbd (itP h) itG qad _ _ (fun x hx=>?_) ?_⟩
 · obtain⟨y0,hy0,rfl⟩:=wan.mp hx
   obtain⟨y,hy,rfl⟩:=wan.mp hy0;obtain⟨k,j,r,e1⟩:=hh y hy;have e2:qk3 y.2= .tup (oR k::.int j::r.map oR):=by rw[e1];rfl
   show ∃ bs,qjP true 2 (.tup [.int y.1,qk3 y.2])=some bs/\_;rw[e2];refine⟨_,rfl,fun K hK=>?_,fun _ K hK=>?_⟩
   · walk_at "ev";exact hK
   · walk_at "ev";exact hK
 · show Q (.ls (([]++((qbU (eH l)).filter (itP h)).map itG))) (put (put M ho (.fk (eH l))) ho (.dk (eH l)))
   rw[qbi,qd3 hb,waI,held_eq hh];exact hq
theorem qtl{pl ta un:Addr}{rbn rbi:RV}{f:Fm}{i:Inn}{p:PoolS}{m:Int}{hs:List (Int×TK)}{ns:List (TK×Int)}(ht:M t=some (qae e f.r (.ref pl) now rbi rbn (.ref ho) (.ref nu)))(hp:qb8 e M pl ta un p)(h1:M ho=some (.dk (eH hs)))(h2:M nu=some (.dt (eN ns)))
 (hn:lk p.untl m=none) (hl:p.taken.length<1000) (l1:hs.length<1000) (l2:ns.length<1000) (n3:un≠ta) (n4:ho≠ta) (n5:ho≠un)
 (hq:Q .non (put (put (put (put M ta (.dk (eT (p.take m).taken))) pl (qak e (.int p.low) (.int p.high) (.int (p.take m).mark) (.ref ta) (.ref un))) ho (.dk (eH (pt hs m (qai f i))))) nu (.dt (eN (pt ns (qai f i) m))))):
 sem (P e) (n+2) 48 [.ref t,.int m,i.r] M Q:=by
 have a1:t≠ta:=qaA ht hp.t;have a2:t≠pl:=qaA ht hp.o;have a3:ho≠pl:=qaA h1 hp.o;have a4:nu≠pl:=qaA h2 hp.o;have a5:nu≠ta:=qaA h2 hp.t;have a6:nu≠ho:=qaA h2 h1;have a7:t≠ho:=qaA ht h1;have e1:pt (eH hs) (Sum.inl m) (qk3 (qai f i))=eH (pt hs m (qai f i)):=qev qcx;have e2:pt (eN ns) (qai f i) (RV.int m)=eN (pt ns (qai f i) m):=qev (g:=id) qfB;rw[us (i:=48) (d:=qa7) rfl];simp only[qa7];walk_at "evs";rw[qeV];walk_at "evs";rw[hp.o,qcN];walk_at "ev";refine qtj hp hn hl n3 ?_;walk_at "evs";rw[qlX (qb1 _)];walk_at "evs";unfold eH eN;rw[qb3,qb3];exact⟨waB l1 (by decide),waB l2 (by decide)⟩
theorem qes{x:Addr}{a b c d:RV}(hq:Q .non (put M x (qan e a b c d))):sem (P e) (n+1) 64 [.ref x,a,b,c,d] (put M x (.ins (e.C 2) [])) Q:=by
 rw[us (i:=64) (d:=qbj) rfl];simp only[qbj];walk_at "evs"
theorem qg2{x:Addr}(hx:M x=none)(hq:∀ s,M s=none->s≠x->Q .non (put (put M s (.dk [])) x (qiI e (.int 0) (.ref s)))):sem (P e) (n+1) 15 [.ref x] (put M x (.ins (e.C 0) [])) Q:=by
 rw[us (i:=15) (d:=qbb) rfl];simp only[qbb];walk_at "ev";intro s hs;obtain⟨h1,h2⟩:=qab hs;have h3:x≠s:=Ne.symm h2;have q:=hq s h1 h2;rw[qac h3];walk_at "ev";rw[qd4 h3,qbi];exact q
theorem qiC{x:Addr}{l h:Int}(hx:M x=none)(hq:∀ ta un,M ta=none->M un=none->ta≠x->un≠x->un≠ta->Q .non (put (put (put M ta (.dk [])) un (.dk [])) x (qak e (.int l) (.int h) (.int l) (.ref ta) (.ref un)))):sem (P e) (n+1) 45 [.ref x,.int l,.int h] (put M x (.ins (e.C 1) [])) Q:=by
 rw[us (i:=45) (d:=qbm) rfl];simp only[qbm];walk_at "ev";intro ta hta;obtain⟨h1,h2⟩:=qab hta;have h3:x≠ta:=Ne.symm h2;rw[qac h3];walk_at "ev";intro un hun;obtain⟨g1,g2⟩:=qab hun;obtain⟨g3,g4⟩:=qab g1;obtain⟨g5,_⟩:=qab g3;have g6:x≠un:=Ne.symm g2;have q:=hq ta un h1 g5 h2 g2 g4;rw[qac g6];walk_at "ev";rw[qd4 (a:=x) (b:=ta) h3,qbi,qd4 (a:=x) (b:=un) g6,qbi];exact q
theorem qiA{rp rho rnu:RV}{f:Fm}{i:Inn}{m:Int}{li lb':List (TK×Addr)}{lb:List (Int×Addr)}{b:Addr}{nw:Int}(tb:Tb e)(ht:M t=some (qae e f.r rp (.int nw) (.ref bi) (.ref bn) rho rnu))(h1:M bi=some (.dt (eA li)))(h2:M bn=some (.dk (eB lb)))(hb:lk lb m=some b)(h3:M b=some (.dt (eA lb')))
 (l1:li.length<1000) (l2:lb'.length<1000) (n1:b≠bi)
 (hq:∀ x,M x=none->Q .non (put (put (put M x (qan e i.r (.int m) (.str "note") (.int (nw+f.t0)))) bi (.dt (eA (pt li i.k x)))) b (.dt (eA (pt lb' [some (.inr i.kind),some (.inl i.place),some (.inl i.far)] x))))):
 sem (P e) (n+3) 59 [.ref t,i.r,.int m,.str "note"] M Q:=by
 have e0:i.r= .tup [.str i.kind,.int i.house,.int i.door,.int i.place,.int i.far]:=rfl;have k0:qhB (.tup [.str i.kind,.int i.house,.int i.door,.int i.place,.int i.far])=some i.k:=qb1 i.k;have k1:qhB (.tup [.str i.kind,.int i.place,.int i.far])=some [some (.inr i.kind),some (.inl i.place),some (.inl i.far)]:=rfl;have a1:t≠bi:=qaA ht h1;have a2:bn≠bi:=qaA h2 h1;have e1:∀ x,pt (eA li) i.k (RV.ref x)=eA (pt li i.k x):=fun x=>qev (g:=id) qfB
 have e2:∀ k x,pt (eA lb') k (RV.ref x)=eA (pt lb' k x):=fun k x=>qev (g:=id) qfB
 have e3:lk (eB lb) (.inl m)=some (.ref b):=by rw[qkr,hb];rfl
 have z1:(eA li).length<sizeLine:=by unfold eA;rw[qb3];exact waB l1 (by decide)
 have z2:(eA lb').length<sizeLine:=by unfold eA;rw[qb3];exact waB l2 (by decide)
 rw[us (i:=59) (d:=qaF) rfl];simp only[qaF];rw[e0];walk_at "evs";unfold Fm.r Fm.times;rw[qcz tb,qoo];intro x hx;have b1:=qaZ hx ht;have b2:=qaZ hx h1;have b3:=qaZ hx h2;have b4:=qaZ hx h3;have q:=hq x hx;refine qes ⟨rfl,?_⟩;rw[qac b1,ht];walk_at "ev";rw[qac b2,h1,qlX k0,e1];refine⟨z1,?_⟩;walk_at "evs";rw[qlX k1,e2];refine⟨z2,?_⟩;walk_at "ev";exact q
theorem qiB{rp rho rnu:RV}{f:Fm}{i:Inn}{m:Int}{li:List (TK×Addr)}{lb:List (Int×Addr)}{nw:Int}(tb:Tb e)(ht:M t=some (qae e f.r rp (.int nw) (.ref bi) (.ref bn) rho rnu))(h1:M bi=some (.dt (eA li)))(h2:M bn=some (.dk (eB lb)))(hb:lk lb m=none)
 (l1:li.length<1000) (l2:lb.length<1000)
 (hq:∀ x y,M x=none->M y=none->y≠x->Q .non (put (put (put (put M x (qan e i.r (.int m) (.str "note") (.int (nw+f.t0)))) bi (.dt (eA (pt li i.k x)))) y (.dt (eA [([some (.inr i.kind),some (.inl i.place),some (.inl i.far)],x)]))) bn (.dk (eB (lb++ [(m,y)]))))):
 sem (P e) (n+3) 59 [.ref t,i.r,.int m,.str "note"] M Q:=by
 have e0:i.r= .tup [.str i.kind,.int i.house,.int i.door,.int i.place,.int i.far]:=rfl;have k0:qhB (.tup [.str i.kind,.int i.house,.int i.door,.int i.place,.int i.far])=some i.k:=qb1 i.k;have k1:qhB (.tup [.str i.kind,.int i.place,.int i.far])=some [some (.inr i.kind),some (.inl i.place),some (.inl i.far)]:=rfl;have a1:t≠bi:=qaA ht h1;have a2:bn≠bi:=qaA h2 h1;have a3:t≠bn:=qaA ht h2;have e1:∀ x,pt (eA li) i.k (RV.ref x)=eA (pt li i.k x):=fun x=>qev (g:=id) qfB
 have e2:∀ x,pt (eB lb) (.inl m) (RV.ref x)=eB (lb++ [(m,x)]):=fun x=>by rw[<-qdw hb];exact qev qcx
 have e3:lk (eB lb) (.inl m)=none:=by rw[qkr,hb];rfl
 have e4:∀ y,lk (eB (lb++ [(m,y)])) (.inl m)=some (.ref y):=fun y=>by
  rw[qkr,<-qdw hb,qxt];rfl
 have z1:(eA li).length<sizeLine:=by unfold eA;rw[qb3];exact waB l1 (by decide)
 have z2:(eB lb).length<sizeLine:=by unfold eB;rw[qb3];exact waB l2 (by decide)
 rw[us (i:=59) (d:=qaF) rfl];simp only[qaF];rw[e0];walk_at "evs";unfold Fm.r Fm.times;rw[qcz tb,qoo];intro x hx;have b1:=qaZ hx ht;have b2:=qaZ hx h1;have b3:=qaZ hx h2;refine qes ⟨rfl,?_⟩;rw[qac b1,ht];walk_at "ev";rw[qac b2,h1,qlX k0,e1];refine⟨z1,?_⟩;walk_at "evs";intro y hy;obtain⟨y1,y2⟩:=qab hy;obtain⟨y3,y4⟩:=qab y1;have c1:=qaZ y3 ht;have c2:=qaZ y3 h2;have q:=hq x y hx y3 y4;have c3:y≠bn:=Ne.symm c2;walk_at "evs";rw[qlX k1];refine⟨(by decide:0<sizeLine),?_⟩
 walk_at "ev";rw[qd4 c2,qbi];exact q
theorem qpl{rp rbi rbn rho rnu:RV}{f:Fm}{nw:Int}{x:Addr}{ri rn rs ro:RV}(tb:Tb e)(ht:M t=some (qae e f.r rp (.int nw) rbi rbn rho rnu))(hx:M x=some (qan e ri rn rs ro))(hq:Q .non (put M x (qan e ri rn (.str "note") (.int (nw+f.t0))))):sem (P e) (n+2) 49 [.ref t,.ref x,.str "note"] M Q:=by
 have a1:t≠x:=qaA ht hx;rw[us (i:=49) (d:=qa8) rfl];simp only[qa8];walk_at "evs";rw[if_neg (by decide)]
 unfold Fm.r Fm.times;rw[qcz tb,qoo];walk_at "evs"
end
section
variable {e:Env}{n:Nat}{M:RM}{Q:RVK}{g t pl ta un bi bn ho nu:Addr}
theorem qdv{rs rd rbi rbn rho rnu:RV}{f:Fm}{p:PoolS}{nw d:Int}(ok:p.Ok)(hg:M g=some (qag e f.r (.ref t) rs rd .non))(ht:M t=some (qae e f.r (.ref pl) (.int nw) rbi rbn rho rnu))(hp:qb8 e M pl ta un p)
 (hq:Q (qq0 (p.pick (f.pick== "keep") d nw)) M):sem (P e) (n+4) 38 [.ref g,.int d] M Q:=by
 have hpo:=hp.o;rw[us (i:=38) (d:=qaE) rfl];simp only[qaE];walk_at "evs";unfold Fm.r;walk_at "ev";exact qnY ok hp hq
theorem qdz{a b:Addr}{v1 v2 v3 v4 v5 w1 w2 w3 w4 w5:RV}(h1:M a=some (qag e v1 v2 v3 v4 v5))(h2:M b=some (qak e w1 w2 w3 w4 w5)):a≠b:=fun z=>by
 rw[z,h2]at h1;unfold qag qak at h1;injection h1 with h1
 injection h1 with _ h1
 injection h1 with h1 _
 injection h1 with h1 _
 exact absurd h1 (by decide)
theorem qg8{m:Int}:qq0 (some m)= .int m:=rfl
theorem qcH:qq0 none= .non:=rfl
theorem i_0{i:Inn}:rIx i.r (.int 0) M Q=Q (.str i.kind) M:=xi_tup.trans (by rw[qyh];rfl)
theorem i_1{i:Inn}:rIx i.r (.int 1) M Q=Q (.int i.house) M:=xi_tup.trans (by rw[qyg];rfl)
theorem i_2{i:Inn}:rIx i.r (.int 2) M Q=Q (.int i.door) M:=xi_tup.trans (by rw[qyf];rfl)
theorem f_5{f:Fm}:rIx f.r (.int 5) M Q=Q (.int f.most) M:=xi_tup.trans (by rw[qBb];rfl)
theorem qfY{rs rd rp rho:RV}{f:Fm}{i:Inn}{nw m:Int}{li lb':List (TK×Addr)}{lb:List (Int×Addr)}{ns:List (TK×Int)}{b:Addr}(tb:Tb e)(hg:M g=some (qag e f.r (.ref t) rs rd .non))(ht:M t=some (qae e f.r rp (.int nw) (.ref bi) (.ref bn) rho (.ref nu)))
 (h1:M bi=some (.dt (eA li))) (h2:M bn=some (.dk (eB lb))) (h4:M nu=some (.dt (eN ns))) (hm:lk ns (qai f i)=some m) (hb:lk lb m=some b) (h3:M b=some (.dt (eA lb'))) (l1:li.length<1000) (l2:lb'.length<1000) (n1:b≠bi)
 (hq:∀ x,M x=none->Q (.tup [.str "led",.int m]) (put (put (put M x (qan e i.r (.int m) (.str "note") (.int (nw+f.t0)))) bi (.dt (eA (pt li i.k x)))) b (.dt (eA (pt lb' [some (.inr i.kind),some (.inl i.place),some (.inl i.far)] x))))):
 sem (P e) (n+4) 52 [.ref g,i.r,.str "note"] M Q:=by
 rw[us (i:=52) (d:=qaf) rfl];simp only[qaf];walk_at "evs";rw[qbP ht h4,hm,qg8];walk_at "evs";exact qiA tb ht h1 h2 hb h3 l1 l2 n1 hq
theorem qfX{rs rd:RV}{f:Fm}{i:Inn}{p:PoolS}{nw m:Int}{li:List (TK×Addr)}{lb:List (Int×Addr)}{hs:List (Int×TK)}{ns:List (TK×Int)}(tb:Tb e)(ok:p.Ok)(hg:M g=some (qag e f.r (.ref t) rs rd .non))(ht:M t=some (qae e f.r (.ref pl) (.int nw) (.ref bi) (.ref bn) (.ref ho) (.ref nu)))(hp:qb8 e M pl ta un p)
 (h1:M bi=some (.dt (eA li))) (h2:M bn=some (.dk (eB lb))) (h3:M ho=some (.dk (eH hs))) (h4:M nu=some (.dt (eN ns))) (hm:lk ns (qai f i)=none) (hb:lk lb m=none) (hh:∀ x∈hs,∃ k j r,x.2=k::some (.inl j)::r) (hmost:((qdV hs i.house).length:Int)<f.most)
 (hpick:p.pick (f.pick== "keep") i.door nw=some m) (hun:lk p.untl m=none) (l0:p.taken.length<1000) (l1:li.length<1000) (l2:lb.length<1000) (l3:hs.length<1000) (l4:ns.length<1000)
 (n1:un≠ta) (n2:ho≠ta) (n3:ho≠un) (n4:bn≠ta) (n5:bn≠un) (n6:bn≠ho) (n7:bi≠nu)
 (hq:∀ x y,M x=none->M y=none->y≠x->Q (.tup [.str "led",.int m]) (put (put (put (put (put (put (put (put M ta (.dk (eT (p.take m).taken))) pl (qak e (.int p.low) (.int p.high) (.int (p.take m).mark) (.ref ta) (.ref un))) ho (.dk (eH (pt hs m (qai f i))))) nu (.dt (eN (pt ns (qai f i) m))))
  x (qan e i.r (.int m) (.str "note") (.int (nw+f.t0)))) bi (.dt (eA (pt li i.k x)))) y (.dt (eA [([some (.inr i.kind),some (.inl i.place),some (.inl i.far)],x)]))) bn (.dk (eB (lb++ [(m,y)]))))):
 sem (P e) (n+5) 52 [.ref g,i.r,.str "note"] M Q:=by
 have a1:t≠ta:=qaA ht hp.t;have a2:t≠pl:=qaA ht hp.o;have a3:t≠ho:=qaA ht h3;have a4:t≠nu:=qaA ht h4;have a5:g≠ta:=qaA hg hp.t;have a7:g≠ho:=qaA hg h3;have a8:g≠nu:=qaA hg h4;have a9:bi≠ta:=qaA h1 hp.t;have a10:bi≠pl:=qaA h1 hp.o;have a11:bi≠ho:=qaA h1 h3;have a12:bn≠pl:=qaA h2 hp.o;have a13:bn≠nu:=qaA h2 h4;have k1:∀ {M:RM} {Q:RVK},rIx i.r (.int 1) M Q=Q (.int i.house) M:=i_1;have k2:∀ {M:RM} {Q:RVK},rIx i.r (.int 2) M Q=Q (.int i.door) M:=i_2;have k5:∀ {M:RM} {Q:RVK},rIx f.r (.int 5) M Q=Q (.int f.most) M:=f_5;rw[us (i:=52) (d:=qaf) rfl];simp only[qaf];walk_at "evs";rw[qbP ht h4,hm,qcH];walk_at "evs";refine qlG ht h3 hh l3 ?_;walk_at "evs";rw[if_neg (by rw[wab];simp;omega)]
 refine qdv ok hg ht hp ?_;rw[hpick,qg8];walk_at "evs";refine qtl ht hp h3 h4 hun l0 l3 l4 n1 n2 n3 ?_;have a6:g≠pl:=qdz hg hp.o;walk_at "evs";refine qiB (bi:=bi) (bn:=bn) tb (by rw[qac a4,qac a3,qac a2,qac a1];exact ht) (by rw[qac n7,qac a11,qac a10,qac a9];exact h1) (by rw[qac a13,qac n6,qac a12,qac n4];exact h2) hb l1 l2 fun x y hx hy hxy=>?_
 exact hq x y (qab (qab (qab (qab hx).1).1).1).1 (qab (qab (qab (qab hy).1).1).1).1 hxy
theorem qjJ{rp rbn rho rnu fr now:RV}{l:List (TK×Addr)}{i:Inn}(ht:M t=some (qae e fr rp now (.ref bi) rbn rho rnu))(hb:M bi=some (.dt (eA l))):sem (P e) (n+1) 31 [.ref t,i.r] M Q=Q (qq1 (lk l i.k)) M:=qkJ (k:=i.k) ht hb
theorem qlY{x:Addr}:qq1 (some x)= .ref x:=rfl
theorem qlZ:qq1 none= .non:=rfl
theorem qe9{rs rd rp rbn rho rnu now:RV}{f:Fm}{i:Inn}{li:List (TK×Addr)}(hk:i.kind= "note")(hg:M g=some (qag e f.r (.ref t) rs rd .non))(ht:M t=some (qae e f.r rp now (.ref bi) rbn rho rnu))(h1:M bi=some (.dt (eA li)))(hn:lk li i.k=none)
 (hq:sem (P e) (n+5) 52 [.ref g,i.r,.str "note"] M Q):sem (P e) (n+6) 51 [.ref g,i.r,.str "say"] M Q:=by
 have k0:∀ {M:RM} {Q:RVK},rIx i.r (.int 0) M Q=Q (.str "note") M:=fun {M Q}=>by rw[i_0,hk]
 rw[us (i:=51) (d:=qav) rfl];simp only[qav];walk_at "evs";rw[qjJ ht h1,hn,qlZ];walk_at "ev";rw[qb4 (.inl rfl)];walk_at "ev";rw[hg];walk_at "ev";exact hq
theorem qe8{rs rd rp rbn rho rnu ri ro:RV}{f:Fm}{i:Inn}{li:List (TK×Addr)}{x:Addr}{m nw:Int}(tb:Tb e)(hk:i.kind= "note")(hg:M g=some (qag e f.r (.ref t) rs rd .non))(ht:M t=some (qae e f.r rp (.int nw) (.ref bi) rbn rho rnu))(h1:M bi=some (.dt (eA li)))(hn:lk li i.k=some x)(hx:M x=some (qan e ri (.int m) (.str "note") ro))
 (hq:Q (.tup [.str "led",.int m]) (put M x (qan e ri (.int m) (.str "note") (.int (nw+f.t0))))):sem (P e) (n+6) 51 [.ref g,i.r,.str "say"] M Q:=by
 have k0:∀ {M:RM} {Q:RVK},rIx i.r (.int 0) M Q=Q (.str "note") M:=fun {M Q}=>by rw[i_0,hk]
 rw[us (i:=51) (d:=qav) rfl];simp only[qav];walk_at "evs";rw[qjJ ht h1,hn,qlY];walk_at "ev";rw[hx];walk_at "ev";rw[qb4 (.inr rfl)];walk_at "ev";rw[hg];walk_at "ev";rw[ht];walk_at "ev";refine qpl tb ht hx ?_;walk_at "ev";exact hq
theorem qtk{i:Inn}{rt rs rd wi fr:RV}(hp:i.place≠0)(hk:i.kind= "note")(hg:M g=some (qag e fr rt rs rd wi))(hq:sem (P e) (n+6) 51 [.ref g,i.r,.str "say"] M Q):sem (P e) (n+7) 37 [.ref g,.tup [.str "note",.int i.house,.int i.door,.int i.place,.int i.far,.str "say",.str ""]] M Q:=by
 have e0:i.r= .tup [.str "note",.int i.house,.int i.door,.int i.place,.int i.far]:=by unfold Inn.r;rw[hk]
 have e1:(!i.place==0)=true:=by simpa using hp
 rw[us (i:=37) (d:=qbn) rfl];simp only[qbn];walk_at "ev";rw[hg];walk_at "ev";simp only[e1,↓reduceIte];rw[<-e0];exact hq
theorem qkj{i:Inn}{rt rs rd wi fr:RV}(hp:i.place≠0)(hk:i.kind= "note")(hg:M g=some (qag e fr rt rs rd wi))(hq:sem (P e) (n+6) 51 [.ref g,i.r,.str "say"] M Q):sem (P e) (n+8) 50 [.ref g,.str "out",.tup [.str "note",.int i.house,.int i.door,.int i.place,.int i.far,.str "say",.str ""]] M Q:=by
 rw[us (i:=50) (d:=qaw) rfl];simp only[qaw];walk_at "evs";exact qtk hp hk hg hq
structure Inn.Ok(i:Inn):Prop where
 kind:i.kind= "note"
 house:0<=i.house/\i.house<=99
 door:1<=i.door/\i.door<=9999
 place:1<=i.place/\i.place<=1000000
 far:1<=i.far/\i.far<=9999
def Inn.deed(i:Inn):RV:=.tup [.str "out",.str "note",.int i.house,.int i.door,.int i.place,.int i.far,.str "say",.str ""]
theorem qwK{i:Inn}{rt rs wi fr:RV}{dn:Addr}{post:RV->RM->Prop}(tb:Tb e)(ok:i.Ok)(hg:M g=some (qag e fr rt rs (.ref dn) wi))(hl:∀ K:RVK,(∀ v M2,post v M2->K v M2)->sem (P e) (n+6) 51 [.ref g,i.r,.str "say"] M K)
 (hq:∀ v M2,post v M2->∃ rt2 rs2 wi2 fr2 ds,M2 g=some (qag e fr2 rt2 rs2 (.ref dn) wi2)/\M2 dn=some (.lst ds)/\ds.length<1000/\Q v (put M2 dn (.lst (ds++ [.tup [i.deed,v]])))):
 sem (P e) (n+10) 68 [.ref g,.str "note",.int i.house,.int i.door,.int i.place,.int i.far,.str "say",.str ""] M Q:=by
 rw[us (i:=68) (d:=qbF) rfl];simp only[qbF];walk_at "evs";rw[us (i:=36) (d:=qaX) rfl];simp only[qaX];walk_at "ev";refine qlE (n:=n+3) tb ok.house ok.door ⟨by have:=ok.place.1;omega,ok.place.2⟩ ok.far ?_
 walk_at "evs";rw[qvC];refine qkj (by have:=ok.place.1;omega) ok.kind hg (hl _ fun v M2 hp=>?_)
 obtain⟨rt2,rs2,wi2,fr2,ds,g1,g2,g3,g4⟩:=hq v M2 hp;rw[g1];walk_at "ev";rw[g2];walk_at "ev";exact⟨ds,_,rfl,g2,waB g3 (by decide),g4⟩
theorem f_0{f:Fm}:rIx f.r (.int 0) M Q=Q (.int f.low) M:=xi_tup.trans (by rw[qyh];rfl)
theorem f_1{f:Fm}:rIx f.r (.int 1) M Q=Q (.int f.high) M:=xi_tup.trans (by rw[qyg];rfl)
def p0(f:Fm):PoolS:=⟨f.low,f.high,f.low,[],[]⟩
theorem qg1{f:Fm}{x:Addr}(hx:M x=none)(hq:∀ pl ta un bi bn ho nu M',M' x=some (qae e f.r (.ref pl) (.int 0) (.ref bi) (.ref bn) (.ref ho) (.ref nu))->qb8 e M' pl ta un (p0 f)->M' bi=some (.dt [])->M' bn=some (.dk [])->M' ho=some (.dk [])->M' nu=some (.dt [])->
 un≠ta->ho≠ta->ho≠un->bn≠ta->bn≠un->ho≠bn->nu≠bi->(∀ b o,M b=some o->b≠x->M' b=some o)->(∀ b∈[pl,ta,un,bi,bn,ho,nu],M b=none)->(∀ b,M' b=none->M b=none/\b≠x)->Q .non M'):sem (P e) (n+3) 30 [.ref x,f.r] (put M x (.ins (e.C 3) [])) Q:=by
 have k0:∀ {M:RM} {Q:RVK},rIx f.r (.int 0) M Q=Q (.int f.low) M:=f_0;have k1:∀ {M:RM} {Q:RVK},rIx f.r (.int 1) M Q=Q (.int f.high) M:=f_1;rw[us (i:=30) (d:=qa9) rfl];simp only[qa9];walk_at "ev";rw[k0,k1];intro pl hpl;refine qiC hpl fun ta un hta hun n1 n2 n3=>⟨rfl,?_⟩
 have c1:=qab hpl;have c2:=qab hta;have c3:=qab hun;have d1:x≠pl:=Ne.symm c1.2;have d2:x≠ta:=Ne.symm c2.2;have d3:x≠un:=Ne.symm c3.2;rw[qac d1,qac d3,qac d2];walk_at "ev";intro bi hbi;have d4:x≠bi:=Ne.symm (qab hbi).2;rw[qac d4];walk_at "ev";intro bn hbn;have d5:x≠bn:=Ne.symm (qab hbn).2;rw[qac d5];walk_at "ev";intro ho hho;have d6:x≠ho:=Ne.symm (qab hho).2;rw[qac d6];walk_at "ev";intro nu hnu;have d7:x≠nu:=Ne.symm (qab hnu).2;rw[qac d7];walk_at "ev";obtain⟨b1,_⟩:=qab hbi;obtain⟨b1,b2⟩:=qab b1;obtain⟨b1,b3⟩:=qab b1;obtain⟨b1,b4⟩:=qab b1;obtain⟨b1,_⟩:=qab b1;obtain⟨e1,_⟩:=qab hbn;obtain⟨e1,e2⟩:=qab e1;obtain⟨e1,_⟩:=qab e1;obtain⟨e1,e3⟩:=qab e1;obtain⟨e1,e4⟩:=qab e1;obtain⟨e1,e5⟩:=qab e1;obtain⟨e1,_⟩:=qab e1;obtain⟨g1,_⟩:=qab hho;obtain⟨g1,g2⟩:=qab g1;obtain⟨g1,_⟩:=qab g1;obtain⟨g1,g3⟩:=qab g1;obtain⟨g1,_⟩:=qab g1;obtain⟨g1,g4⟩:=qab g1;obtain⟨g1,g5⟩:=qab g1;obtain⟨g1,g6⟩:=qab g1;obtain⟨g1,_⟩:=qab g1;obtain⟨h1,_⟩:=qab hnu;obtain⟨h1,h2⟩:=qab h1;obtain⟨h1,_⟩:=qab h1;obtain⟨h1,h3⟩:=qab h1;obtain⟨h1,_⟩:=qab h1;obtain⟨h1,h4⟩:=qab h1;obtain⟨h1,_⟩:=qab h1;obtain⟨h1,h5⟩:=qab h1;obtain⟨h1,h6⟩:=qab h1;obtain⟨h1,h7⟩:=qab h1;obtain⟨h1,_⟩:=qab h1;clear hpl hta hun hbi hbn hho hnu;refine hq pl ta un bi bn ho nu _ qad ⟨?_,?_,?_⟩ ?_ ?_ ?_ ?_ n3 g6 g5 e5 e4 g2 h4 (fun b o hb hbx=>?_) (fun b hb=>?_) (fun b hb=>?_)
 · simp only[qac (Ne.symm d1),qac (Ne.symm h5),qac (Ne.symm g4),qac (Ne.symm e3),qac (Ne.symm b2),qad];rfl
 · simp only[qac (Ne.symm d2),qac (Ne.symm h7),qac (Ne.symm g6),qac (Ne.symm e5),qac (Ne.symm b4),qac n1,qac (Ne.symm n3),qad];rfl
 · simp only[qac (Ne.symm d3),qac (Ne.symm h6),qac (Ne.symm g5),qac (Ne.symm e4),qac (Ne.symm b3),qac n2,qad];rfl
 · simp only[qac (Ne.symm d4),qac (Ne.symm h4),qac (Ne.symm g3),qac (Ne.symm e2),qad]
 · simp only[qac (Ne.symm d5),qac (Ne.symm h3),qac (Ne.symm g2),qad]
 · simp only[qac (Ne.symm d6),qac (Ne.symm h2),qad]
 · simp only[qac (Ne.symm d7),qad]
 · have q:∀ c,M c=none->b≠c:=fun c hc=>qaZ hc hb
   simp only[qac hbx,qac (q _ h1),qac (q _ g1),qac (q _ e1),qac (q _ b1),qac (q _ c1.1),qac (q _ c2.1),qac (q _ c3.1)];exact hb
 · simp only[waf,wax,or_false]at hb
   rcases hb with rfl|rfl|rfl|rfl|rfl|rfl|rfl
   · exact c1.1
   · exact c2.1
   · exact c3.1
   · exact b1
   · exact e1
   · exact g1
   · exact h1
 · obtain⟨z,z1⟩:=qab hb
   refine⟨?_,z1⟩
   iterate 12 (first|exact z|obtain⟨z,_⟩:=qab z)
   exact z
theorem qiD{f:Fm}{x:Addr}(ok:f.Ok)(hx:M x=none)(hq:∀ t st dn pl ta un bi bn ho nu M',M' x=some (qag e f.r (.ref t) (.ref st) (.ref dn) .non)->M' t=some (qae e f.r (.ref pl) (.int 0) (.ref bi) (.ref bn) (.ref ho) (.ref nu))->qb8 e M' pl ta un (p0 f)->M' bi=some (.dt [])->M' bn=some (.dk [])->M' ho=some (.dk [])->M' nu=some (.dt [])->
 M' dn=some (.lst [])->un≠ta->ho≠ta->ho≠un->bn≠ta->bn≠un->ho≠bn->nu≠bi->(∀ b o,M b=some o->b≠x->M' b=some o)->(∀ b∈[t,dn,pl,ta,un,bi,bn,ho,nu],M b=none)->Q .non M'):sem (P e) (n+6) 35 [.ref x,f.r] (put M x (.ins (e.C 4) [])) Q:=by
 rw[us (i:=35) (d:=qbo) rfl];simp only[qbo];walk_at "ev";refine qer ok ?_;walk_at "ev";intro t ht;have t1:=qab ht;refine qg1 (n:=n+1) ht fun pl ta un bi bn ho nu M1 m1 m2 m3 m4 m5 m6 n1 n2 n3 n4 n5 n6 n7 fr new old=>⟨rfl,?_⟩
 have mx:M1 x=some (.ins (e.C 4) [("form",f.r)]):=fr x _ qad (Ne.symm t1.2);rw[mx];walk_at "ev";intro st hst;refine qg2 hst fun sd hsd hss=>⟨rfl,?_⟩
 have s1:=qab hst;have s2:=qab hsd;rw[qac (Ne.symm s1.2),qac (Ne.symm s2.2)];walk_at "ev";intro dn hdn;rw[qac (Ne.symm (qab hdn).2)];walk_at "ev";obtain⟨d1,d2⟩:=qab hdn;obtain⟨d1,d3⟩:=qab d1;obtain⟨d1,d4⟩:=qab d1;obtain⟨d1,_⟩:=qab d1;clear hdn;have nx:∀ b∈[pl,ta,un,bi,bn,ho,nu],M b=none/\b≠x:=fun b hb=>qab (new b hb)
 have kp:∀ a o,M1 a=some o->a≠x->put (put (put (put (put (put M1 x (.ins (e.C 4) [("form",f.r),("table",.ref t)])) sd (.dk [])) st (qiI e (.int 0) (.ref sd))) x (.ins (e.C 4) [("form",f.r),("table",.ref t),("strangers",.ref st)])) dn (.lst [])) x (qag e f.r (.ref t) (.ref st) (.ref dn) .non) a=some o:=fun a o ha hax=>by
  rw[qac hax,qac (qaZ d1 ha),qac hax,qac (qaZ s1.1 ha),qac (qaZ s2.1 ha),qac hax];exact ha
 refine hq t st dn pl ta un bi bn ho nu _ qad (kp _ _ m1 t1.2) ⟨kp _ _ m2.o (nx pl (by simp)).2,kp _ _ m2.t (nx ta (by simp)).2,kp _ _ m2.u (nx un (by simp)).2⟩ (kp _ _ m3 (nx bi (by simp)).2) (kp _ _ m4 (nx bn (by simp)).2) (kp _ _ m5 (nx ho (by simp)).2) (kp _ _ m6 (nx nu (by simp)).2)
  (by rw[qac d2,qad]) n1 n2 n3 n4 n5 n6 n7 (fun b o hb hbx=>kp b o (fr b o (by rw[qac hbx];exact hb) (qaZ t1.1 hb)) hbx) (fun b hb=>?_)
 rcases waf.mp hb with rfl|hb
 · exact t1.1
 rcases waf.mp hb with rfl|hb
 · exact(qab (old _ d1).1).1
 exact(nx b hb).1
end
section
inductive Ro where
 |g|t|pl|ta|un|bi|bn|ho|nu|dn|st|tk (k:Nat)|nb (k:Nat)
abbrev RA_:=Ro->Addr
variable {M M':RM}{ad ad':RA_}{c c':Ro->Option RO}{r r':Ro}{o o':RO}{x:Addr}
structure Cells(M:RM)(ad:RA_)(c:Ro->Option RO):Prop where
 at_:∀ r o,c r=some o->M (ad r)=some o
 inj:∀ r r' o o',c r=some o->c r'=some o'->ad r=ad r'->r=r'
open Classical in
noncomputable def upd (c:Ro->Option RO)(r:Ro)(o:RO):Ro->Option RO:=fun r'=>if r'=r then some o else c r'
open Classical in
noncomputable def upa (ad:RA_)(r:Ro)(x:Addr):RA_:=fun r'=>if r'=r then x else ad r'
theorem qah:upd c r o r=some o:=if_pos rfl
theorem qaa(h:r'≠r):upd c r o r'=c r':=if_neg h
theorem qbq:upa ad r x r=x:=if_pos rfl
theorem qaG(h:r'≠r):upa ad r x r'=ad r':=if_neg h
theorem Cells.ne(C:Cells M ad c)(h:c r=some o)(h':c r'=some o')(hr:r≠r'):ad r≠ad r':=fun z=>hr (C.inj _ _ _ _ h h' z)
theorem Cells.put(C:Cells M ad c)(h:c r=some o'):Cells (put M (ad r) o) ad (upd c r o) where
 at_:=fun s u hs=>by
  by_cases z:s=r
  · subst z;rw[qah]at hs;cases hs;exact qad
  · rw[qaa z]at hs;rw[qac (C.ne hs h z)];exact C.at_ _ _ hs
 inj:=fun s s' u u' h1 h2 e=>by
  have q:∀ {s u},upd c r o s=some u->∃ v,c s=some v:=fun {s u} hs=>by
   by_cases z:s=r
   · subst z;exact⟨_,h⟩
   · rw[qaa z]at hs;exact⟨_,hs⟩
  obtain⟨_,k1⟩:=q h1;obtain⟨_,k2⟩:=q h2;exact C.inj _ _ _ _ k1 k2 e
theorem Cells.new(C:Cells M ad c)(hx:M x=none):Cells (R.put M x o) (upa ad r x) (upd c r o) where
 at_:=fun s u hs=>by
  by_cases z:s=r
  · subst z;rw[qah]at hs;cases hs;rw[qbq];exact qad
  · rw[qaa z]at hs;rw[qaG z,qac (qaZ hx (C.at_ _ _ hs))];exact C.at_ _ _ hs
 inj:=fun s s' u u' h1 h2 e=>by
  by_cases z:s=r<;>by_cases z':s'=r
  · rw[z,z']
  · rw[z,qbq,qaG z']at e;rw[qaa z']at h2;exact absurd e.symm (qaZ hx (C.at_ _ _ h2))
  · rw[z',qbq,qaG z]at e;rw[qaa z]at h1;exact absurd e (qaZ hx (C.at_ _ _ h1))
  · rw[qaG z,qaG z']at e;rw[qaa z]at h1;rw[qaa z']at h2;exact C.inj _ _ _ _ h1 h2 e
structure Fr(M:RM)(ad:RA_)(c:Ro->Option RO)(M':RM)(ad':RA_)(c':Ro->Option RO):Prop where
 keep:∀ a o,M a=some o->(∀ r u,c r=some u->ad r≠a)->M' a=some o
 new:∀ r u,c' r=some u->(∃ r' u',c r'=some u'/\ad r'=ad' r)∨M (ad' r)=none
 mono:∀ a,M' a=none->M a=none
theorem Fr.refl:Fr M ad c M ad c:=⟨fun _ _ h _=>h,fun r u h=>.inl ⟨r,u,h,rfl⟩,fun _ h=>h⟩
theorem Fr.trans{M2:RM}{ad2:RA_}{c2:Ro->Option RO}(h:Fr M ad c M' ad' c')(k:Fr M' ad' c' M2 ad2 c2):Fr M ad c M2 ad2 c2 where
 keep:=fun a o ha hn=>k.keep a o (h.keep a o ha hn) fun r u hr e=>by
  rcases h.new r u hr with⟨r',u',h1,h2⟩|h1
  · exact hn r' u' h1 (h2.trans e)
  · rw[e,ha]at h1;cases h1
 new:=fun r u hr=>by
  rcases k.new r u hr with⟨r',u',h1,h2⟩|h1
  · rcases h.new r' u' h1 with⟨r2,u2,h3,h4⟩|h3
    · exact .inl ⟨r2,u2,h3,h4.trans h2⟩
    · exact .inr (h2 ▸ h3)
  · exact .inr (h.mono _ h1)
 mono:=fun a z=>h.mono a (k.mono a z)
theorem Fr.put(h:c r=some o'):Fr M ad c (R.put M (ad r) o) ad (upd c r o) where
 keep:=fun a u ha hn=>by rw[qac (hn r _ h).symm];exact ha
 new:=fun s u hs=>by
  by_cases z:s=r
  · exact .inl ⟨r,_,h,by rw[z]⟩
  · rw[qaa z]at hs;exact .inl ⟨s,_,hs,rfl⟩
 mono:=fun a z=>(qab z).1
theorem Fr.fresh(hx:M x=none):Fr M ad c (R.put M x o) (upa ad r x) (upd c r o) where
 keep:=fun a u ha hn=>by rw[qac (qaZ hx ha)];exact ha
 new:=fun s u hs=>by
  by_cases z:s=r
  · subst z;rw[qbq];exact .inr hx
  · rw[qaa z]at hs;rw[qaG z];exact .inl ⟨s,_,hs,rfl⟩
 mono:=fun a z=>(qab z).1
end
section
structure Tk where
 i:Inn
 id:Nat
 m:Int
 st:Str
 ov:Int
structure GS where
 now:Int
 mark:Int
 ns:List (TK×Int)
 un:List (Int×Int)
 tl:List Tk
 lb:List (Int×Nat)
 nx:Nat
 ds:LR
def qdO(i:Inn):TK:=[some (.inr i.kind),some (.inl i.place),some (.inl i.far)]
def tlA(ad:RA_)(tl:List Tk):List (TK×Addr):=tl.map fun T=>(T.i.k,ad (.tk T.id))
def outs(ad:RA_)(tl:List Tk)(m:Int):List (TK×Addr):=(tl.filter fun T=>decide (T.m=m)).map fun T=>(qdO T.i,ad (.tk T.id))
def lbA(ad:RA_)(lb:List (Int×Nat)):List (Int×Addr):=lb.map fun x=>(x.1,ad (.nb x.2))
def swp(ns:List (TK×Int)):List (Int×TK):=ns.map fun x=>(x.2,x.1)
def qal(f:Fm)(S:GS):PoolS:=⟨f.low,f.high,S.mark,S.ns.map fun x=>(x.2,()),S.un⟩
def tkO(e:Env)(T:Tk):RO:=qan e T.i.r (.int T.m) (.str T.st) (.int T.ov)
noncomputable def ct (e:Env)(ad:RA_)(f:Fm)(S:GS):Ro->Option RO
 | .g=>some (qag e f.r (.ref (ad .t)) (.ref (ad .st)) (.ref (ad .dn)) .non)
 | .t=>some (qae e f.r (.ref (ad .pl)) (.int S.now) (.ref (ad .bi)) (.ref (ad .bn)) (.ref (ad .ho)) (.ref (ad .nu)))
 | .pl=>some (qak e (.int f.low) (.int f.high) (.int S.mark) (.ref (ad .ta)) (.ref (ad .un)))
 | .ta=>some (.dk (eT (S.ns.map fun x=>(x.2,()))))
 | .un=>some (.dk (eU S.un))
 | .bi=>some (.dt (eA (tlA ad S.tl)))
 | .bn=>some (.dk (eB (lbA ad S.lb)))
 | .ho=>some (.dk (eH (swp S.ns)))
 | .nu=>some (.dt (eN S.ns))
 | .dn=>some (.lst S.ds)
 | .st=>none
 | .tk k=>(S.tl.find? fun T=>decide (T.id=k)).map (tkO e)
 | .nb k=>(S.lb.find? fun x=>decide (x.2=k)).map fun x=>.dt (eA (outs ad S.tl x.1))
abbrev qa4(e:Env)(M:RM)(ad:RA_)(f:Fm)(S:GS):Prop:=Cells M ad (ct e ad f S)
def Stp(e:Env)(M:RM)(ad:RA_)(f:Fm)(S:GS)(M':RM)(ad':RA_)(S':GS):Prop:=qa4 e M' ad' f S'/\Fr M ad (ct e ad f S) M' ad' (ct e ad' f S')/\ad' .g=ad .g/\ad' .dn=ad .dn
structure GS.Ok(f:Fm)(S:GS):Prop where
 mr:f.low<=S.mark/\S.mark<=f.high
 i1:∀ T∈S.tl,T.id<S.nx
 i2:∀ x∈S.lb,x.2<S.nx
 d1:(S.tl.map fun T=>T.i.k).Nodup
 d2:(S.lb.map (·.2)).Nodup
 d3:(S.ns.map (·.2)).Nodup
 d4:(S.ns.map (·.1)).Nodup
 d5:(S.lb.map (·.1)).Nodup
 d6:(S.tl.map (·.id)).Nodup
 tn:∀ T∈S.tl,lk S.ns (qai f T.i)=some T.m
 nb:∀ x∈S.ns,∃ k,lk S.lb x.2=some k
 bn:∀ x∈S.lb,x.1∈S.ns.map (·.2)
 hk:∀ x∈S.ns,∃ i:Inn,i.kind= "note"/\x.1=qai f i
 sz:S.tl.length<900/\S.ns.length<900/\S.lb.length<900
variable {e:Env}{M:RM}{ad:RA_}{f:Fm}{S:GS}{x y:Addr}{i:Inn}{m:Int}{k:Nat}
theorem qmc{κ β:Type}[DecidableEq κ]{k:κ}:∀ {l:List (κ×β)},(lk l k).isSome=decide (k∈l.map (·.1))
 | []=>by simp[lk]
 |(j,y)::l=>by
  rw[qaB]
  by_cases h:j=k
  · rw[if_pos h];simp[h]
  · rw[if_neg h,qmc (l:=l)]
    simp[Ne.symm h]
theorem qt9{κ β:Type}[DecidableEq κ]:∀ {l:List (κ×β)} {x:κ×β},(l.map (·.1)).Nodup->x∈l->lk l x.1=some x.2
 |(j,y)::l,x,nd,hx=>by
  rw[qaB];rw[wae,waH]at nd;rcases waf.mp hx with rfl|hx
  · rw[if_pos rfl]
  · have nd1:j∉l.map (·.1):=nd.1
    rw[if_neg (fun(z:j=x.1)=>nd1 (by rw[z];exact List.mem_map_of_mem (f:=(·.1)) hx)),qt9 nd.2 hx]
theorem qhb{α β:Type}{g:α->β}:∀ {l:List α} {a b:α},(l.map g).Nodup->a∈l->b∈l->g a=g b->a=b
 |z::l,a,b,nd,ha,hb,h=>by
  rw[wae,waH]at nd;rcases waf.mp ha with z1|ha<;>rcases waf.mp hb with z2|hb
  · rw[z1,z2]
  · exact absurd (wan.mpr ⟨b,hb,by rw[<-h,z1]⟩) nd.1
  · exact absurd (wan.mpr ⟨a,ha,by rw[h,z2]⟩) nd.1
  · exact qhb nd.2 ha hb h
theorem lk_none{κ β:Type}[DecidableEq κ]{l:List (κ×β)}{k:κ}:lk l k=none↔k∉l.map (·.1):=by
 have:=qmc (l:=l) (k:=k);cases e:lk l k with
 |none=>rw[e]at this;simpa using this.symm
 |some y=>rw[e]at this;simpa using this.symm
theorem qdS{κ β:Type}[DecidableEq κ]{k:κ}{y:β}:∀ {l:List (κ×β)},lk l k=some y->(k,y)∈l
 |(j,z)::l,h=>by
  rw[qaB]at h
  by_cases q:j=k
  · rw[if_pos q]at h;cases h;rw[q];exact .head _
  · rw[if_neg q]at h;exact .tail _ (qdS h)
theorem qhg{κ β γ:Type}[DecidableEq κ]{k:κ}{g:β->γ}:∀ {l:List (κ×β)},lk (l.map fun x=>(x.1,g x.2)) k=(lk l k).map g
 | []=>rfl
 |(j,z)::l=>by
  show lk ((j,g z)::l.map fun x=>(x.1,g x.2)) k=_
  rw[qaB,qaB]
  by_cases q:j=k
  · rw[if_pos q,if_pos q];rfl
  · rw[if_neg q,if_neg q];exact qhg
theorem qk4(h:∀ T∈S.tl,T.id<S.nx):tlA (upa ad (.tk S.nx) x) S.tl=tlA ad S.tl:=waE fun T hT=>by
 rw[qaG];intro z;injection z with z;have:=h T hT;omega
theorem qf4(h:∀ T∈S.tl,T.id<S.nx):outs (upa ad (.tk S.nx) x) S.tl m=outs ad S.tl m:=waE fun T hT=>by
 rw[qaG];intro z;injection z with z;have:=h T (waR.mp hT).1;omega
theorem qmN{i j:Inn}(h:qai f i=qai f j)(ho:qdO i=qdO j):i=j:=by
 cases i;cases j;unfold qdO at ho;simp only[List.cons.injEq,Option.some.injEq,Sum.inr.injEq,Sum.inl.injEq,and_true]at ho;obtain⟨rfl,rfl,rfl⟩:=ho;unfold qai Inn.k at h;split at h
 · simp only[List.cons.injEq,Option.some.injEq,Sum.inr.injEq,Sum.inl.injEq,and_true,true_and]at h;obtain⟨rfl,rfl⟩:=h;rfl
 · split at h<;>(simp only[List.cons.injEq,Option.some.injEq,Sum.inr.injEq,Sum.inl.injEq,and_true,true_and]at h;obtain⟨rfl,rfl⟩:=h;rfl)
theorem qol(ok:S.Ok f)(hm:lk S.ns (qai f i)=some m)(hn:i.k∉S.tl.map fun T=>T.i.k):lk (outs ad S.tl m) (qdO i)=none:=by
 rw[lk_none];intro z;obtain⟨p,hp,hp2⟩:=wan.mp z;obtain⟨T,hT,rfl⟩:=wan.mp hp;obtain⟨hT,hTm⟩:=waR.mp hT;have hTm:T.m=m:=by simpa using hTm
 have h1:=qdS (ok.tn T hT);have h2:=qdS hm;rw[hTm]at h1;have h3:qai f T.i=qai f i:=by
  have:=qhb ok.d3 h1 h2 rfl;injection this
 exact hn (wan.mpr ⟨T,hT,by rw[qmN h3 hp2]⟩)
noncomputable def GS.begun (S:GS)(f:Fm)(i:Inn)(m:Int):GS:={ S with tl:=S.tl++ [⟨i,S.nx,m,"note",S.now+f.t0⟩],nx:=S.nx+1 }
theorem qjI{tl:List Tk}{T:Tk}{j:Nat}(h:∀ U∈tl,U.id<T.id):(tl++ [T]).find? (fun U=>decide (U.id=j))=if j=T.id then some T else tl.find? fun U=>decide (U.id=j):=by
 rw[List.find?_append]
 by_cases z:j=T.id
 · rw[if_pos z,List.find?_eq_none.mpr fun U hU=>by have:=h U hU;simp;omega]
   simp[z]
 · rw[if_neg z]
   cases tl.find? fun U=>decide (U.id=j)with
   |some U=>rfl
   |none=>simp[Ne.symm z]
theorem qd5{tl:List Tk}{T:Tk}:outs ad (tl++ [T]) m=outs ad tl m++if T.m=m then [(qdO T.i,ad (.tk T.id))]else []:=by
 unfold outs;rw[List.filter_append,wao]
 by_cases z:T.m=m<;>simp[z]
theorem qgk{lb:List (Int×Nat)}(nd:(lb.map (·.2)).Nodup){p:Int×Nat}(hp:p∈lb):lb.find? (fun x=>decide (x.2=p.2))=some p:=by
 cases e:lb.find? fun x=>decide (x.2=p.2)with
 |none=>rw[List.find?_eq_none]at e;exact absurd (decide_eq_true rfl) (e p hp)
 |some q=>
  have h1:=List.find?_some (p:=fun x:Int×Nat=>decide (x.2=p.2)) e
  exact congrArg some (qhb nd (List.mem_of_find?_eq_some e) hp (by simpa using h1))
theorem qja{tl:List Tk}(nd:(tl.map (·.id)).Nodup){p:Tk}(hp:p∈tl):tl.find? (fun x=>decide (x.id=p.id))=some p:=by
 cases e:tl.find? fun x=>decide (x.id=p.id)with
 |none=>rw[List.find?_eq_none]at e;exact absurd (decide_eq_true rfl) (e p hp)
 |some q=>
  have h1:=List.find?_some (p:=fun x:Tk=>decide (x.id=p.id)) e
  exact congrArg some (qhb nd (List.mem_of_find?_eq_some e) hp (by simpa using h1))
theorem qqj(G:qa4 e M ad f S)(ok:S.Ok f)(hm:lk S.ns (qai f i)=some m)(hb:lk S.lb m=some k)(hn:i.k∉S.tl.map fun T=>T.i.k)(hx:M x=none):
 Stp e M ad f S (put (put (put M x (qan e i.r (.int m) (.str "note") (.int (S.now+f.t0)))) (ad .bi) (.dt (eA (pt (tlA ad S.tl) i.k x)))) (ad (.nb k)) (.dt (eA (pt (outs ad S.tl m) (qdO i) x)))) (upa ad (.tk S.nx) x) (S.begun f i m):=by
 have hk:=qgk ok.d2 (qdS hb);have ek:ct e ad f S (.nb k)=some (.dt (eA (outs ad S.tl m))):=by show Option.map _ (S.lb.find? fun x=>decide (x.2=k))=_;rw[hk];rfl
 have C1:=Cells.new (r:=.tk S.nx) (o:=qan e i.r (.int m) (.str "note") (.int (S.now+f.t0))) G hx;have F1:=Fr.fresh (ad:=ad) (c:=ct e ad f S) (r:=.tk S.nx) (o:=qan e i.r (.int m) (.str "note") (.int (S.now+f.t0))) hx;have C2:=C1.put (r:=.bi) (o:=.dt (eA (pt (tlA ad S.tl) i.k x))) (qaa (fun z=>by cases z))
 have F2:=F1.trans (Fr.put (r:=.bi) (o:=.dt (eA (pt (tlA ad S.tl) i.k x))) (qaa (fun z=>by cases z)))
 have C3:=C2.put (r:=.nb k) (o:=.dt (eA (pt (outs ad S.tl m) (qdO i) x))) ((qaa (fun z=>by cases z)).trans ((qaa (fun z=>by cases z)).trans ek))
 have F3:=F2.trans (Fr.put (r:=.nb k) (o:=.dt (eA (pt (outs ad S.tl m) (qdO i) x))) ((qaa (fun z=>by cases z)).trans ((qaa (fun z=>by cases z)).trans ek)))
 have e1:upa ad (.tk S.nx) x .bi=ad .bi:=qaG (fun z=>by cases z)
 have e2:upa ad (.tk S.nx) x (.nb k)=ad (.nb k):=qaG (fun z=>by cases z)
 rw[e1,e2]at C3 F3;have key:ct e (upa ad (.tk S.nx) x) f (S.begun f i m)=upd (upd (upd (ct e ad f S) (.tk S.nx) (qan e i.r (.int m) (.str "note") (.int (S.now+f.t0)))) .bi (.dt (eA (pt (tlA ad S.tl) i.k x)))) (.nb k) (.dt (eA (pt (outs ad S.tl m) (qdO i) x))):=by
  funext r;cases r with
  |bi=>
   rw[qaa (fun z=>by cases z),qah]
   show some (RO.dt (eA (tlA (upa ad (.tk S.nx) x) (S.tl++ [_]))))=_;rw[qdw (lk_none.mpr (by unfold tlA;rw[was];exact hn)),<-qk4 (ad:=ad) (x:=x) ok.i1]
   unfold tlA;rw[wao,wae,qbq];rfl
  |bn=>
   rw[qaa (fun z=>by cases z),qaa (fun z=>by cases z),qaa (fun z=>by cases z)]
   show some (RO.dk (eB (lbA _ S.lb)))=some (RO.dk (eB (lbA _ S.lb)));unfold lbA;congr 4;funext z;rw[qaG (fun z=>by cases z)]
  |tk j=>
   rw[qaa (fun z=>by cases z),qaa (fun z=>by cases z)]
   show Option.map _ (List.find? _ (S.tl++ [_]))=_;rw[qjI ok.i1]
   by_cases z:j=S.nx
   · rw[if_pos z,z,qah];rfl
   · rw[if_neg z,qaa (fun q=>by injection q with q;exact z q)];rfl
  |nb j=>
   show Option.map _ (List.find? _ S.lb)=_
   by_cases z:j=k
   · subst z
     rw[qah,hk];show some (RO.dt (eA (outs (upa ad (.tk S.nx) x) (S.tl++ [_]) m)))=_;rw[qd5,qf4 ok.i1,if_pos rfl,qdw (qol ok hm hn),qbq]
   · rw[qaa (fun q=>by injection q with q;exact z q),qaa (fun z=>by cases z),qaa (fun z=>by cases z)]
     show _=Option.map _ (List.find? _ S.lb);cases ej:S.lb.find? fun x=>decide (x.2=j)with
     |none=>rfl
     |some p=>
      have hp:=List.mem_of_find?_eq_some ej;have hj:p.2=j:=by simpa using List.find?_some (p:=fun x:Int×Nat=>decide (x.2=j)) ej
      have hpm:¬m=p.1:=fun q=>z (by rw[<-hj,qhb ok.d5 hp (qdS hb) q.symm])
      show some (RO.dt (eA (outs (upa ad (.tk S.nx) x) (S.tl++ [_]) p.1)))=some (RO.dt (eA (outs ad S.tl p.1)));rw[qd5,qf4 ok.i1,if_neg hpm,waQ]
  |_=>simp[ct,upd,upa,GS.begun]
 unfold Stp qa4;rw[key];exact⟨C3,F3,qaG (fun z=>by cases z),qaG (fun z=>by cases z)⟩
end
section
variable {e:Env}{M:RM}{ad:RA_}{f:Fm}{S:GS}{x y:Addr}{i:Inn}{m:Int}{k:Nat}
noncomputable def GS.lent (S:GS)(f:Fm)(i:Inn)(m:Int):GS:={ S with ns:=S.ns++ [(qai f i,m)],mark:=((qal f S).take m).mark,tl:=S.tl++ [⟨i,S.nx,m,"note",S.now+f.t0⟩],lb:=S.lb++ [(m,S.nx+1)],nx:=S.nx+2 }
theorem qoN{lb:List (Int×Nat)}{j n:Nat}(h:∀ x∈lb,x.2<n):(lb++ [(m,n)]).find? (fun x=>decide (x.2=j))=if j=n then some (m,n)else lb.find? fun x=>decide (x.2=j):=by
 rw[List.find?_append]
 by_cases z:j=n
 · rw[if_pos z,List.find?_eq_none.mpr fun U hU=>by have:=h U hU;simp;omega]
   simp[z]
 · rw[if_neg z]
   cases lb.find? fun x=>decide (x.2=j)with
   |some U=>rfl
   |none=>simp[Ne.symm z]
theorem qsL(G:qa4 e M ad f S)(ok:S.Ok f)(hm:lk S.ns (qai f i)=none)(m3:m∉S.ns.map (·.2))(hn:i.k∉S.tl.map fun T=>T.i.k)(hx:M x=none)(hy:M y=none)(hxy:y≠x):
 Stp e M ad f S (put (put (put (put (put (put (put (put M (ad .ta) (.dk (eT ((qal f S).take m).taken))) (ad .pl) (qak e (.int f.low) (.int f.high) (.int ((qal f S).take m).mark) (.ref (ad .ta)) (.ref (ad .un)))) (ad .ho) (.dk (eH (pt (swp S.ns) m (qai f i))))) (ad .nu) (.dt (eN (pt S.ns (qai f i) m))))
  x (qan e i.r (.int m) (.str "note") (.int (S.now+f.t0)))) (ad .bi) (.dt (eA (pt (tlA ad S.tl) i.k x)))) y (.dt (eA [(qdO i,x)]))) (ad .bn) (.dk (eB (lbA ad S.lb++ [(m,y)])))) (upa (upa ad (.tk S.nx) x) (.nb (S.nx+1)) y) (S.lent f i m):=by
 have ne:∀ {r r':Ro},(∀ h:r=r',False)->r≠r':=fun h=>h
 have C1:=G.put (r:=.ta) (o:=.dk (eT ((qal f S).take m).taken)) rfl;have F1:=Fr.put (M:=M) (ad:=ad) (r:=.ta) (o:=.dk (eT ((qal f S).take m).taken)) (c:=ct e ad f S) rfl;have C2:=C1.put (r:=.pl) (o:=qak e (.int f.low) (.int f.high) (.int ((qal f S).take m).mark) (.ref (ad .ta)) (.ref (ad .un))) (qaa (fun z=>by cases z))
 have F2:=F1.trans (Fr.put (r:=.pl) (o:=qak e (.int f.low) (.int f.high) (.int ((qal f S).take m).mark) (.ref (ad .ta)) (.ref (ad .un))) (qaa (fun z=>by cases z)))
 have C3:=C2.put (r:=.ho) (o:=.dk (eH (pt (swp S.ns) m (qai f i)))) ((qaa (fun z=>by cases z)).trans (qaa (fun z=>by cases z)))
 have F3:=F2.trans (Fr.put (r:=.ho) (o:=.dk (eH (pt (swp S.ns) m (qai f i)))) ((qaa (fun z=>by cases z)).trans (qaa (fun z=>by cases z))))
 have C4:=C3.put (r:=.nu) (o:=.dt (eN (pt S.ns (qai f i) m))) ((qaa (fun z=>by cases z)).trans ((qaa (fun z=>by cases z)).trans (qaa (fun z=>by cases z))))
 have F4:=F3.trans (Fr.put (r:=.nu) (o:=.dt (eN (pt S.ns (qai f i) m))) ((qaa (fun z=>by cases z)).trans ((qaa (fun z=>by cases z)).trans (qaa (fun z=>by cases z)))))
 have hx4:put (put (put (put M (ad .ta) (.dk (eT ((qal f S).take m).taken))) (ad .pl) (qak e (.int f.low) (.int f.high) (.int ((qal f S).take m).mark) (.ref (ad .ta)) (.ref (ad .un)))) (ad .ho) (.dk (eH (pt (swp S.ns) m (qai f i))))) (ad .nu) (.dt (eN (pt S.ns (qai f i) m))) x=none:=by
  have q:∀ r o,ct e ad f S r=some o->x≠ad r:=fun r o h=>(qaZ hx (G.at_ r o h)).symm
  rw[qac (q .nu _ rfl),qac (q .ho _ rfl),qac (q .pl _ rfl),qac (q .ta _ rfl)];exact hx
 have C5:=Cells.new (r:=.tk S.nx) (o:=qan e i.r (.int m) (.str "note") (.int (S.now+f.t0))) C4 hx4;have F5:=F4.trans (Fr.fresh (r:=.tk S.nx) (o:=qan e i.r (.int m) (.str "note") (.int (S.now+f.t0))) hx4);have b0:upd (upd (upd (upd (upd (ct e ad f S) .ta (.dk (eT ((qal f S).take m).taken))) .pl (qak e (.int f.low) (.int f.high) (.int ((qal f S).take m).mark) (.ref (ad .ta)) (.ref (ad .un)))) .ho (.dk (eH (pt (swp S.ns) m (qai f i))))) .nu (.dt (eN (pt S.ns (qai f i) m)))) (.tk S.nx) (qan e i.r (.int m) (.str "note") (.int (S.now+f.t0))) .bi=some (.dt (eA (tlA ad S.tl))):=by simp[upd,ct]
 have C6:=C5.put (r:=.bi) (o:=.dt (eA (pt (tlA ad S.tl) i.k x))) b0;have F6:=F5.trans (Fr.put (r:=.bi) (o:=.dt (eA (pt (tlA ad S.tl) i.k x))) b0);have e1:upa ad (.tk S.nx) x .bi=ad .bi:=qaG (fun z=>by cases z)
 rw[e1]at C6 F6;have hy6:put (put (put (put (put (put M (ad .ta) (.dk (eT ((qal f S).take m).taken))) (ad .pl) (qak e (.int f.low) (.int f.high) (.int ((qal f S).take m).mark) (.ref (ad .ta)) (.ref (ad .un)))) (ad .ho) (.dk (eH (pt (swp S.ns) m (qai f i))))) (ad .nu) (.dt (eN (pt S.ns (qai f i) m)))) x (qan e i.r (.int m) (.str "note") (.int (S.now+f.t0)))) (ad .bi) (.dt (eA (pt (tlA ad S.tl) i.k x))) y=none:=by
  have q:∀ r o,ct e ad f S r=some o->y≠ad r:=fun r o h=>(qaZ hy (G.at_ r o h)).symm
  rw[qac (q .bi _ rfl),qac hxy,qac (q .nu _ rfl),qac (q .ho _ rfl),qac (q .pl _ rfl),qac (q .ta _ rfl)];exact hy
 have C7:=Cells.new (r:=.nb (S.nx+1)) (o:=.dt (eA [(qdO i,x)])) C6 hy6;have F7:=F6.trans (Fr.fresh (r:=.nb (S.nx+1)) (o:=.dt (eA [(qdO i,x)])) hy6);have b1:upd (upd (upd (upd (upd (upd (upd (ct e ad f S) .ta (.dk (eT ((qal f S).take m).taken))) .pl (qak e (.int f.low) (.int f.high) (.int ((qal f S).take m).mark) (.ref (ad .ta)) (.ref (ad .un)))) .ho (.dk (eH (pt (swp S.ns) m (qai f i))))) .nu (.dt (eN (pt S.ns (qai f i) m)))) (.tk S.nx) (qan e i.r (.int m) (.str "note") (.int (S.now+f.t0)))) .bi (.dt (eA (pt (tlA ad S.tl) i.k x)))) (.nb (S.nx+1)) (.dt (eA [(qdO i,x)])) .bn=some (.dk (eB (lbA ad S.lb))):=by simp[upd,ct]
 have C8:=C7.put (r:=.bn) (o:=.dk (eB (lbA ad S.lb++ [(m,y)]))) b1;have F8:=F7.trans (Fr.put (r:=.bn) (o:=.dk (eB (lbA ad S.lb++ [(m,y)]))) b1);have e2:upa (upa ad (.tk S.nx) x) (.nb (S.nx+1)) y .bn=ad .bn:=(qaG (fun z=>by cases z)).trans (qaG (fun z=>by cases z))
 rw[e2]at C8 F8;have key:ct e (upa (upa ad (.tk S.nx) x) (.nb (S.nx+1)) y) f (S.lent f i m)=upd (upd (upd (upd (upd (upd (upd (upd (ct e ad f S) .ta (.dk (eT ((qal f S).take m).taken))) .pl (qak e (.int f.low) (.int f.high) (.int ((qal f S).take m).mark) (.ref (ad .ta)) (.ref (ad .un)))) .ho (.dk (eH (pt (swp S.ns) m (qai f i))))) .nu (.dt (eN (pt S.ns (qai f i) m)))) (.tk S.nx) (qan e i.r (.int m) (.str "note") (.int (S.now+f.t0)))) .bi (.dt (eA (pt (tlA ad S.tl) i.k x)))) (.nb (S.nx+1)) (.dt (eA [(qdO i,x)]))) .bn (.dk (eB (lbA ad S.lb++ [(m,y)]))):=by
  have tA:tlA (upa (upa ad (.tk S.nx) x) (.nb (S.nx+1)) y) S.tl=tlA ad S.tl:=(waE fun T hT=>by rw[qaG (fun z=>by cases z)]).trans (qk4 ok.i1)
  have oA:∀ q,outs (upa (upa ad (.tk S.nx) x) (.nb (S.nx+1)) y) S.tl q=outs ad S.tl q:=fun q=>(waE fun T hT=>by rw[qaG (fun z=>by cases z)]).trans (qf4 ok.i1)
  have tx:upa (upa ad (.tk S.nx) x) (.nb (S.nx+1)) y (.tk S.nx)=x:=(qaG (fun z=>by cases z)).trans qbq
  funext r;cases r with
  |ta=>
   simp only[upd,reduceCtorEq,if_false,if_true];show some (RO.dk (eT ((S.ns++ [_]).map _)))=some (RO.dk (eT (pt (S.ns.map _) m ())));rw[qdw (lk_none.mpr (by rw[was];exact m3)),wao];rfl
  |ho=>
   simp only[upd,reduceCtorEq,if_false,if_true];rw[qdw (lk_none.mpr (by unfold swp;rw[was];exact m3))]
   show some (RO.dk (eH (swp (S.ns++ [_]))))=_;unfold swp;rw[wao];rfl
  |nu=>
   simp only[upd,reduceCtorEq,if_false,if_true];rw[qdw hm];rfl
  |bi=>
   simp only[upd,reduceCtorEq,if_false,if_true];show some (RO.dt (eA (tlA _ (S.tl++ [_]))))=_;rw[qdw (lk_none.mpr (by unfold tlA;rw[was];exact hn)),<-tA]
   unfold tlA;rw[wao,wae,tx];rfl
  |bn=>
   simp only[upd,if_true];show some (RO.dk (eB (lbA _ (S.lb++ [_]))))=_;unfold lbA;rw[wao,wae,qbq];congr 4;refine waE fun z hz=>?_
   rw[qaG (fun q=>by injection q with q;have:=ok.i2 z hz;omega),qaG (fun z=>by cases z)]
  |tk j=>
   have h2:upd (upd (upd (upd (ct e ad f S) .ta (.dk (eT ((qal f S).take m).taken))) .pl (qak e (.int f.low) (.int f.high) (.int ((qal f S).take m).mark) (.ref (ad .ta)) (.ref (ad .un)))) .ho (.dk (eH (pt (swp S.ns) m (qai f i))))) .nu (.dt (eN (pt S.ns (qai f i) m))) (.tk j)=ct e ad f S (.tk j):=by simp[upd]
   rw[qaa (fun z=>by cases z),qaa (fun z=>by cases z),qaa (fun z=>by cases z)]
   show Option.map _ (List.find? _ (S.tl++ [_]))=_;rw[qjI ok.i1]
   by_cases z:j=S.nx
   · rw[if_pos z,z,qah];rfl
   · rw[if_neg z,qaa (fun q=>by injection q with q;exact z q),h2];rfl
  |nb j=>
   rw[qaa (fun z=>by cases z)]
   show Option.map _ (List.find? _ (S.lb++ [_]))=_;rw[qoN (fun z hz=>waG (ok.i2 z hz))]
   by_cases z:j=S.nx+1
   · rw[if_pos z,z,qah]
     show some (RO.dt (eA (outs _ (S.tl++ [_]) m)))=_;rw[qd5,oA,if_pos rfl,tx];have:outs ad S.tl m= []:=by
      unfold outs;rw[List.filter_eq_nil_iff.mpr fun T hT=>by
       have:=List.mem_map_of_mem (f:=(·.2)) (qdS (ok.tn T hT))
       intro q;have q:T.m=m:=by simpa using q
       exact m3 (q ▸ this)]
      rfl
     rw[this];rfl
   · rw[if_neg z,qaa (fun q=>by injection q with q;exact z q)]
     have h2:upd (upd (upd (upd (upd (upd (ct e ad f S) .ta (.dk (eT ((qal f S).take m).taken))) .pl (qak e (.int f.low) (.int f.high) (.int ((qal f S).take m).mark) (.ref (ad .ta)) (.ref (ad .un)))) .ho (.dk (eH (pt (swp S.ns) m (qai f i))))) .nu (.dt (eN (pt S.ns (qai f i) m)))) (.tk S.nx) (qan e i.r (.int m) (.str "note") (.int (S.now+f.t0)))) .bi (.dt (eA (pt (tlA ad S.tl) i.k x))) (.nb j)=ct e ad f S (.nb j):=by simp[upd]
     rw[h2];show _=Option.map _ (List.find? _ S.lb);cases ej:S.lb.find? fun x=>decide (x.2=j)with
     |none=>rfl
     |some p=>
      have hp:=List.mem_of_find?_eq_some ej;have hpm:¬m=p.1:=fun q=>m3 (q ▸ ok.bn p hp)
      show some (RO.dt (eA (outs _ (S.tl++ [_]) p.1)))=some (RO.dt (eA (outs ad S.tl p.1)));rw[qd5,oA,if_neg hpm,waQ]
  |_=>simp[ct,upd,upa,GS.lent]
 unfold Stp qa4;rw[key];exact⟨C8,F8,(qaG (fun z=>by cases z)).trans (qaG (fun z=>by cases z)),(qaG (fun z=>by cases z)).trans (qaG (fun z=>by cases z))⟩
end
section
variable {e:Env}{n:Nat}{M:RM}{Q:RVK}{ad:RA_}{f:Fm}{S:GS}{x y:Addr}{i:Inn}{m:Int}{k:Nat}
theorem Stp.refl(G:qa4 e M ad f S):Stp e M ad f S M ad S:=⟨G,Fr.refl,rfl,rfl⟩
theorem Stp.trans{M1 M2:RM}{a1 a2:RA_}{S1 S2:GS}(h:Stp e M ad f S M1 a1 S1)(k:Stp e M1 a1 f S1 M2 a2 S2):Stp e M ad f S M2 a2 S2:=⟨k.1,h.2.1.trans k.2.1,k.2.2.1.trans h.2.2.1,k.2.2.2.trans h.2.2.2⟩
noncomputable def GS.wrote (S:GS)(v:RV):GS:={ S with ds:=S.ds++ [v] }
theorem qpf{v:RV}(G:qa4 e M ad f S):Stp e M ad f S (put M (ad .dn) (.lst (S.ds++ [v]))) ad (S.wrote v):=by
 have C:=G.put (r:=.dn) (o:=.lst (S.ds++ [v])) rfl;have F:=Fr.put (M:=M) (ad:=ad) (r:=.dn) (o:=.lst (S.ds++ [v])) (c:=ct e ad f S) rfl;have key:ct e ad f (S.wrote v)=upd (ct e ad f S) .dn (.lst (S.ds++ [v])):=by
  funext r;cases r with
  |tk j=>rw[qaa (fun z=>by cases z)];rfl
  |nb j=>rw[qaa (fun z=>by cases z)];rfl
  |_=>simp[ct,upd,GS.wrote]
 unfold Stp qa4;rw[key];exact⟨C,F,rfl,rfl⟩
theorem qoF(ok:S.Ok f):∀ z∈swp S.ns,∃ k j r,z.2=k::some (.inl j)::r:=fun z hz=>by
 obtain⟨w,hw,rfl⟩:=wan.mp hz;obtain⟨i,_,hi⟩:=ok.hk w hw;show ∃ k j r,w.1=_;rw[hi];unfold qai Inn.k;split
 · exact⟨_,_,_,rfl⟩
 · split<;>exact⟨_,_,_,rfl⟩
theorem qgZ{rs rd rp rbi rbn:RV}{i:Inn}{now:RV}{g t ho nu:Addr}{hs:List (Int×TK)}{ns:List (TK×Int)}(hg:M g=some (qag e f.r (.ref t) rs rd .non))(ht:M t=some (qae e f.r rp now rbi rbn (.ref ho) (.ref nu)))
 (h3:M ho=some (.dk (eH hs))) (h4:M nu=some (.dt (eN ns))) (hm:lk ns (qai f i)=none) (hh:∀ x∈hs,∃ k j r,x.2=k::some (.inl j)::r) (hl:hs.length<1000) (hmost:f.most<=((qdV hs i.house).length:Int))
 (hq:Q (.tup [.str "kept",.str "most"]) M):sem (P e) (n+5) 52 [.ref g,i.r,.str "note"] M Q:=by
 have k1:∀ {M:RM} {Q:RVK},rIx i.r (.int 1) M Q=Q (.int i.house) M:=i_1;have k5:∀ {M:RM} {Q:RVK},rIx f.r (.int 5) M Q=Q (.int f.most) M:=f_5;rw[us (i:=52) (d:=qaf) rfl];simp only[qaf];walk_at "evs";rw[qbP ht h4,hm,qcH];walk_at "evs";refine qlG ht h3 hh hl ?_;walk_at "evs";rw[if_pos (by rw[wab];simp;omega)]
 first|exact hq|trivial
theorem qg0{rs rd rbi rbn:RV}{i:Inn}{nw:Int}{p:PoolS}{g t pl ta un ho nu:Addr}{hs:List (Int×TK)}{ns:List (TK×Int)}(okp:p.Ok)(hg:M g=some (qag e f.r (.ref t) rs rd .non))(ht:M t=some (qae e f.r (.ref pl) (.int nw) rbi rbn (.ref ho) (.ref nu)))(hp:qb8 e M pl ta un p)
 (h3:M ho=some (.dk (eH hs))) (h4:M nu=some (.dt (eN ns))) (hm:lk ns (qai f i)=none) (hh:∀ x∈hs,∃ k j r,x.2=k::some (.inl j)::r) (hl:hs.length<1000) (hmost:((qdV hs i.house).length:Int)<f.most) (hpick:p.pick (f.pick== "keep") i.door nw=none)
 (hq:Q (.tup [.str "kept",.str "full"]) M):sem (P e) (n+5) 52 [.ref g,i.r,.str "note"] M Q:=by
 have k1:∀ {M:RM} {Q:RVK},rIx i.r (.int 1) M Q=Q (.int i.house) M:=i_1;have k2:∀ {M:RM} {Q:RVK},rIx i.r (.int 2) M Q=Q (.int i.door) M:=i_2;have k5:∀ {M:RM} {Q:RVK},rIx f.r (.int 5) M Q=Q (.int f.most) M:=f_5;rw[us (i:=52) (d:=qaf) rfl];simp only[qaf];walk_at "evs";rw[qbP ht h4,hm,qcH];walk_at "evs";refine qlG ht h3 hh hl ?_;walk_at "evs";rw[if_neg (by rw[wab];simp;omega)]
 refine qdv okp hg ht hp ?_;rw[hpick,qcH];walk_at "evs"
def led(m:Int):RV:=.tup [.str "led",.int m]
def kept(w:Str):RV:=.tup [.str "kept",.str w]
noncomputable def GS.out1 (S:GS)(f:Fm)(i:Inn):GS×RV:=match S.tl.find? fun T=>decide (T.i.k=i.k)with
 |some T=>(S,led T.m)
 |none=>match lk S.ns (qai f i)with
  |some m=>(S.begun f i m,led m)
  |none=>if f.most<=((qdV (swp S.ns) i.house).length:Int)then(S,kept "most")else match(qal f S).pick (f.pick== "keep") i.door S.now with
   |none=>(S,kept "full")
   |some m=>(S.lent f i m,led m)
theorem qlQ(G:qa4 e M ad f S):qb8 e M (ad .pl) (ad .ta) (ad .un) (qal f S):=⟨G.at_ .pl _ rfl,G.at_ .ta _ rfl,G.at_ .un _ rfl⟩
theorem qlP(okf:f.Ok)(ok:S.Ok f):(qal f S).Ok:=⟨okf.lo,ok.mr.1,ok.mr.2,okf.hi,okf.wide⟩
theorem qg5{p:PoolS}{b:Bool}{d t:Int}(h:p.pick b d t=some m):p.free m t=true:=by
 unfold PoolS.pick at h;split at h
 · rename_i z;cases h;exact(waa _ _ ▸ z).2
 · exact List.find?_some (p:=fun i=>p.free i t) h
theorem qoM(h:(qal f S).free m S.now=true):m∉S.ns.map (·.2)/\f.low<=m/\m<=f.high:=by
 unfold PoolS.free PoolS.has qal at h;simp only[waa,decide_eq_true_eq,Bool.not_eq_true']at h;refine⟨fun z=>?_,h.1.1.1,h.1.1.2⟩
 have:=qmc (l:=S.ns.map fun x=>(x.2,())) (k:=m)
 rw[h.1.2,was]at this;exact absurd z (by simpa using this)
theorem qj3(okf:f.Ok)(G:qa4 e M ad f S)(ok:S.Ok f)(tb:Tb e)(hk:i.kind= "note")(hun:S.un= [])(hT:∀ T∈S.tl,T.st= "note"/\T.ov=S.now+f.t0)
 (hq:∀ M' ad',Stp e M ad f S M' ad' (S.out1 f i).1->Q (S.out1 f i).2 M'):sem (P e) (n+6) 51 [.ref (ad .g),i.r,.str "say"] M Q:=by
 have hg:=G.at_ .g _ rfl;have ht:=G.at_ .t _ rfl;have h1:=G.at_ .bi _ rfl;have h2:=G.at_ .bn _ rfl;have h3:=G.at_ .ho _ rfl;have h4:=G.at_ .nu _ rfl;unfold GS.out1 at hq;cases ef:S.tl.find? fun T=>decide (T.i.k=i.k)with
 |some T=>
  rw[ef]at hq;have hTm:=List.mem_of_find?_eq_some ef;have hTk:T.i.k=i.k:=by simpa using List.find?_some (p:=fun T:Tk=>decide (T.i.k=i.k)) ef
  have hx:M (ad (.tk T.id))=some (qan e T.i.r (.int T.m) (.str "note") (.int (S.now+f.t0))):=by
   refine G.at_ (.tk T.id) _ ?_;show Option.map _ (S.tl.find? fun U=>decide (U.id=T.id))=_
   rw[qja ok.d6 hTm,<-(hT T hTm).2,<-(hT T hTm).1];rfl
  refine qe8 tb hk hg ht h1 (x:=ad (.tk T.id)) (m:=T.m) ?_ hx ?_
  · rw[<-hTk]
    exact qt9 (x:=(T.i.k,ad (.tk T.id))) (by unfold tlA;rw[was];exact ok.d1) (wan.mpr ⟨T,hTm,rfl⟩)
  · rw[qd3 hx]
    exact hq M ad (Stp.refl G)
 |none=>
  rw[ef]at hq;have hn:i.k∉S.tl.map fun T=>T.i.k:=fun z=>by
   obtain⟨T,hT,e1⟩:=wan.mp z;rw[List.find?_eq_none]at ef;exact ef T hT (by simpa using e1)
  have hl:lk (tlA ad S.tl) i.k=none:=lk_none.mpr (by unfold tlA;rw[was];exact hn)
  refine qe9 hk hg ht h1 hl ?_;cases em:lk S.ns (qai f i)with
  |some m=>
   rw[em]at hq;obtain⟨k,hb⟩:=ok.nb _ (qdS em);have hbA:lk (lbA ad S.lb) m=some (ad (.nb k)):=by unfold lbA;rw[qhg (g:=fun k=>ad (.nb k)),hb];rfl
   have hkk:=qgk ok.d2 (qdS hb);have h5:M (ad (.nb k))=some (.dt (eA (outs ad S.tl m))):=G.at_ (.nb k) _ (by show Option.map _ (S.lb.find? fun x=>decide (x.2=k))=_;rw[hkk];rfl)
   refine qfY (n:=n+1) tb hg ht h1 h2 h4 em hbA h5 (by unfold tlA;rw[wab];have:=ok.sz.1;omega) ?_ (G.ne (r:=.nb k) (r':=.bi) (by show Option.map _ (S.lb.find? fun x=>decide (x.2=k))=_;rw[hkk];rfl) rfl (fun z=>by cases z)) fun x hx=>?_
   · unfold outs
     rw[wab];have:=wa3 (fun T:Tk=>decide (T.m=m)) S.tl
     have:=ok.sz.1;omega
   · exact hq _ _ (qqj G ok em hb hn hx)
  |none=>
   rw[em]at hq;have hsh:=qoF ok;have hsl:(swp S.ns).length<1000:=by unfold swp;rw[wab];have:=ok.sz.2.1;omega
   by_cases hmost:f.most<=((qdV (swp S.ns) i.house).length:Int)
   · simp only[if_pos hmost]at hq
     exact qgZ hg ht h3 h4 em hsh hsl hmost (hq M ad (Stp.refl G))
   · simp only[if_neg hmost]at hq
     cases ep:(qal f S).pick (f.pick== "keep") i.door S.now with
     |none=>
      rw[ep]at hq;exact qg0 (qlP okf ok) hg ht (qlQ G) h3 h4 em hsh hsl (by omega) ep (hq M ad (Stp.refl G))
     |some m=>
      rw[ep]at hq;obtain⟨f1,f2,f3⟩:=qoM (qg5 ep);have hb:lk (lbA ad S.lb) m=none:=lk_none.mpr (by
       unfold lbA;rw[was];intro z;obtain⟨p,hp,rfl⟩:=wan.mp z;exact f1 (ok.bn p hp))
      have nn:∀ {r r':Ro} {o o':RO},ct e ad f S r=some o->ct e ad f S r'=some o'->r≠r'->ad r≠ad r':=fun a b c=>G.ne a b c
      refine qfX tb (qlP okf ok) hg ht (qlQ G) h1 h2 h3 h4 em hb hsh (by omega) ep (by show lk S.un m=none;rw[hun];rfl) (by show(S.ns.map _).length<1000;rw[wab];have:=ok.sz.2.1;omega) (by unfold tlA;rw[wab];have:=ok.sz.1;omega) (by unfold lbA;rw[wab];have:=ok.sz.2.2;omega) hsl (by have:=ok.sz.2.1;omega)
       (nn (r:=.un) (r':=.ta) rfl rfl (fun z=>by cases z)) (nn (r:=.ho) (r':=.ta) rfl rfl (fun z=>by cases z)) (nn (r:=.ho) (r':=.un) rfl rfl (fun z=>by cases z)) (nn (r:=.bn) (r':=.ta) rfl rfl (fun z=>by cases z)) (nn (r:=.bn) (r':=.un) rfl rfl (fun z=>by cases z)) (nn (r:=.bn) (r':=.ho) rfl rfl (fun z=>by cases z)) (nn (r:=.bi) (r':=.nu) rfl rfl (fun z=>by cases z)) fun x y hx hy hxy=>?_
      exact hq _ _ (qsL G ok em f1 hn hx hy hxy)
theorem qsX(okf:f.Ok)(G:qa4 e M ad f S)(ok:S.Ok f)(tb:Tb e)(oki:i.Ok)(hun:S.un= [])(hT:∀ T∈S.tl,T.st= "note"/\T.ov=S.now+f.t0)(hd:S.ds.length<900)
 (hq:∀ M' ad',Stp e M ad f S M' ad' ((S.out1 f i).1.wrote (.tup [i.deed,(S.out1 f i).2]))->Q (S.out1 f i).2 M'):sem (P e) (n+10) 68 [.ref (ad .g),.str "note",.int i.house,.int i.door,.int i.place,.int i.far,.str "say",.str ""] M Q:=by
 refine qwK (post:=fun v M2=>v=(S.out1 f i).2/\∃ ad',Stp e M ad f S M2 ad' (S.out1 f i).1) tb oki (G.at_ .g _ rfl) (fun K hK=>qj3 okf G ok tb oki.kind hun hT fun M' ad' st=>hK _ _ ⟨rfl,ad',st⟩) fun v M2 hp=>?_
 obtain⟨rfl,ad',st⟩:=hp;have hg:=st.1.at_ .g _ rfl;have hdn:=st.1.at_ .dn _ rfl;rw[st.2.2.1,st.2.2.2]at hg;rw[st.2.2.2]at hdn;have e1:(S.out1 f i).1.ds=S.ds:=by
  unfold GS.out1;split
  · rfl
  · split
    · rfl
    · split
      · rfl
      · split<;>rfl
 refine⟨_,_,_,_,_,hg,hdn,by rw[e1];omega,?_⟩
 have:=st.trans (qpf (v:=.tup [i.deed,(S.out1 f i).2]) st.1);rw[st.2.2.2]at this;exact hq _ _ this
end
section
variable {e:Env}{n:Nat}{M:RM}{Q:RVK}{ad:RA_}{f:Fm}{S:GS}{m p far:Int}{t bn:Addr}{g:Addr}
theorem qeU{lb:List (Int×Addr)}{fr rp now rbi rho rnu k1 p1 f1:RV}(ht:M t=some (qae e fr rp now rbi (.ref bn) rho rnu))(h2:M bn=some (.dk (eB lb)))(hb:lk lb m=none):sem (P e) (n+1) 65 [.ref t,k1,.int m,p1,f1] M Q=Q .non M:=by
 have e3:lk (eB lb) (.inl m)=none:=by rw[qkr,hb];rfl
 rw[us (i:=65) (d:=qas) rfl];simp only[qas];walk_at "evs"
theorem qeT{lb:List (Int×Addr)}{l:List (TK×Addr)}{b:Addr}{fr rp now rbi rho rnu:RV}{kd:Str}(ht:M t=some (qae e fr rp now rbi (.ref bn) rho rnu))(h2:M bn=some (.dk (eB lb)))(hb:lk lb m=some b)(h5:M b=some (.dt (eA l))):sem (P e) (n+1) 65 [.ref t,.str kd,.int m,.int p,.int far] M Q=Q (qq1 (lk l [some (.inr kd),some (.inl p),some (.inl far)])) M:=by
 have e3:lk (eB lb) (.inl m)=some (.ref b):=by rw[qkr,hb];rfl
 have k1:qhB (.tup [.str kd,.int p,.int far])=some [some (.inr kd),some (.inl p),some (.inl far)]:=rfl;rw[us (i:=65) (d:=qas) rfl];simp only[qas];walk_at "evs";rw[qrP k1,qt8];cases lk l [some (.inr kd),some (.inl p),some (.inl far)]<;>rfl
def qtG(M:RM)(p:Int):RV->RV
 | .ref a=>match M a with
  |some (.ins _ ((_,.tup [_,_,_,.int q,_])::_))=>.bl (q==p)
  |_=>.non
 |_=>.non
theorem qlD{lb:List (Int×Addr)}{L:List Tk}{b:Addr}{fr rp now rbi rho rnu:RV}{gk:Tk->TK}{ga:Tk->Addr}(ht:M t=some (qae e fr rp now rbi (.ref bn) rho rnu))(h2:M bn=some (.dk (eB lb)))(hb:lk lb m=some b)(h5:M b=some (.dt (eA (L.map fun T=>(gk T,ga T)))))(hl:L.length<1000)(hk:∀ T∈L,M (ga T)=some (tkO e T))
 (hq:Q (.bl (L.any fun T=>T.i.place==p)) M):sem (P e) (n+1) 47 [.ref t,.int m,.int p] M Q:=by
 have e3:lk (eB lb) (.inl m)=some (.ref b):=by rw[qkr,hb];rfl
 rw[us (i:=47) (d:=qaN) rfl];simp only[qaN];walk_at "evs";unfold qsk;simp only[h5];have e0:qld false (eA (L.map fun T=>(gk T,ga T)))=L.map fun T=>RV.ref (ga T):=by unfold qld eA enc;rw[if_neg (by decide),was,was];rfl
 have hg:∀ T∈L,qtG M p (.ref (ga T))= .bl (T.i.place==p):=fun T hT=>by
  have h:=hk T hT;unfold qtG;simp only[h];rfl
 rw[e0];refine⟨by rw[wab];exact waB hl (by decide),qbd (bd:=qjP false 1) (fun _=>true) (qtG M p) qad _ _ (fun x hx=>?_) ?_⟩
 · obtain⟨T,hT,rfl⟩:=wan.mp hx
   have h:=hk T hT;refine⟨[.ref (ga T)],rfl,fun K hK=>hK,fun _ K hK=>?_⟩
   rw[hg T hT]at hK;have nb:ga T≠b:=qaA h h5;show(tr ((P e).Gn n) _).E [some (.ref (ga T)),some (.int p)] _ K;walk_at "ev";rw[qac nb,h];unfold tkO;walk_at "ev";unfold Inn.r;walk_at "ev";exact hK
 · show bfR "any" [.ls ([]++((L.map fun T=>RV.ref (ga T)).filter fun _=>true).map (qtG M p))] (put (put M b (.ft _)) b (.dt _)) Q
   rw[qbi,qd3 h5,waI,waZ.mpr (fun _ _=>rfl),was]
   rw[show List.map (qtG M p ∘ fun T=>RV.ref (ga T)) L=(L.map fun T=>T.i.place==p).map RV.bl by rw[was];exact waE fun T hT=>hg T hT]
   rw[qva,List.any_map];exact hq
def qxa:Option TK->RV
 |some h=>qk3 h
 |none=>.non
theorem qjb{hs:List (Int×TK)}{ho:Addr}{fr rp now rbi rbn rnu:RV}(ht:M t=some (qae e fr rp now rbi rbn (.ref ho) rnu))(h3:M ho=some (.dk (eH hs))):sem (P e) (n+1) 33 [.ref t,.int m] M Q=Q (qxa (lk hs m)) M:=by
 rw[us (i:=33) (d:=qaD) rfl];simp only[qaD];walk_at "evs";rw[qxw];cases lk hs m<;>rfl
theorem qmb{κ:TK}:∀ {tl:List Tk},lk (outs ad tl m) κ=(tl.find? fun T=>decide (T.m=m/\qdO T.i=κ)).map fun T=>ad (.tk T.id)
 | []=>rfl
 |T::tl=>by
  have ih:=qmb (κ:=κ) (tl:=tl);unfold outs at ih ⊢
  by_cases z:T.m=m
  · rw[waM (by simpa using z),wae,qaB]
    by_cases w:qdO T.i=κ
    · rw[if_pos w,List.find?_cons_of_pos (by simp[z,w])];rfl
    · rw[if_neg w,List.find?_cons_of_neg (by simp[w]),ih]
  · rw[waY (by simpa using z),List.find?_cons_of_neg (by simp[z]),ih]
def inn(h d:Int):RV:=.tup [.str "in",.int h,.int d]
def hd3:TK->RV
 |_::some (.inl a)::some (.inl b)::_=>inn a b
 |_=>.non
def qoC(p far:Int):TK:=[some (.inr "note"),some (.inl p),some (.inl far)]
noncomputable def GS.with_ (S:GS)(m p:Int):Bool:=(S.tl.filter fun T=>decide (T.m=m)).any fun T=>T.i.place==p
noncomputable def GS.come1 (S:GS)(f:Fm)(m p far:Int):RV:=match S.tl.find? fun T=>decide (T.m=m/\qdO T.i=qoC p far)with
 |some T=>inn T.i.house T.i.door
 |none=>match lk (swp S.ns) m with
  |none=>kept "nobody"
  |some h=>if(f.sieve== "all" ||(f.sieve== "place" &&S.with_ m p))=true then hd3 h else kept "sieve"
theorem f_3:rIx f.r (.int 3) M Q=Q (.str f.sieve) M:=xi_tup.trans (by rw[qBc];rfl)
theorem f_6:rIx f.r (.int 6) M Q=Q (.bl f.renew) M:=xi_tup.trans (by rw[qBa];rfl)
theorem qsY(G:qa4 e M ad f S)(ok:S.Ok f)(hm:m∈S.ns.map (·.2))(hq:Q (.bl (f.sieve== "all" ||(f.sieve== "place" &&S.with_ m p))) M):sem (P e) (n+2) 54 [.ref (ad .g),.int p,.int m] M Q:=by
 have hg:=G.at_ .g _ rfl;have ht:=G.at_ .t _ rfl;have h2:=G.at_ .bn _ rfl;have k3:∀ {M:RM} {Q:RVK},rIx f.r (.int 3) M Q=Q (.str f.sieve) M:=f_3;obtain⟨z,hz,rfl⟩:=wan.mp hm;obtain⟨k,hb⟩:=ok.nb z hz;have hbA:lk (lbA ad S.lb) z.2=some (ad (.nb k)):=by unfold lbA;rw[qhg (g:=fun k=>ad (.nb k)),hb];rfl
 have h5:M (ad (.nb k))=some (.dt (eA (outs ad S.tl z.2))):=G.at_ (.nb k) _ (by show Option.map _ (S.lb.find? fun x=>decide (x.2=k))=_;rw[qgk ok.d2 (qdS hb)];rfl)
 rw[us (i:=54) (d:=qau) rfl];simp only[qau];walk_at "evs"
 by_cases z1:(f.sieve==("all":Str))=true
 · rw[z1]at hq;rw[if_pos z1];exact hq
 · rw[Bool.not_eq_true]at z1
   rw[z1]at hq ⊢;rw[if_neg (by simp)]
   by_cases z2:(f.sieve==("place":Str))=true
   · rw[z2]at hq;rw[if_pos z2]
     refine qlD ht h2 hbA h5 ?_ (fun T hT=>?_) hq
     · have:=wa3 (fun T:Tk=>decide (T.m=z.2)) S.tl
       have:=ok.sz.1;omega
     · exact G.at_ (.tk T.id) _ (by show Option.map _ (S.tl.find? fun U=>decide (U.id=T.id))=_;rw[qja ok.d6 (waR.mp hT).1];rfl)
   · rw[Bool.not_eq_true]at z2
     rw[z2]at hq ⊢;rw[if_neg (by simp)];exact hq
theorem qi8{i:Inn}:∃ a b,qai f i= [some (.inr i.kind),some (.inl i.house),some (.inl i.door),a,b]:=by
 unfold qai Inn.k;split
 · exact⟨_,_,rfl⟩
 · split<;>exact⟨_,_,rfl⟩
theorem qnQ(G:qa4 e M ad f S)(ok:S.Ok f)(hq:Q (match lk (swp S.ns) m with|none=>kept "nobody" |some h=>if(f.sieve== "all" ||(f.sieve== "place" &&S.with_ m p))=true then hd3 h else kept "sieve") M):sem (P e) (n+3) 60 [.ref (ad .g),.str "note",.int p,.int m] M Q:=by
 have hg:=G.at_ .g _ rfl;have ht:=G.at_ .t _ rfl;have h3:=G.at_ .ho _ rfl;rw[us (i:=60) (d:=qa3) rfl];simp only[qa3];walk_at "ev";rw[hg];walk_at "ev";rw[ht];walk_at "ev";rw[qjb ht h3];cases eh:lk (swp S.ns) m with
 |none=>
  rw[eh]at hq;unfold qxa;walk_at "ev";exact hq
 |some h=>
  rw[eh]at hq;obtain⟨w,hw,e1⟩:=wan.mp (qdS eh);injection e1 with e1 e2
  obtain⟨i,hk,e3⟩:=ok.hk w hw;obtain⟨a,b,e4⟩:=qi8 (f:=f) (i:=i);have e5:h= [some (.inr "note"),some (.inl i.house),some (.inl i.door),a,b]:=by rw[<-e2,e3,e4,hk]
  subst e5;rw[show qxa (some [some (.inr "note"),some (.inl i.house),some (.inl i.door),a,b])= .tup [.str "note",.int i.house,.int i.door,oR a,oR b]from rfl]
  walk_at "ev";have hnl:(("note":Str)==("line":Str))=false:=by decide
  rw[hnl,if_neg (by simp),hg]
  walk_at "ev";have hm:m∈S.ns.map (·.2):=by rw[<-e1];exact List.mem_map_of_mem (f:=(·.2)) hw
  refine qsY G ok hm ?_;rw[qfi];cases eb:(f.sieve==("all":Str)||f.sieve==("place":Str)&&S.with_ m p)with
  |true=>simp only[eb,if_true]at hq;rw[if_neg (by simp)];exact hq
  |false=>simp only[eb]at hq;rw[if_pos (by rfl)];exact hq
theorem qlj{T:Tk}(G:qa4 e M ad f S)(ok:S.Ok f)(tb:Tb e)(hT:T∈S.tl)(hk:T.i.kind= "note")(hs:T.st= "note"/\T.ov=S.now+f.t0)(hq:Q (inn T.i.house T.i.door) M):sem (P e) (n+3) 53 [.ref (ad .g),.ref (ad (.tk T.id)),.str "say"] M Q:=by
 have hg:=G.at_ .g _ rfl;have ht:=G.at_ .t _ rfl;have hx:M (ad (.tk T.id))=some (qan e T.i.r (.int T.m) (.str "note") (.int (S.now+f.t0))):=G.at_ (.tk T.id) _ (by
  show Option.map _ (S.tl.find? fun U=>decide (U.id=T.id))=_
  rw[qja ok.d6 hT,<-hs.2,<-hs.1];rfl)
 have k6:∀ {M:RM} {Q:RVK},rIx f.r (.int 6) M Q=Q (.bl f.renew) M:=f_6;rw[us (i:=53) (d:=qaT) rfl];simp only[qaT];walk_at "ev";rw[hx];walk_at "ev";rw[show T.i.r= .tup [.str "note",.int T.i.house,.int T.i.door,.int T.i.place,.int T.i.far] by unfold Inn.r;rw[hk]]
 walk_at "ev";rw[hx];walk_at "ev";rw[qb4 (.inr rfl)];walk_at "ev";rw[hg];walk_at "ev";rw[k6];walk_at "ev";rw[hx];walk_at "ev"
 by_cases z:f.renew=true
 · rw[if_pos z,hg];walk_at "ev"
   rw[ht];walk_at "ev";refine qpl tb ht hx ?_;rw[qd3 hx];exact hq
 · rw[if_neg z];exact hq
theorem qvR(ok:S.Ok f){T:Tk}(hT:T∈S.tl):∃ k,lk S.lb T.m=some k:=ok.nb _ (qdS (ok.tn T hT))
theorem qlt(G:qa4 e M ad f S)(ok:S.Ok f)(tb:Tb e)(hT:∀ T∈S.tl,T.i.kind= "note"/\T.st= "note"/\T.ov=S.now+f.t0)(h1:f.low<=m)(h2:m<=f.high)(hq:Q (S.come1 f m p far) M):sem (P e) (n+4) 66 [.ref (ad .g),.str "note",.int p,.int far,.int m,.str "say"] M Q:=by
 have hg:=G.at_ .g _ rfl;have ht:=G.at_ .t _ rfl;have hbn:=G.at_ .bn _ rfl;have hp:=G.at_ .pl _ rfl;have rest:S.tl.find? (fun T=>decide (T.m=m/\qdO T.i=qoC p far))=none->sem (P e) (n+3) 28 [.ref (ad .pl),.int m] M (kB fun c M1=>if c=true then mO (e.C 4) "sifted" (sem (P e) (n+3) 60) (tr ((P e).Gn (n+3)) (.ec (.v 1) (.ec (.v 2) (.ec (.v 4) .e0)))).A [some (.ref (ad .g)),some (.str "note"),some (.int p),some (.int far),some (.int m),some (.str "say"),some .non] Q (ad .g) M1 (M1 (ad .g))else False):=fun hf=>by
  rw[quK hp,qfi,if_pos (by simp[h1,h2]),hg]
  walk_at "ev";refine qnQ G ok ?_;unfold GS.come1 at hq;rw[hf]at hq;exact hq
 rw[us (i:=66) (d:=qaU) rfl];simp only[qaU];walk_at "ev";rw[hg];walk_at "ev";rw[ht];walk_at "ev";cases hb:lk S.lb m with
 |none=>
  have hbA:lk (lbA ad S.lb) m=none:=by unfold lbA;rw[qhg (g:=fun k=>ad (.nb k)),hb];rfl
  rw[qeU ht hbn hbA];walk_at "ev";have hf:S.tl.find? (fun T=>decide (T.m=m/\qdO T.i=qoC p far))=none:=List.find?_eq_none.mpr fun T hT z=>by
   obtain⟨k,e1⟩:=qvR ok hT;have:T.m=m:=(of_decide_eq_true z).1;rw[this,hb]at e1;cases e1
  rw[hg];walk_at "ev";rw[ht];walk_at "ev";rw[hp];walk_at "ev";exact rest hf
 |some k=>
  have hbA:lk (lbA ad S.lb) m=some (ad (.nb k)):=by unfold lbA;rw[qhg (g:=fun k=>ad (.nb k)),hb];rfl
  have h5:M (ad (.nb k))=some (.dt (eA (outs ad S.tl m))):=G.at_ (.nb k) _ (by show Option.map _ (S.lb.find? fun x=>decide (x.2=k))=_;rw[qgk ok.d2 (qdS hb)];rfl)
  rw[qeT ht hbn hbA h5];rw[show lk (outs ad S.tl m) [some (.inr "note"),some (.inl p),some (.inl far)]=_ from qmb (κ:=qoC p far)]
  cases hf:S.tl.find? (fun T=>decide (T.m=m/\qdO T.i=qoC p far))with
  |none=>
   rw[show qq1 (Option.map (fun T:Tk=>ad (.tk T.id)) none)= .non from rfl]
   walk_at "ev";rw[hg];walk_at "ev";rw[ht];walk_at "ev";rw[hp];walk_at "ev";exact rest hf
  |some T=>
   have hTm:=List.mem_of_find?_eq_some hf;unfold GS.come1 at hq;rw[hf]at hq;rw[show qq1 (Option.map (fun T:Tk=>ad (.tk T.id)) (some T))= .ref (ad (.tk T.id))from rfl]
   walk_at "ev";rw[hg];walk_at "ev";exact qlj G ok tb hTm (hT T hTm).1 (hT T hTm).2 hq
def qx5(p far m:Int):RV:=.tup [.str "come",.str "note",.int p,.int far,.int m,.str "say",.str ""]
theorem qs1(G:qa4 e M ad f S)(ok:S.Ok f)(tb:Tb e)(okf:f.Ok)(hT:∀ T∈S.tl,T.i.kind= "note"/\T.st= "note"/\T.ov=S.now+f.t0)(h1:f.low<=m)(h2:m<=f.high)(hp:1<=p/\p<=1000000)(hf:1<=far/\far<=9999)(hd:S.ds.length<900)
 (hq:∀ M',Stp e M ad f S M' ad (S.wrote (.tup [qx5 p far m,S.come1 f m p far]))->Q (S.come1 f m p far) M'):sem (P e) (n+7) 67 [.ref (ad .g),.str "note",.int p,.int far,.int m,.str "say",.str ""] M Q:=by
 have hg:=G.at_ .g _ rfl;have hdn:=G.at_ .dn _ rfl;have:=okf.lo;have:=okf.hi;rw[us (i:=67) (d:=qbp) rfl];simp only[qbp];walk_at "ev";rw[hg];walk_at "ev";rw[us (i:=36) (d:=qaX) rfl];simp only[qaX];walk_at "ev";refine qiz (n:=n) tb hp hf ⟨by omega,by omega⟩ ?_
 walk_at "ev";rw[hg];walk_at "ev";rw[qvC];rw[us (i:=50) (d:=qaw) rfl];simp only[qaw];walk_at "ev";rw[show(("come":Str)==("out":Str))=false by decide,if_neg (by simp),hg]
 walk_at "ev";refine qlt G ok tb hT h1 h2 ?_;rw[hg];walk_at "ev";rw[hdn];walk_at "ev";exact⟨S.ds,_,rfl,hdn,waB hd (by decide),hq _ (qpf G)⟩
end
section
variable {e:Env}{n:Nat}{M:RM}{Q:RVK}{ad:RA_}{f:Fm}{S:GS}{i:Inn}{m:Int}{k:Nat}{v:RV}
theorem qhh{κ β:Type}[DecidableEq κ]{k:κ}:∀ {l:List (κ×β)} {r:List (κ×β)},lk (l++r) k=match lk l k with|some y=>some y|none=>lk r k
 | [],r=>rfl
 |(j,y)::l,r=>by
  show lk ((j,y)::(l++r)) k=_;rw[qaB,qaB]
  by_cases h:j=k
  · rw[if_pos h,if_pos h]
  · rw[if_neg h,if_neg h];exact qhh
theorem qhf{κ β:Type}[DecidableEq κ]{k:κ}{y:β}:lk [(k,y)] k=some y:=by rw[qaB,if_pos rfl]
theorem qaY{α:Type}{l:List α}{a:α}(h:l.Nodup)(ha:a∉l):(l++ [a]).Nodup:=by
 rw[List.nodup_append];refine⟨h,by simp,fun x hx y hy=>?_⟩
 cases wam.mp hy;exact fun z=>ha (z ▸ hx)
theorem Ok.begun(ok:S.Ok f)(hn:i.k∉S.tl.map fun T=>T.i.k)(hm:lk S.ns (qai f i)=some m)(hl:S.tl.length<899):(S.begun f i m).Ok f:=
 { ok with
  i1:=fun T hT=>by
   rcases wap.mp hT with h|h
   · exact waG (ok.i1 T h)
   · cases wam.mp h;exact wa0 _
  i2:=fun x hx=>waG (ok.i2 x hx)
  d1:=by show((S.tl++ [_]).map _).Nodup;rw[wao];exact qaY ok.d1 hn
  d6:=by
   show((S.tl++ [_]).map _).Nodup;rw[wao];refine qaY ok.d6 fun z=>?_
   obtain⟨T,hT,e1⟩:=wan.mp z;have e1:T.id=S.nx:=e1;have:=ok.i1 T hT;omega
  tn:=fun T hT=>by
   rcases wap.mp hT with h|h
   · exact ok.tn T h
   · cases wam.mp h;exact hm
  sz:=⟨by show(S.tl++ [_]).length<900;rw[wad];show S.tl.length+1<900;omega,ok.sz.2⟩ }
theorem Ok.lent(ok:S.Ok f)(okf:f.Ok)(hk:i.kind= "note")(hn:i.k∉S.tl.map fun T=>T.i.k)(hm:lk S.ns (qai f i)=none)(m1:f.low<=m)(m2:m<=f.high)(m3:m∉S.ns.map (·.2))(hl:S.tl.length<899/\S.ns.length<899/\S.lb.length<899):(S.lent f i m).Ok f:=
 {
  d3:=by show((S.ns++ [_]).map _).Nodup;rw[wao];exact qaY ok.d3 m3
  mr:=by
   show f.low<=((qal f S).take m).mark/\_;unfold PoolS.take qal;show f.low<=(if m=f.high then f.low else m+1)/\(if m=f.high then f.low else m+1)<=f.high
   have:=okf.le;split<;>omega
  i1:=fun T hT=>by
   rcases wap.mp hT with h|h
   · exact waG (waG (ok.i1 T h))
   · cases wam.mp h;exact waG (wa0 _)
  i2:=fun x hx=>by
   rcases wap.mp hx with h|h
   · exact waG (waG (ok.i2 x h))
   · cases wam.mp h;exact wa0 _
  d1:=by show((S.tl++ [_]).map _).Nodup;rw[wao];exact qaY ok.d1 hn
  d2:=by
   show((S.lb++ [_]).map _).Nodup;rw[wao];refine qaY ok.d2 fun z=>?_
   obtain⟨T,hT,e1⟩:=wan.mp z;have e1:T.2=S.nx+1:=e1;have:=ok.i2 T hT;omega
  d4:=by show((S.ns++ [_]).map _).Nodup;rw[wao];exact qaY ok.d4 (lk_none.mp hm)
  d5:=by
   show((S.lb++ [_]).map _).Nodup;rw[wao];refine qaY ok.d5 fun z=>?_
   obtain⟨T,hT,e1⟩:=wan.mp z;exact m3 (by have:=ok.bn T hT;rw[e1]at this;exact this)
  d6:=by
   show((S.tl++ [_]).map _).Nodup;rw[wao];refine qaY ok.d6 fun z=>?_
   obtain⟨T,hT,e1⟩:=wan.mp z;have e1:T.id=S.nx:=e1;have:=ok.i1 T hT;omega
  tn:=fun T hT=>by
   show lk (S.ns++ [_]) _=_;rcases wap.mp hT with h|h
   · rw[qhh,ok.tn T h]
   · cases wam.mp h
     show lk (S.ns++ [(qai f i,m)]) (qai f i)=some m;rw[qhh,hm,qhf]
  nb:=fun x hx=>by
   show ∃ k,lk (S.lb++ [_]) _=_;rcases wap.mp hx with h|h
   · obtain⟨k,hk⟩:=ok.nb x h
     exact⟨k,by rw[qhh,hk]⟩
   · cases wam.mp h
     refine⟨S.nx+1,?_⟩;show lk (S.lb++ [(m,S.nx+1)]) m=_;rw[qhh,lk_none.mpr (fun z=>by
      obtain⟨p,hp,e1⟩:=wan.mp z;have:=ok.bn p hp;rw[e1]at this;exact m3 this),qhf]
  bn:=fun x hx=>by
   show _∈(S.ns++ [_]).map _;rw[wao,wap];rcases wap.mp hx with h|h
   · exact .inl (ok.bn x h)
   · cases wam.mp h;exact .inr (.head _)
  hk:=fun x hx=>by
   rcases wap.mp hx with h|h
   · exact ok.hk x h
   · cases wam.mp h;exact⟨i,hk,rfl⟩
  sz:=⟨by show(S.tl++ [_]).length<900;rw[wad];show S.tl.length+1<900;omega,by show(S.ns++ [_]).length<900;rw[wad];show S.ns.length+1<900;omega,by show(S.lb++ [_]).length<900;rw[wad];show S.lb.length+1<900;omega⟩ }
def S0(f:Fm):GS:=⟨0,f.low,[],[],[],[],0,[]⟩
theorem qvg(okf:f.Ok):(S0 f).Ok f:=⟨⟨Int.le_refl _,okf.le⟩,wag _,wag _,waN,waN,waN,waN,waN,waN,wag _,wag _,wag _,wag _,⟨(by decide:0<900),(by decide:0<900),(by decide:0<900)⟩⟩
def ad0(g t st dn pl ta un bi bn ho nu:Addr):RA_
 | .g=>g| .t=>t| .pl=>pl| .ta=>ta| .un=>un| .bi=>bi| .bn=>bn| .ho=>ho| .nu=>nu| .dn=>dn| .st=>st| .tk _=>0| .nb _=>0
theorem qs0{x:Addr}(okf:f.Ok)(hx:M x=none)(hq:∀ M' ad,ad .g=x->qa4 e M' ad f (S0 f)->(∀ b o,M b=some o->b≠x->M' b=some o)->(∀ r o,ct e ad f (S0 f) r=some o->M (ad r)=none)->(∀ b,M' b=none->M b=none)->Q .non M'):sem (P e) (n+6) 35 [.ref x,f.r] (put M x (.ins (e.C 4) [])) Q:=by
 refine qiD okf hx fun t st dn pl ta un bi bn ho nu M' c1 c2 c3 c4 c5 c6 c7 c8 n1 n2 n3 n4 n5 n6 n7 fr new=>?_
 have at_:∀ r o,ct e (ad0 x t st dn pl ta un bi bn ho nu) f (S0 f) r=some o->M' (ad0 x t st dn pl ta un bi bn ho nu r)=some o:=fun r o h=>by
  cases r<;>first|(cases h;done)|(injection h with h;subst h;first|exact c1|exact c2|exact c3.o|exact c3.t|exact c3.u|exact c4|exact c5|exact c6|exact c7|exact c8)
 have gp:x≠pl:=qdz c1 c3.o;refine hq M' (ad0 x t st dn pl ta un bi bn ho nu) rfl ⟨at_,fun r r' o o' h h' z=>?_⟩ fr (fun r o h=>?_) ?_
 · have a:=at_ r o h
   have b:=at_ r' o' h';cases r<;>first|(cases h;done)|(cases r'<;>first|(cases h';done)|rfl|(injection h with h;injection h' with h';subst h h';first|exact absurd z (qaA a b)|exact absurd z gp|exact absurd z.symm gp|exact absurd z n1|exact absurd z.symm n1|exact absurd z n2|exact absurd z.symm n2|exact absurd z n3|exact absurd z.symm n3|exact absurd z n4|exact absurd z.symm n4|exact absurd z n5|exact absurd z.symm n5|exact absurd z n6|exact absurd z.symm n6|exact absurd z n7|exact absurd z.symm n7))
 · cases r<;>first|(cases h;done)|exact hx|exact new _ (by simp[ad0])
 · intro b hb
   cases eb:M b with
   |none=>rfl
   |some o=>
    rw[fr b o eb (fun z=>by rw[z,hx]at eb;cases eb)]at hb
    cases hb
end
section
variable {e:Env}{n:Nat}{M:RM}{Q:RVK}{f:Fm}{S:GS}{d p fo:Int}
def iH(d:Int):Inn:=⟨"note",0,d,3,1⟩
def iP(d p fo:Int):Inn:=⟨"note",0,d,p,fo⟩
def m0(f:Fm)(d:Int):Int:=if(f.pick== "keep" &&(decide (f.low<=d)&&decide (d<=f.high)))=true then d else f.low
theorem ql8(okf:f.Ok):f.low<=m0 f d/\m0 f d<=f.high:=by
 unfold m0;have:=okf.le;split
 · rename_i z;simp only[waa,decide_eq_true_eq]at z;exact z.2
 · omega
theorem quI(x:LR){i:Int}:(qal f { S0 f with ds:=x }).free i 0=(decide (f.low<=i)&&decide (i<=f.high)):=by
 unfold PoolS.free PoolS.has qal S0;simp[lk]
theorem qmd(okf:f.Ok){p:PoolS}(hl:p.low=f.low)(hh:p.high=f.high)(hm:f.low<=p.mark)(h2:p.mark<=f.high):∃ r,p.line=p.mark::r:=by
 unfold PoolS.line;obtain⟨k,hk⟩:∃ k,(p.high+1-p.mark).toNat=k+1:=⟨(p.high-p.mark).toNat,by omega⟩
 rw[hk,wa1,wae,List.cons_append,show p.mark+((0:Nat):Int)=p.mark by simp]
 exact⟨_,rfl⟩
theorem qw1(okf:f.Ok)(x:LR):(qal f { S0 f with ds:=x }).pick (f.pick== "keep") d 0=some (m0 f d):=by
 unfold PoolS.pick m0;rw[quI];split
 · rfl
 · obtain⟨r,hr⟩:=qmd okf (p:=qal f { S0 f with ds:=x }) rfl rfl (Int.le_refl _) okf.le
   rw[hr,List.find?_cons_of_pos]
   · rfl
   · rw[quI]
     have:=okf.le;show(decide (f.low<=f.low)&&decide (f.low<=f.high))=true;simp[this]
def A0(f:Fm)(d:Int):GS:=(S0 f).lent f (iH d) (m0 f d)
theorem qtS(okf:f.Ok)(x:LR):({ S0 f with ds:=x }:GS).out1 f (iH d)=({ A0 f d with ds:=x },led (m0 f d)):=by
 unfold GS.out1;rw[show({ S0 f with ds:=x }:GS).tl= []from rfl,List.find?_nil]
 rw[show({ S0 f with ds:=x }:GS).ns= []from rfl]
 show(if f.most<=((qdV [] 0).length:Int)then _ else _)=_
 have:=okf.most.1;rw[if_neg (by show ¬f.most<=((0:Nat):Int);omega)]
 show(match(qal f { S0 f with ds:=x }).pick (f.pick== "keep") d 0 with|none=>_|some m=>_)=_
 rw[qw1 okf x];rfl
theorem qov{q:PoolS}{x:Int}(h1:q.low<=x)(h2:x<=q.high)(h3:q.low<=q.mark):x∈q.line:=by
 unfold PoolS.line;simp only[wap,wan,List.mem_range]
 by_cases z2:q.mark<=x
 · exact .inl ⟨(x-q.mark).toNat,by omega,by omega⟩
 · exact .inr ⟨(x-q.low).toNat,by omega,by omega⟩
theorem quH(x:LR){i:Int}:(qal f { A0 f d with ds:=x }).free i 0=(decide (f.low<=i)&&decide (i<=f.high)&& !decide (i=m0 f d)):=by
 unfold PoolS.free PoolS.has;show((decide (f.low<=i)&&decide (i<=f.high)&& !(lk [(m0 f d,())] i).isSome)&&true)=_;rw[qaB,Bool.and_true]
 by_cases z:m0 f d=i
 · rw[if_pos z];simp[z]
 · rw[if_neg z];simp[lk,Ne.symm z]
def qew(f:Fm)(d:Int):Option Int:=(qal f (A0 f d)).pick (f.pick== "keep") d 0
theorem qca{m:Int}(h:qew f d=some m):m≠m0 f d/\f.low<=m/\m<=f.high:=by
 have:=qg5 h;have this:(qal f { A0 f d with ds:=[] }).free m 0=true:=this
 rw[quH]at this;simp only[waa,decide_eq_true_eq,Bool.not_eq_true',decide_eq_false_iff_not]at this;exact⟨this.2,this.1⟩
theorem qdh(okf:f.Ok):qew f d=none↔f.low=f.high:=by
 have hm:=ql8 (d:=d) okf
 constructor
 · intro h
   unfold qew PoolS.pick at h;split at h
   · cases h
   · rw[List.find?_eq_none]at h
     have q:∀ x,f.low<=x->x<=f.high->x=m0 f d:=fun x h1 h2=>by
      have a1:(A0 f d).mark=if m0 f d=f.high then f.low else m0 f d+1:=rfl
      have:=h x (qov (q:=qal f (A0 f d)) h1 h2 (by show f.low<=(A0 f d).mark;rw[a1];split<;>omega))
      rw[show(qal f (A0 f d))=qal f { A0 f d with ds:=[] }from rfl,quH]at this
      simp only[h1,h2,decide_true,Bool.true_and,Bool.not_eq_true',decide_eq_false_iff_not,Decidable.not_not]at this;exact this
     have:=okf.le;rw[q f.low (Int.le_refl _) okf.le];exact(q f.high okf.le (Int.le_refl _)).symm
 · intro h
   cases e:qew f d with
   |none=>rfl
   |some m=>obtain⟨a,b,c⟩:=qca e;exact absurd (show m=m0 f d by omega) a
def qa5(f:Fm)(d:Int):RV:=if f.lend= "door" then led (m0 f d)else if f.most<=1 then kept "most" else match qew f d with
 |none=>kept "full"
 |some m=>led m
def A1(f:Fm)(d p fo:Int):GS:=if f.lend= "door" then(A0 f d).begun f (iP d p fo) (m0 f d)else if f.most<=1 then A0 f d else match qew f d with
 |none=>A0 f d
 |some m=>(A0 f d).lent f (iP d p fo) m
theorem qoE(hp:p≠3):(iP d p fo).k≠(iH d).k:=fun z=>by
 unfold iP iH Inn.k at z;simp only[List.cons.injEq,Option.some.injEq,Sum.inl.injEq]at z;exact hp z.2.2.2.1
theorem qhH(h:f.lend= "door"):qai f (iP d p fo)=qai f (iH d):=by unfold qai;rw[if_pos h,if_pos h];rfl
theorem qmM(h:f.lend≠"door")(hp:p≠3):qai f (iP d p fo)≠qai f (iH d):=fun z=>by
 unfold qai at z;rw[if_neg h,if_neg h]at z
 by_cases h2:f.lend= "place"
 · rw[if_pos h2,if_pos h2]at z
   simp only[List.cons.injEq,Option.some.injEq,Sum.inl.injEq]at z;exact hp z.2.2.2.1
 · rw[if_neg h2,if_neg h2]at z
   exact qoE hp z
theorem qxM:qdV (swp [(qai f (iH d),m0 f d)]) 0= [m0 f d]:=by
 obtain⟨a,b,e1⟩:=qi8 (f:=f) (i:=iH d);unfold qdV swp;simp only[wae,wa4];rw[waM (by rw[e1];rfl)]
 rfl
theorem qpw(okf:f.Ok)(hp:p≠3)(x:LR):({ A0 f d with ds:=x }:GS).out1 f (iP d p fo)=({ A1 f d p fo with ds:=x },qa5 f d):=by
 unfold GS.out1;have h0:({ A0 f d with ds:=x }:GS).tl= [⟨iH d,0,m0 f d,"note",0+f.t0⟩]:=rfl
 have h1:({ A0 f d with ds:=x }:GS).ns= [(qai f (iH d),m0 f d)]:=rfl
 rw[h0,List.find?_cons_of_neg (by simpa using fun z=>qoE (d:=d) (fo:=fo) hp z.symm),List.find?_nil,h1,qaB]
 unfold A1 qa5
 by_cases z:f.lend= "door"
 · rw[if_pos (qhH z).symm,if_pos z,if_pos z];rfl
 · rw[if_neg (fun q=>qmM z hp q.symm),if_neg z,if_neg z]
   show(if f.most<=((qdV (swp [(qai f (iH d),m0 f d)]) 0).length:Int)then _ else _)=_
   rw[qxM]
   by_cases z2:f.most<=1
   · rw[if_pos (by show f.most<=1;exact z2),if_pos z2,if_pos z2]
   · rw[if_neg (by show ¬f.most<=1;exact z2),if_neg z2,if_neg z2]
     show(match qew f d with|none=>_|some m=>_)=_
     cases qew f d<;>rfl
end
section
variable {e:Env}{n:Nat}{M:RM}{Q:RVK}{f:Fm}{S:GS}{d p fo far:Int}
theorem qvi(okf:f.Ok)(hd:True):(A0 f d).Ok f:=Ok.lent (qvg okf) okf rfl (by intro z;cases z) rfl (ql8 okf).1 (ql8 okf).2 (by intro z;cases z) ⟨(by decide:0<899),(by decide:0<899),(by decide:0<899)⟩
theorem qpM(hp:p≠3):(iP d p fo).k∉(A0 f d).tl.map fun T=>T.i.k:=fun z=>qoE hp (wam.mp z)
theorem qyk(okf:f.Ok)(hp:p≠3):(A1 f d p fo).Ok f:=by
 have h0:=qvi (d:=d) okf trivial;unfold A1;split
 · rename_i z
   exact Ok.begun h0 (qpM hp) (by rw[qhH z];exact qhf) (by show 1<899;decide)
 · rename_i z
   split
   · exact h0
   · split
     · exact h0
     · rename_i m e1
       obtain⟨a,b,c⟩:=qca e1;exact Ok.lent h0 okf rfl (qpM hp) (by show lk [(qai f (iH d),m0 f d)] _=none;rw[qaB,if_neg (fun q=>qmM z hp q.symm)];rfl) b c (fun q=>a (wam.mp q)) ⟨(by decide:1<899),(by decide:1<899),(by decide:1<899)⟩
def T0(f:Fm)(d:Int):Tk:=⟨iH d,0,m0 f d,"note",0+f.t0⟩
theorem qea:((A1 f d p fo).now=0/\(A1 f d p fo).un= [])/\((A1 f d p fo=A0 f d/\¬f.lend= "door"/\(f.most<=1∨qew f d=none))∨∃ m,(A1 f d p fo).tl= [T0 f d,⟨iP d p fo,2,m,"note",0+f.t0⟩]/\qa5 f d=led m/\((f.lend= "door"/\m=m0 f d/\(A1 f d p fo).ns= [(qai f (iH d),m0 f d)])∨(f.lend≠"door"/\m≠m0 f d/\(A1 f d p fo).ns= [(qai f (iH d),m0 f d),(qai f (iP d p fo),m)]))):=by
 unfold A1 qa5
 by_cases z:f.lend= "door"
 · rw[if_pos z,if_pos z]
   exact⟨⟨rfl,rfl⟩,.inr ⟨_,rfl,rfl,.inl ⟨z,rfl,rfl⟩⟩⟩
 · rw[if_neg z,if_neg z]
   by_cases z2:f.most<=1
   · rw[if_pos z2];exact⟨⟨rfl,rfl⟩,.inl ⟨rfl,z,.inl z2⟩⟩
   · rw[if_neg z2,if_neg z2]
     cases e1:qew f d with
     |none=>exact⟨⟨rfl,rfl⟩,.inl ⟨rfl,z,.inr rfl⟩⟩
     |some m=>exact⟨⟨rfl,rfl⟩,.inr ⟨m,rfl,rfl,.inr ⟨z,(qca e1).1,rfl⟩⟩⟩
theorem qo9{x:LR}:∀ T∈({ A0 f d with ds:=x }:GS).tl,T.i.kind= "note"/\T.st= "note"/\T.ov=({ A0 f d with ds:=x }:GS).now+f.t0:=fun T h=>by
 cases wam.mp h;exact⟨rfl,rfl,rfl⟩
theorem qo8{x:LR}:∀ T∈({ A1 f d p fo with ds:=x }:GS).tl,T.i.kind= "note"/\T.st= "note"/\T.ov=({ A1 f d p fo with ds:=x }:GS).now+f.t0:=fun T h=>by
 obtain⟨⟨h1,_⟩,h2⟩:=qea (f:=f) (d:=d) (p:=p) (fo:=fo);show _/\_/\T.ov=(A1 f d p fo).now+f.t0;have h:T∈(A1 f d p fo).tl:=h;rw[h1];rcases h2 with⟨e1,_⟩|⟨m,e1,_⟩
 · rw[e1]at h;cases wam.mp h;exact⟨rfl,rfl,rfl⟩
 · rw[e1]at h
   rcases waf.mp h with rfl|h
   · exact⟨rfl,rfl,rfl⟩
   · cases wam.mp h;exact⟨rfl,rfl,rfl⟩
theorem qtT(okf:f.Ok)(hp:p≠3)(x:LR):({ A1 f d p fo with ds:=x }:GS).out1 f (iP d p fo)=({ A1 f d p fo with ds:=x },qa5 f d):=by
 obtain⟨_,⟨e1,_⟩|⟨m,e1,e2,_⟩⟩:=qea (f:=f) (d:=d) (p:=p) (fo:=fo)
 · rw[e1,qpw okf hp,e1]
 · unfold GS.out1
   rw[show({ A1 f d p fo with ds:=x }:GS).tl=_ from e1,List.find?_cons_of_neg (by simpa[T0]using fun z=>qoE (d:=d) (fo:=fo) hp z.symm),List.find?_cons_of_pos (by simp),e2]
theorem qrC:hd3 (qai f (iH d))=inn 0 d:=by
 obtain⟨a,b,e1⟩:=qi8 (f:=f) (i:=iH d);rw[e1];rfl
def qby(f:Fm)(d:Int)(w same:Bool):RV:=if(f.sieve== "all" ||(f.lend== "door" &&w&&(f.sieve== "place" ||same)))=true then inn 0 d else kept "sieve"
theorem key_ne(hp:p≠3):qdO (iH d)≠qoC p far:=fun z=>by
 unfold qdO iH qoC at z;simp only[List.cons.injEq,Option.some.injEq,Sum.inl.injEq]at z;exact hp z.2.1.symm
theorem qm6(hp:p≠3)(x:LR){s:Bool}:({ A0 f d with ds:=x }:GS).come1 f (m0 f d) p far=qby f d false s:=by
 unfold GS.come1 qby;rw[show({ A0 f d with ds:=x }:GS).tl= [T0 f d]from rfl,List.find?_cons_of_neg (by simp[T0];exact key_ne hp),List.find?_nil]
 rw[show swp ({ A0 f d with ds:=x }:GS).ns= [(m0 f d,qai f (iH d))]from rfl,qhf]
 have:GS.with_ { A0 f d with ds:=x } (m0 f d) p=false:=by
  unfold GS.with_;rw[show({ A0 f d with ds:=x }:GS).tl= [T0 f d]from rfl]
  simp[T0,iH,Ne.symm hp]
 simp only[this,Bool.and_false,Bool.or_false,wbb,qrC]
theorem qrT(hp:p≠3)(x:LR):({ A1 f d p fo with ds:=x }:GS).come1 f (m0 f d) p far=qby f d true (far==fo):=by
 obtain⟨_,⟨e1,e2,_⟩|⟨m,e1,e2,⟨z,rfl,e3⟩|⟨z,e4,e3⟩⟩⟩:=qea (f:=f) (d:=d) (p:=p) (fo:=fo)
 · rw[e1,qm6 hp (s:=true)]
   unfold qby;have:(f.lend==("door":Str))=false:=by simpa using e2
   simp[this]
 · unfold GS.come1 qby
   have hl:(f.lend==("door":Str))=true:=by simpa using z
   rw[show({ A1 f d p fo with ds:=x }:GS).tl=_ from e1,List.find?_cons_of_neg (by simp[T0];exact key_ne hp)]
   by_cases w:far=fo
   · subst w
     rw[List.find?_cons_of_pos (by simp[qdO,iP,qoC])]
     simp[hl];rfl
   · rw[List.find?_cons_of_neg (by simp[qdO,iP,qoC,Ne.symm w]),List.find?_nil]
     rw[show swp ({ A1 f d p fo with ds:=x }:GS).ns= [(m0 f d,qai f (iH d))] by show swp (A1 f d p fo).ns=_;rw[e3];rfl,qhf]
     have:GS.with_ { A1 f d p fo with ds:=x } (m0 f d) p=true:=by
      unfold GS.with_;rw[show({ A1 f d p fo with ds:=x }:GS).tl=_ from e1]
      simp[T0,iH,iP]
     have w2:(far==fo)=false:=by simpa using w
     simp only[this,w2,hl,Bool.and_true,Bool.or_false,Bool.true_and,qrC]
 · unfold GS.come1 qby
   have hl:(f.lend==("door":Str))=false:=by simpa using z
   rw[show({ A1 f d p fo with ds:=x }:GS).tl=_ from e1,List.find?_cons_of_neg (by simp[T0];exact key_ne hp),List.find?_cons_of_neg (by simp[e4]),List.find?_nil]
   rw[show swp ({ A1 f d p fo with ds:=x }:GS).ns= [(m0 f d,qai f (iH d)),(m,qai f (iP d p fo))] by show swp (A1 f d p fo).ns=_;rw[e3];rfl,qaB,if_pos rfl]
   have:GS.with_ { A1 f d p fo with ds:=x } (m0 f d) p=false:=by
    unfold GS.with_;rw[show({ A1 f d p fo with ds:=x }:GS).tl=_ from e1]
    simp[T0,iH,iP,e4,Ne.symm hp]
   simp only[this,hl,Bool.and_false,Bool.or_false,wbb,qrC]
end
section
variable {e:Env}{n:Nat}{M M':RM}{Q:RVK}{f f1 f2:Fm}{S S' S1 S2 S1':GS}{d p d1 p1 d2 p2:Int}{s s1 s2:Addr}{ad ad' ad1 ad1' ad2:RA_}
def Own(e:Env)(s:Addr)(ad:RA_)(f:Fm)(S:GS)(a:Addr):Prop:=a=s∨∃ r o,ct e ad f S r=some o/\ad r=a
structure SideAt(e:Env)(M:RM)(s:Addr)(ad:RA_)(f:Fm)(d p:Int)(S:GS):Prop where
 o:M s=some (qbB e (.ref (ad .g)) (.int p) (.int d) (.int (m0 f d)))
 G:qa4 e M ad f S
 ne:∀ r o,ct e ad f S r=some o->ad r≠s
theorem SideAt.some_(h:SideAt e M s ad f d p S){a:Addr}(ha:Own e s ad f S a):∃ o,M a=some o:=by
 rcases ha with rfl|⟨r,o,h1,rfl⟩
 · exact⟨_,h.o⟩
 · exact⟨o,h.G.at_ r o h1⟩
theorem SideAt.step(h:SideAt e M s ad f d p S)(st:Stp e M ad f S M' ad' S'):SideAt e M' s ad' f d p S' where
 o:=by rw[st.2.2.1];exact st.2.1.keep _ _ h.o h.ne
 G:=st.1
 ne:=fun r o hr=>by
  rcases st.2.1.new r o hr with⟨r',o',h1,h2⟩|h1
  · rw[<-h2];exact h.ne r' o' h1
  · intro z;rw[z,h.o]at h1;cases h1
theorem SideAt.frame(h:SideAt e M s ad f d p S)(k:∀ a o,M a=some o->Own e s ad f S a->M' a=some o):SideAt e M' s ad f d p S where
 o:=k _ _ h.o (.inl rfl)
 G:=⟨fun r o hr=>k _ _ (h.G.at_ r o hr) (.inr ⟨r,o,hr,rfl⟩),h.G.inj⟩
 ne:=h.ne
structure Two(e:Env)(M:RM)(s1:Addr)(ad1:RA_)(f1:Fm)(d1 p1:Int)(S1:GS)(s2:Addr)(ad2:RA_)(f2:Fm)(d2 p2:Int)(S2:GS):Prop where
 a:SideAt e M s1 ad1 f1 d1 p1 S1
 b:SideAt e M s2 ad2 f2 d2 p2 S2
 dis:∀ x,Own e s1 ad1 f1 S1 x->Own e s2 ad2 f2 S2 x->False
theorem Two.symm(h:Two e M s1 ad1 f1 d1 p1 S1 s2 ad2 f2 d2 p2 S2):Two e M s2 ad2 f2 d2 p2 S2 s1 ad1 f1 d1 p1 S1:=⟨h.b,h.a,fun x a b=>h.dis x b a⟩
theorem Two.step(h:Two e M s1 ad1 f1 d1 p1 S1 s2 ad2 f2 d2 p2 S2)(st:Stp e M ad1 f1 S1 M' ad1' S1'):Two e M' s1 ad1' f1 d1 p1 S1' s2 ad2 f2 d2 p2 S2 where
 a:=h.a.step st
 b:=h.b.frame fun a o ha ow=>st.2.1.keep a o ha fun r u hr z=>h.dis a (.inr ⟨r,u,hr,z⟩) ow
 dis:=fun x hx hy=>by
  rcases hx with rfl|⟨r,o,hr,rfl⟩
  · exact h.dis _ (.inl rfl) hy
  · rcases st.2.1.new r o hr with⟨r',o',h1,h2⟩|h1
    · exact h.dis _ (.inr ⟨r',o',h1,h2⟩) hy
    · obtain⟨o,ho⟩:=h.b.some_ hy
      rw[ho]at h1;cases h1
theorem qrG{i:Inn}(tb:Tb e)(okf:f.Ok)(h:SideAt e M s ad f d p S)(ok:S.Ok f)(hun:S.un= [])(hT:∀ T∈S.tl,T.st= "note"/\T.ov=S.now+f.t0)(hd:S.ds.length<900)(oki:i.Ok)(hi:i.house=0/\i.door=d)
 (hq:∀ M' ad',Stp e M ad f S M' ad' ((S.out1 f i).1.wrote (.tup [i.deed,(S.out1 f i).2]))->Q (S.out1 f i).2 M'):sem (P e) (n+11) 55 [.ref s,.int i.place,.int i.far] M Q:=by
 have hs:=h.o;have hg:=h.G.at_ .g _ rfl;rw[us (i:=55) (d:=qaO) rfl];simp only[qaO];walk_at "ev";rw[hs];walk_at "ev";rw[hg];walk_at "ev";rw[hs];walk_at "ev";have:=qsX (n:=n) (Q:=Q) okf h.G ok tb oki hun hT hd hq;rw[hi.1,hi.2]at this;exact this
end
section
variable {e:Env}{n:Nat}{M M':RM}{Q:RVK}{f f1 f2:Fm}{S S' S1 S2 S1':GS}{d p d1 p1 d2 p2 fo far:Int}{s s1 s2:Addr}{ad ad' ad1 ad1' ad2:RA_}{w w1 w2:Bool}{x x1 x2:LR}
theorem qok(st:Stp e M ad f S M' ad' S'){a:Addr}(h:Own e s ad' f S' a):Own e s ad f S a∨M a=none:=by
 rcases h with rfl|⟨r,o,hr,rfl⟩
 · exact .inl (.inl rfl)
 · rcases st.2.1.new r o hr with⟨r',o',h1,h2⟩|h1
   · exact .inl (.inr ⟨r',o',h1,h2⟩)
   · exact .inr h1
def KK(M:RM)(O1 O2:Addr->Prop)(M':RM)(O1' O2':Addr->Prop):Prop:=∀ a o,M a=some o->¬O1 a->¬O2 a->M' a=some o/\¬O1' a/\¬O2' a
theorem kk1(st:Stp e M ad1 f1 S1 M' ad1' S1'){O2:Addr->Prop}:KK M (Own e s1 ad1 f1 S1) O2 M' (Own e s1 ad1' f1 S1') O2:=fun a o ha h1 h2=>
 ⟨st.2.1.keep a o ha fun r u hr z=>h1 (.inr ⟨r,u,hr,z⟩),fun h=>(qok st h).elim h1 fun z=>(by rw[ha]at z;cases z),h2⟩
theorem KK.symm{M M':RM}{O1 O2 O1' O2':Addr->Prop}(h:KK M O1 O2 M' O1' O2'):KK M O2 O1 M' O2' O1':=fun a o ha h1 h2=>by
 obtain⟨a,b,c⟩:=h a o ha h2 h1;exact⟨a,c,b⟩
theorem KK.trans{M M1 M2:RM}{O1 O2 P1 P2 R1 R2:Addr->Prop}(h:KK M O1 O2 M1 P1 P2)(k:KK M1 P1 P2 M2 R1 R2):KK M O1 O2 M2 R1 R2:=fun a o ha h1 h2=>by
 obtain⟨a1,b,c⟩:=h a o ha h1 h2;exact k a o a1 b c
def stB(f:Fm)(d p fo:Int)(w:Bool)(x:LR):GS:={ (if w=true then A1 f d p fo else A0 f d)with ds:=x }
theorem qtR(okf:f.Ok)(hp:p≠3):(stB f d p fo w x).out1 f (iP d p fo)=(stB f d p fo true x,qa5 f d):=by
 cases w
 · exact qpw okf hp x
 · exact qtT okf hp x
theorem qm5(hp:p≠3):(stB f d p fo w x).come1 f (m0 f d) p far=qby f d w (far==fo):=by
 cases w
 · exact qm6 hp x
 · exact qrT hp x
theorem qsU(okf:f.Ok)(hp:p≠3):(stB f d p fo w x).Ok f:=by
 cases w
 · exact { qvi (d:=d) okf trivial with }
 · exact { qyk (d:=d) (fo:=fo) okf hp with }
theorem qv9:(stB f d p fo w x).un= []:=by
 cases w
 · rfl
 · exact(qea (f:=f) (d:=d) (p:=p) (fo:=fo)).1.2
theorem qjp:∀ T∈(stB f d p fo w x).tl,T.i.kind= "note"/\T.st= "note"/\T.ov=(stB f d p fo w x).now+f.t0:=by
 cases w
 · exact qo9
 · exact qo8
theorem qjo{v:RV}:(stB f d p fo w x).wrote v=stB f d p fo w (x++ [v]):=rfl
theorem qeZ(okf:f.Ok):(∃ m,qa5 f d=led m/\(1<=m/\m<=9999)/\(m==m0 f d)=(f.lend== "door"))∨(f.lend≠"door"/\f.most<=1/\qa5 f d=kept "most")∨(f.lend≠"door"/\¬f.most<=1/\f.low=f.high/\qa5 f d=kept "full"):=by
 have hm:=ql8 (d:=d) okf;have h1:=okf.lo;have h2:=okf.hi;unfold qa5
 by_cases z:f.lend= "door"
 · rw[if_pos z];exact .inl ⟨m0 f d,rfl,⟨by omega,by omega⟩,by rw[z];simp⟩
 · rw[if_neg z]
   by_cases z2:f.most<=1
   · rw[if_pos z2];exact .inr (.inl ⟨z,z2,rfl⟩)
   · rw[if_neg z2]
     cases e1:qew f d with
     |none=>exact .inr (.inr ⟨z,z2,(qdh okf).mp e1,rfl⟩)
     |some m=>
      obtain⟨a,b,c⟩:=qca e1;exact .inl ⟨m,rfl,⟨by omega,by omega⟩,by rw[beq_eq_false_iff_ne.mpr a,beq_eq_false_iff_ne.mpr z]⟩
def arr(f1:Fm)(f2:Fm)(d2:Int)(w2:Bool):RV:=if f1.lend= "door"∨(¬f1.most<=1/\f1.low≠f1.high)then qby f2 d2 w2 (f1.lend== "door")else .non
theorem qfs(tb:Tb e)(ok1:f1.Ok)(ok2:f2.Ok)(hp1:1<=p1/\p1<=2)(hp2:1<=p2/\p2<=2)(hd1:1<=d1/\d1<=9999)(h:Two e M s1 ad1 f1 d1 p1 (stB f1 d1 p2 (m0 f2 d2) w1 x1) s2 ad2 f2 d2 p2 (stB f2 d2 p1 (m0 f1 d1) w2 x2))(l1:x1.length<900)(l2:x2.length<900)
 (hq:∀ M' ad1' x1' x2',Two e M' s1 ad1' f1 d1 p1 (stB f1 d1 p2 (m0 f2 d2) true x1') s2 ad2 f2 d2 p2 (stB f2 d2 p1 (m0 f1 d1) w2 x2')->x1'.length<=x1.length+1->x2'.length<=x2.length+1->
  KK M (Own e s1 ad1 f1 (stB f1 d1 p2 (m0 f2 d2) w1 x1)) (Own e s2 ad2 f2 (stB f2 d2 p1 (m0 f1 d1) w2 x2)) M' (Own e s1 ad1' f1 (stB f1 d1 p2 (m0 f2 d2) true x1')) (Own e s2 ad2 f2 (stB f2 d2 p1 (m0 f1 d1) w2 x2'))->Q (.tup [qa5 f1 d1,arr f1 f2 d2 w2]) M'):sem (P e) (n+12) 39 [.ref s1,.ref s2] M Q:=by
 have n1:p1≠3:=by omega
 have n2:p2≠3:=by omega
 have m2:=ql8 (d:=d2) ok2;have a1:=ok2.lo;have a2:=ok2.hi;have hs1:=h.a.o;have hs2:=h.b.o;rw[us (i:=39) (d:=qcc) rfl];simp only[qcc];walk_at "ev";rw[hs1];walk_at "ev";rw[hs2];walk_at "ev";rw[hs2];walk_at "ev";refine qrG (i:=iP d1 p2 (m0 f2 d2)) tb ok1 h.a (qsU ok1 n2) qv9 (fun T hT=>(qjp T hT).2) l1 ⟨rfl,⟨by show(0:Int)<=0;omega,by show(0:Int)<=99;omega⟩,hd1,⟨by show 1<=p2;omega,by show p2<=1000000;omega⟩,⟨by show 1<=m0 f2 d2;omega,by show m0 f2 d2<=9999;omega⟩⟩ ⟨rfl,rfl⟩ fun M1 ad1' st=>?_
 rw[qtR ok1 n2]at st ⊢;rw[qjo]at st;have h':=h.step st;have kk:KK M _ _ M1 _ _:=kk1 (s1:=s1) (O2:=Own e s2 ad2 f2 (stB f2 d2 p1 (m0 f1 d1) w2 x2)) st;rcases qeZ (d:=d1) ok1 with⟨m,e1,hm,e2⟩|⟨z,z2,e1⟩|⟨z,z2,z3,e1⟩
 · have hq':∀ M' x2',Two e M' s1 ad1' f1 d1 p1 (stB f1 d1 p2 (m0 f2 d2) true (x1++ [.tup [(iP d1 p2 (m0 f2 d2)).deed,qa5 f1 d1]])) s2 ad2 f2 d2 p2 (stB f2 d2 p1 (m0 f1 d1) w2 x2')->x2'.length<=x2.length+1->KK M1 (Own e s1 ad1' f1 (stB f1 d1 p2 (m0 f2 d2) true (x1++ [.tup [(iP d1 p2 (m0 f2 d2)).deed,qa5 f1 d1]]))) (Own e s2 ad2 f2 (stB f2 d2 p1 (m0 f1 d1) w2 x2)) M' (Own e s1 ad1' f1 (stB f1 d1 p2 (m0 f2 d2) true (x1++ [.tup [(iP d1 p2 (m0 f2 d2)).deed,qa5 f1 d1]]))) (Own e s2 ad2 f2 (stB f2 d2 p1 (m0 f1 d1) w2 x2'))->Q (.tup [qa5 f1 d1,arr f1 f2 d2 w2]) M':=fun M' x2' t l k=>hq M' ad1' _ x2' t (by rw[wad];exact wac _) l (kk.trans k)
   have hs1':=h'.a.o;have hs2':=h'.b.o;have hg2:=h'.b.G.at_ .g _ rfl;have hc:f1.lend= "door"∨(¬f1.most<=1/\f1.low≠f1.high):=by
    by_cases z:f1.lend= "door"
    · exact .inl z
    · refine .inr ?_
      unfold qa5 at e1;rw[if_neg z]at e1
      by_cases z2:f1.most<=1
      · rw[if_pos z2]at e1;unfold kept led at e1;injection e1 with e1;injection e1 with e1;injection e1 with e1;exact absurd e1 (by decide)
      · refine⟨z2,fun z3=>?_⟩
        rw[if_neg z2,(qdh ok1).mpr z3]at e1;unfold kept led at e1;injection e1 with e1;injection e1 with e1;injection e1 with e1;exact absurd e1 (by decide)
   rw[e1];unfold led;walk_at "ev";rw[hs2'];walk_at "ev";rw[hg2];walk_at "ev";rw[hs1'];walk_at "ev";rw[hs2'];walk_at "ev";refine qs1 (n:=n+4) (p:=p1) (far:=m) (m:=m0 f2 d2) h'.b.G (qsU ok2 n1) tb ok2 qjp m2.1 m2.2 ⟨by omega,by omega⟩ hm l2 fun M2 st2=>?_
   rw[qm5 n1,e2,qjo]at st2;rw[qm5 n1,e2];have fin:=hq' M2 _ (h'.symm.step st2).symm (by rw[wad];exact wac _) (kk1 (s1:=s2) st2).symm
   unfold arr at fin;rw[e1,if_pos hc]at fin;exact fin
 · have:=hq M1 ad1' _ x2 h' (by rw[wad];exact wac _) (Nat.le_succ _) kk
   rw[e1]at this ⊢;unfold arr at this;rw[if_neg (by rintro (q|q);exact z q;exact q.1 z2)]at this
   unfold kept at this ⊢;walk_at "ev";rw[if_pos (by decide)]
   exact this
 · have:=hq M1 ad1' _ x2 h' (by rw[wad];exact wac _) (Nat.le_succ _) kk
   rw[e1]at this ⊢;unfold arr at this;rw[if_neg (by rintro (q|q);exact z q;exact q.2 z3)]at this
   unfold kept at this ⊢;walk_at "ev";rw[if_pos (by decide)]
   exact this
end
section
variable {e:Env}{n:Nat}{M M':RM}{Q:RVK}{f:Fm}{d p fo:Int}{s:Addr}
theorem qet(tb:Tb e)(okf:f.Ok)(hd:1<=d/\d<=9999)(hs:M s=none)(hq:∀ M5 ad x,SideAt e M5 s ad f d p { A0 f d with ds:=x }->x.length<=1->(∀ b o,M b=some o->M5 b=some o)->(∀ a,Own e s ad f { A0 f d with ds:=x } a->M a=none)->Q .non M5):sem (P e) (n+12) 61 [.ref s,f.r,.int p,.int d] (put M s (.ins (e.C 5) [])) Q:=by
 rw[us (i:=61) (d:=qbk) rfl];simp only[qbk];walk_at "ev";intro g hg;refine qs0 (n:=n+4) okf hg fun M1 ad eg G k1 k2 k3=>⟨rfl,?_⟩
 have gs:g≠s:=(qab hg).2;have ms:M1 s=some (.ins (e.C 5) []):=k1 s _ qad gs.symm;have ns:∀ r o,ct e ad f (S0 f) r=some o->ad r≠s:=fun r o h z=>by have:=k2 r o h;rw[z,qad]at this;cases this
 rw[ms];walk_at "ev";rw[qaz];refine⟨rfl,?_⟩;walk_at "ev"
 let M3:=put M1 s (.ins (e.C 5) [("gate",.ref g),("place",.int p),("door",.int d)])
 have G3:qa4 e M3 ad f (S0 f):=⟨fun r o h=>by show put M1 s _ _=_;rw[qac (ns r o h)];exact G.at_ r o h,G.inj⟩
 have hg3:M3 g=some (qag e f.r (.ref (ad .t)) (.ref (ad .st)) (.ref (ad .dn)) .non):=by rw[<-eg];exact G3.at_ .g _ rfl
 have ms3:M3 s=some (.ins (e.C 5) [("gate",.ref g),("place",.int p),("door",.int d)]):=qad;show sem (P e) (n+11) 55 [.ref s,.int 3,.int 1] M3 _;rw[us (i:=55) (d:=qaO) rfl];simp only[qaO];walk_at "ev";rw[ms3,qaK];rw[show List.lookup ("gate":Str) [(("gate":Str),RV.ref g),("place",.int p),("door",.int d)]=some (.ref g)from rfl];walk_at "ev"
 rw[hg3];walk_at "ev";rw[ms3,qaK];rw[show List.lookup ("door":Str) [(("gate":Str),RV.ref g),("place",.int p),("door",.int d)]=some (.int d)from rfl];walk_at "ev"
 rw[<-eg];refine qsX (i:=iH d) (n:=n) okf G3 (qvg okf) tb ⟨rfl,⟨by show(0:Int)<=0;omega,by show(0:Int)<=99;omega⟩,hd,⟨by show(1:Int)<=3;omega,by show(3:Int)<=1000000;omega⟩,⟨by show(1:Int)<=1;omega,by show(1:Int)<=9999;omega⟩⟩ rfl nofun (by show 0<900;decide) fun M4 ad' st=>?_
 have eo:(S0 f).out1 f (iH d)=({ A0 f d with ds:=[] },led (m0 f d)):=qtS okf []
 rw[eo]at st ⊢;have ms4:M4 s=some (.ins (e.C 5) [("gate",.ref g),("place",.int p),("door",.int d)]):=st.2.1.keep _ _ ms3 ns;show rIx (.tup [.str "led",.int (m0 f d)]) (.int 1) M4 _;walk_at "ev";rw[ms4];walk_at "ev";have ns4:∀ r o,ct e ad' f (GS.wrote { A0 f d with ds:=[] } (.tup [(iH d).deed,led (m0 f d)])) r=some o->ad' r≠s:=fun r o h=>by
  rcases st.2.1.new r o h with⟨r',o',h1,h2⟩|h1
  · rw[<-h2];exact ns r' o' h1
  · intro z;rw[z,ms3]at h1;cases h1
 have sd:SideAt e (put M4 s (qbB e (.ref g) (.int p) (.int d) (.int (m0 f d)))) s ad' f d p { A0 f d with ds:=[.tup [(iH d).deed,led (m0 f d)]] }:=⟨by rw[qad,st.2.2.1,eg],⟨fun r o h=>by rw[qac (ns4 r o h)];exact st.1.at_ r o h,st.1.inj⟩,ns4⟩
 refine hq _ ad' _ sd (wac 1) (fun b o hb=>?_) fun a ha=>?_
 · have bs:b≠s:=qaZ hs hb
   have b1:put M s (.ins (e.C 5) []) b=some o:=by rw[qac bs];exact hb
   have bg:b≠g:=qaZ hg b1;have b3:M3 b=some o:=by show put M1 s _ b=_;rw[qac bs];exact k1 b o b1 bg
   rw[qac bs];refine st.2.1.keep b o b3 fun r u hr z=>?_
   have:=k2 r u hr;rw[z,b1]at this;cases this
 · rcases ha with rfl|⟨r,o,hr,rfl⟩
   · exact hs
   · rcases st.2.1.new r o hr with⟨r',o',h1,h2⟩|h1
     · rw[<-h2];exact(qab (k2 r' o' h1)).1
     · exact(qab (k3 _ (qab h1).1)).1
theorem qu7{xs:LR}:bfR "isinstance" [.ls xs,.ty "list"] M Q=Q (.bl true) M:=rfl
theorem qkP{a b:Int}(ha:1<=a/\a<=9999)(hb:1<=b/\b<=9999):sem (P e) (n+4) 17 [.tup [.int a,.int b]] M Q=Q (.bl true) M:=by
 rw[us (i:=17) (d:=qci) rfl];simp only[qci];walk_at "ev";rw[qbG,qbw ha.1 ha.2];walk_at "ev";rw[qbG,qbw hb.1 hb.2]
def stp(b:Bool):Str:=if b=true then "one" else "other"
theorem qsT{b:Bool}:inR (.str (stp b)) [.str "one",.str "other"]=true:=by cases b<;>decide+kernel
theorem qki{bs:List Bool}(hl:bs.length<=100)(hq:Q (.bl true) M):sem (P e) (n+4) 18 [.ls (bs.map fun b=>RV.str (stp b))] M Q:=by
 rw[us (i:=18) (d:=qcf) rfl];simp only[qcf];walk_at "ev";rw[qu7];walk_at "ev";rw[wab];rw[if_neg (by simp;omega)]
 refine⟨wa8 hl (by decide),qbd (bd:=qjP false 1) (fun _=>true) (fun _=>.bl true) qat _ _ (fun x hx=>?_) ?_⟩
 · obtain⟨b,_,rfl⟩:=wan.mp hx
   refine⟨[.str (stp b)],rfl,fun K hK=>hK,fun _ K hK=>?_⟩
   show(tr ((P e).Gn (n+3)) _).E [some (.str (stp b))] _ K;walk_at "ev";rw[qsT];walk_at "ev";exact⟨by rw[qjx];trivial,hK⟩
 · show bfR "all" [.ls ([]++((bs.map fun b=>RV.str (stp b)).filter fun _=>true).map fun _=>RV.bl true)] M Q
   rw[waI,waZ.mpr (fun _ _=>rfl),show List.map (fun _=>RV.bl true) (bs.map fun b=>RV.str (stp b))=(bs.map fun _=>true).map RV.bl by rw[was,was];rfl,qjO]
   have:(bs.map fun _=>true).all id=true:=by simp
   rw[this];exact hq
def row(st:Str)(f1:Fm)(d1:Int)(f2:Fm)(d2:Int)(w2:Bool):RV:=.tup [.str st,qa5 f1 d1,arr f1 f2 d2 w2]
def qaW(f1:Fm)(d1:Int)(f2:Fm)(d2:Int):List Bool->Bool->Bool->LR
 | [],_,_=>[]
 |true::r,_,w2=>row "one" f1 d1 f2 d2 w2::qaW f1 d1 f2 d2 r true w2
 |false::r,w1,_=>row "other" f2 d2 f1 d1 w1::qaW f1 d1 f2 d2 r w1 true
theorem qbY{f1 f2:Fm}{d1 d2:Int}:∀ {bs:List Bool} {w1 w2:Bool},(qaW f1 d1 f2 d2 bs w1 w2).length=bs.length
 | [],_,_=>rfl
 |true::r,_,w2=>by show _+1=_+1;rw[qbY]
 |false::r,w1,_=>by show _+1=_+1;rw[qbY]
theorem Two.other{f1 f2:Fm}{d1 d2 p1 p2:Int}{s1 s2 a:Addr}{ad1 ad2:RA_}{S1 S2:GS}{o:RO}(h:Two e M s1 ad1 f1 d1 p1 S1 s2 ad2 f2 d2 p2 S2)(n1:¬Own e s1 ad1 f1 S1 a)(n2:¬Own e s2 ad2 f2 S2 a):Two e (put M a o) s1 ad1 f1 d1 p1 S1 s2 ad2 f2 d2 p2 S2:=
 ⟨h.a.frame fun b u hb ow=>(qac (fun(z:b=a)=>n1 (z ▸ ow))).trans hb,h.b.frame fun b u hb ow=>(qac (fun(z:b=a)=>n2 (z ▸ ow))).trans hb,h.dis⟩
def qnd:T:=(.se (.if_ (.cm .Eq (.v 7) (.s "one")) (.se (.ex (.ap (.v 6) (.ec (.op .Add (.tu (.ec (.v 7) .e0)) (.ca 39 (.ec (.v 4) (.ec (.v 5) .e0)))) .e0))) .en) (.se (.if_ (.cm .Eq (.v 7) (.s "other")) (.se (.ex (.ap (.v 6) (.ec (.op .Add (.tu (.ec (.v 7) .e0)) (.ca 39 (.ec (.v 5) (.ec (.v 4) .e0)))) .e0))) .en) .ra) .en)) .en)
theorem qez{f1 f2:Fm}{d1 d2:Int}{s1 s2 p:Addr}{M0:RM}{r3:RV}(tb:Tb e)(ok1:f1.Ok)(ok2:f2.Ok)(hd1:1<=d1/\d1<=9999)(hd2:1<=d2/\d2<=9999){D:RD}:∀ (bs:List Bool) (w1 w2:Bool) (acc x1 x2:LR) (ad1 ad2:RA_) (M:RM) (z:Option RV),
 Two e M s1 ad1 f1 d1 1 (stB f1 d1 2 (m0 f2 d2) w1 x1) s2 ad2 f2 d2 2 (stB f2 d2 1 (m0 f1 d1) w2 x2)->M p=some (.lst acc)->¬Own e s1 ad1 f1 (stB f1 d1 2 (m0 f2 d2) w1 x1) p->¬Own e s2 ad2 f2 (stB f2 d2 1 (m0 f1 d1) w2 x2) p->
 (∀ b o,M0 b=some o->b≠p/\M b=some o/\¬Own e s1 ad1 f1 (stB f1 d1 2 (m0 f2 d2) w1 x1) b/\¬Own e s2 ad2 f2 (stB f2 d2 1 (m0 f1 d1) w2 x2) b)->x1.length+bs.length<800->x2.length+bs.length<800->acc.length+bs.length<800->
 (∀ M' z',(∀ b o,M0 b=some o->M' b=some o)->M' p=some (.lst (acc++qaW f1 d1 f2 d2 bs w1 w2))->D.nx [some f1.r,some f2.r,some (.tup [.int d1,.int d2]),some r3,some (.ref s1),some (.ref s2),some (.ref p),z'] M')->
 qeu (rgN 7) (tr ((P e).Gn (n+13)) qnd).S D okT id (bs.map fun b=>RV.str (stp b)) [some f1.r,some f2.r,some (.tup [.int d1,.int d2]),some r3,some (.ref s1),some (.ref s2),some (.ref p),z] M
 | [],w1,w2,acc,x1,x2,ad1,ad2,M,z,tw,hp,q1,q2,ke,l1,l2,l3,hq=>⟨qat,hq M z (fun b o hb=>(ke b o hb).2.1) (by rw[hp];simp[qaW])⟩
 |b::bs,w1,w2,acc,x1,x2,ad1,ad2,M,z,tw,hp,q1,q2,ke,l1,l2,l3,hq=>by
  rw[wah]at l1 l2 l3;cases b with
  |true=>
   refine⟨qat,?_⟩;show(tr ((P e).Gn (n+13)) qnd).S _ [some f1.r,some f2.r,some (.tup [.int d1,.int d2]),some r3,some (.ref s1),some (.ref s2),some (.ref p),some (.str "one")] M;unfold qnd;walk_at "ev";rw[hp];walk_at "ev";refine qfs (n:=n+1) tb ok1 ok2 ⟨by omega,by omega⟩ ⟨by omega,by omega⟩ hd1 tw (by omega) (by omega) fun M1 ad1' y1 y2 tw' m1 m2 kk=>?_
   obtain⟨hp1,q1',q2'⟩:=kk p _ hp q1 q2;rw[ql1];refine⟨(by decide:3<=sizeLine),acc,_,rfl,hp1,wai (show acc.length<800 by omega) (by decide),?_⟩
   refine qez (M0:=M0) tb ok1 ok2 hd1 hd2 bs true w2 (acc++ [row "one" f1 d1 f2 d2 w2]) y1 y2 ad1' ad2 _ _ (tw'.other q1' q2') qad q1' q2' (fun b o hb=>?_) (by omega) (by omega) (by rw[wad];show acc.length+1+bs.length<800;omega) fun M' z' h1 h2=>?_
   · obtain⟨n1,n2,n3,n4⟩:=ke b o hb
     obtain⟨k1,k2,k3⟩:=kk b o n2 n3 n4;exact⟨n1,by rw[qac n1];exact k1,k2,k3⟩
   · refine hq M' z' h1 ?_
     rw[h2,wa5];rfl
  |false=>
   refine⟨qat,?_⟩;show(tr ((P e).Gn (n+13)) qnd).S _ [some f1.r,some f2.r,some (.tup [.int d1,.int d2]),some r3,some (.ref s1),some (.ref s2),some (.ref p),some (.str "other")] M;unfold qnd;walk_at "ev";rw[if_neg (by decide)]
   rw[hp];walk_at "ev";refine qfs (n:=n+1) tb ok2 ok1 ⟨by omega,by omega⟩ ⟨by omega,by omega⟩ hd2 tw.symm (by omega) (by omega) fun M1 ad2' y2 y1 tw' m2 m1 kk=>?_
   obtain⟨hp1,q2',q1'⟩:=kk p _ hp q2 q1;rw[ql1];refine⟨(by decide:3<=sizeLine),acc,_,rfl,hp1,wai (show acc.length<800 by omega) (by decide),?_⟩
   refine qez (M0:=M0) tb ok1 ok2 hd1 hd2 bs w1 true (acc++ [row "other" f2 d2 f1 d1 w1]) y1 y2 ad1 ad2' _ _ (tw'.symm.other q1' q2') qad q1' q2' (fun b o hb=>?_) (by omega) (by omega) (by rw[wad];show acc.length+1+bs.length<800;omega) fun M' z' h1 h2=>?_
   · obtain⟨n1,n2,n3,n4⟩:=ke b o hb
     obtain⟨k1,k2,k3⟩:=kk b o n2 n4 n3;exact⟨n1,by rw[qac n1];exact k1,k3,k2⟩
   · refine hq M' z' h1 ?_
     rw[h2,wa5];rfl
theorem qcE{f1 f2:Fm}{d1 d2:Int}{bs:List Bool}(tb:Tb e)(ok1:f1.Ok)(ok2:f2.Ok)(hd1:1<=d1/\d1<=9999)(hd2:1<=d2/\d2<=9999)(hl:bs.length<=100)
 (hq:∀ M' a,(∀ b o,M b=some o->M' b=some o)->M a=none->M' a=some (.lst (qaW f1 d1 f2 d2 bs false false))->Q (.ref a) M'):sem (P e) (n+14) 62 [f1.r,f2.r,.tup [.int d1,.int d2],.ls (bs.map fun b=>RV.str (stp b))] M Q:=by
 rw[us (i:=62) (d:=qcW) rfl];simp only[qcW];walk_at "ev";refine qer (n:=n+8) ok1 ?_;walk_at "ev";refine qer (n:=n+8) ok2 ?_;walk_at "ev";rw[qkP (n:=n+9) hd1 hd2];walk_at "ev";refine qki (n:=n+9) hl ?_;walk_at "ev";intro s1 hs1;refine qet (n:=n) tb ok1 hd1 hs1 fun M1 ad1 x1 sd1 lx1 k1 o1=>⟨rfl,?_⟩
 intro s2 hs2;refine qet (n:=n) tb ok2 hd2 hs2 fun M2 ad2 x2 sd2 lx2 k2 o2=>⟨rfl,?_⟩
 intro p hp;have o1':∀ a,Own e s1 ad1 f1 { A0 f1 d1 with ds:=x1 } a->∃ o,M1 a=some o:=fun a h=>sd1.some_ h
 have tw:Two e M2 s1 ad1 f1 d1 1 (stB f1 d1 2 (m0 f2 d2) false x1) s2 ad2 f2 d2 2 (stB f2 d2 1 (m0 f1 d1) false x2):=⟨sd1.frame fun a o h _=>k2 a o h,sd2,fun a h1 h2=>by
  obtain⟨o,h3⟩:=o1' a h1;rw[o2 a h2]at h3;cases h3⟩
 have pn:M p=none:=by
  cases eb:M p with
  |none=>rfl
  |some o=>rw[k2 _ _ (k1 _ _ eb)]at hp;cases hp
 have q1:¬Own e s1 ad1 f1 (stB f1 d1 2 (m0 f2 d2) false x1) p:=fun h=>by
  obtain⟨o,h3⟩:=tw.a.some_ h;rw[hp]at h3;cases h3
 have q2:¬Own e s2 ad2 f2 (stB f2 d2 1 (m0 f1 d1) false x2) p:=fun h=>by
  obtain⟨o,h3⟩:=tw.b.some_ h;rw[hp]at h3;cases h3
 refine qez (M0:=M) tb ok1 ok2 hd1 hd2 bs false false [] x1 x2 ad1 ad2 _ none (tw.other q1 q2) qad q1 q2 (fun b o hb=>?_) (by omega) (by omega) (by show 0+bs.length<800;omega) fun M' z' h1 h2=>?_
 · have bp:b≠p:=qaZ pn hb
   refine⟨bp,by rw[qac bp];exact k2 _ _ (k1 _ _ hb),fun h=>?_,fun h=>?_⟩
   · have:=o1 b h
     rw[hb]at this;cases this
   · have:=o2 b h
     rw[k1 _ _ hb]at this;cases this
 · walk_at "ev"
   exact hq M' p h1 pn h2
end
section
variable {e:Env}{n:Nat}{M:RM}{Q:RVK}
theorem qkK{xs:List Int}{k:Nat}:sem (P e) (n+1) 40 [.ls (xs.map RV.int),.int k] M Q=Q (.int (xs.getD k 0)) M:=by
 rw[us (i:=40) (d:=qbO) rfl];simp only[qbO];walk_at "ev";rw[wab]
 by_cases h:k<xs.length
 · rw[if_pos (by simpa using h),qcm (v:=RV.int (xs.getD k 0)) (by simp[h])]
   rfl
 · rw[if_neg (by simpa using h)]
   simp[Nat.le_of_not_lt h]
structure Bag where
 a:Int
 b:Int
 c:Int
def Bag.l(g:Bag):RO:=.lst [.int g.a,.int g.b,.int g.c]
structure Bag.Ok(g:Bag):Prop where
 a:0<=g.a
 b:0<=g.b/\g.b<2305843009213693951
 c:0<=g.c/\g.c<1000000
theorem qkg{x:Addr}{g:Bag}{m:Int}(hx:M x=some g.l)(ha:0<g.a)(hm:0<m)(hm2:m<1073741824)(hq:Q (.int (g.a % m)) (put M x (Bag.l ⟨g.a / m,g.b,g.c⟩))):sem (P e) (n+1) 42 [.ref x,.int m] M Q:=by
 unfold Bag.l at hx;rw[us (i:=42) (d:=qa6) rfl];simp only[qa6];walk_at "evs";exact hq
def qud:Int:=2305843009213693951
def qxY(b c:Int):Int:=((((b+1000003*c) % qud)*((b+1000003*c) % qud)+7919*c ^ 2+5) % qud) ^ 3 % qud / 13
theorem qrb{i j:Int}(h1:-(2 ^ 64)<i)(h2:i<2 ^ 64):CMul i j:=.inl ⟨h1,h2⟩
theorem qgY{x:Addr}{g:Bag}{m:Int}(hx:M x=some g.l)(ok:g.Ok)(ha:¬0<g.a)(hm:0<m)(hq:Q (.int (qxY g.b (g.c+1) % m)) (put M x (Bag.l ⟨g.a,g.b,g.c+1⟩))):sem (P e) (n+1) 42 [.ref x,.int m] M Q:=by
 obtain⟨_,⟨b1,b2⟩,c1,c2⟩:=ok;unfold Bag.l at hx;rw[us (i:=42) (d:=qa6) rfl];simp only[qa6];walk_at "evs";have e1:=Int.emod_nonneg (g.b+1000003*(g.c+1)) (b:=2305843009213693951) (by decide)
 have e2:=Int.emod_lt_of_pos (g.b+1000003*(g.c+1)) (b:=2305843009213693951) (by decide)
 have e3:∀ z:Int,(z % 2305843009213693951).natAbs<2 ^ 64:=fun z=>by
  have h1:=Int.emod_nonneg z (b:=2305843009213693951) (by decide)
  have h2:=Int.emod_lt_of_pos z (b:=2305843009213693951) (by decide)
  omega
 exact⟨qrb (by decide) (by decide),qrb (by omega) (by omega),by omega,qrb (by decide) (by decide),e3 _,hq⟩
def qjV(cell turn:Int):Bag:=⟨if 10 ^ 18<=cell then cell-10 ^ 18 else 0,cell % qud,turn⟩
theorem qwZ:(10:Int) ^ Int.toNat 18=10 ^ 18:=rfl
theorem qti{c t:Int}(hq:∀ p,M p=none->Q (.ref p) (put M p (qjV c t).l)):sem (P e) (n+1) 41 [.int c,.int t] M Q:=by
 rw[us (i:=41) (d:=qbN) rfl];simp only[qbN];walk_at "ev";refine⟨by decide,?_⟩
 rw[qwZ];unfold qjV Bag.l at hq
 by_cases h:(10:Int) ^ 18<=c
 · rw[if_pos (by simpa using h)]
   simp only[if_pos h]at hq;exact⟨by decide,hq⟩
 · rw[if_neg (by simpa using h)]
   simp only[if_neg h]at hq;exact hq
structure Bag.In(g:Bag)(k:Int):Prop where
 a:0<=g.a
 b:0<=g.b/\g.b<2305843009213693951
 c:0<=g.c/\g.c<=k
theorem qeW{a m:Int}(hm:0<m):0<=a % m/\a % m<m:=⟨Int.emod_nonneg _ (by omega),Int.emod_lt_of_pos _ hm⟩
theorem qa1{x:Addr}{g:Bag}{m k:Int}(hx:M x=some g.l)(ok:g.In k)(hk:k<999999)(hm:0<m)(hm2:m<1073741824)(hq:∀ v g',0<=v->v<m->Bag.In g' (k+1)->Q (.int v) (put M x g'.l)):sem (P e) (n+1) 42 [.ref x,.int m] M Q:=by
 obtain⟨o1,o2,o3,o4⟩:=ok
 by_cases h:0<g.a
 · exact qkg hx h hm hm2 (hq _ _ (qeW hm).1 (qeW hm).2 ⟨Int.ediv_nonneg o1 (by omega),o2,o3,by show g.c<=k+1;omega⟩)
 · exact qgY hx ⟨o1,o2,o3,by omega⟩ h hm (hq _ _ (qeW hm).1 (qeW hm).2 ⟨o1,o2,by show 0<=g.c+1;omega,by show g.c+1<=k+1;omega⟩)
theorem qxE{xs:LR}{v:Int}(h0:0<=v)(h1:v<xs.length):∃ y∈xs,∀ {M:RM} {Q:RVK},rIx (.ls xs) (.int v) M Q=Q y M:=by
 obtain⟨j,rfl⟩:∃ j:Nat,v=j:=⟨v.toNat,by omega⟩
 have hj:j<xs.length:=by omega
 refine⟨xs[j],List.getElem_mem _,fun {M Q}=>?_⟩
 rw[qsp,qcm (v:=xs[j]) (by simp[hj])];rfl
theorem qxm{a:Int}:0<=a % 2305843009213693951/\a % 2305843009213693951<2305843009213693951:=qeW (by decide)
theorem qqb{c:Int}:(qjV c 0).In 0:=⟨by unfold qjV;dsimp only;split<;>omega,qxm,⟨Int.le_refl _,Int.le_refl _⟩⟩
theorem qc5{bd:RV->Option (LR)}{md:Bool}{ok:RM->Prop}{un:RM->RM}{te:RTE}{tt:RTT}{base:List (Option RV)}(I:LR->RM->Prop)(ht:∀ σ M (K:Bool->RM->Prop),K true M->tt σ M K)(hok:∀ acc M,I acc M->ok M):∀ (xs acc:LR) (M:RM),I acc M->
 (∀ x∈xs,∀ acc2 M,acc2.length<acc.length+xs.length->I acc2 M->∃ bs,bd x=some bs/\∀ K:RVK,(∀ v M',I (acc2++ [v]) M'->K v M')->te (bs.map some++base) M K)->
 (∀ acc' M',acc'.length=acc.length+xs.length->I acc' M'->qvB md acc' (un M') Q)->qaR bd md ok un tt te base xs acc M Q
 | [],acc,M,h,_,hq=>⟨hok _ _ h,hq acc M rfl h⟩
 |x::xs,acc,M,h,hs,hq=>by
  obtain⟨bs,h1,h2⟩:=hs x (.head _) acc M (by rw[wah];omega) h
  refine⟨hok _ _ h,?_⟩;rw[h1];refine ht _ _ _ ⟨fun _=>h2 _ fun v M' h'=>qc5 I ht hok xs _ M' h' (fun y hy acc2 M2 hlt=>hs y (.tail _ hy) acc2 M2 (by rw[wad]at hlt;rw[wah];have:acc2.length<acc.length+1+xs.length:=hlt;omega)) fun acc' M'' hl h''=>hq acc' M'' ?_ h'',fun z=>by cases z⟩
  rw[hl,wad];show acc.length+1+xs.length=acc.length+(xs.length+1);omega
theorem qfm{xs:LR}{v:Int}(h0:0<=v)(h1:v<xs.length)(p:RV->Prop)(hp:∀ y∈xs,p y):∃ y,p y/\∀ {M:RM} {Q:RVK},rIx (.ls xs) (.int v) M Q=Q y M:=by
 obtain⟨y,h1,h2⟩:=qxE h0 h1;exact⟨y,hp y h1,h2⟩
theorem qn0{x:Addr}{g:Bag}{k:Int}(hx:M x=some g.l)(ok:g.In k)(hk:k<900000)(hq:∀ f g',Fm.Ok f->Bag.In g' (k+18)->Q f.r (put M x g'.l)):sem (P e) (n+2) 19 [.ref x] M Q:=by
 rw[us (i:=19) (d:=qbh) rfl];simp only[qbh];walk_at "ev";refine qa1 hx ok (by omega) (by decide) (by decide) fun v1 g1 a1 b1 ok1=>?_
 walk_at "ev";refine qa1 qad ok1 (by omega) (by decide) (by decide) fun v2 g2 a2 b2 ok2=>?_
 obtain⟨y,⟨many,rfl,m1,m2⟩,ey⟩:=qfm (xs:=[.int 1,.int 2,.int 3,.int (1+v1),.int 200]) a2 b2 (fun y=>∃ m:Int,y= .int m/\1<=m/\m<=200) (by
  intro y hy;simp only[waf,wax,or_false]at hy;rcases hy with rfl|rfl|rfl|rfl|rfl
  · exact⟨_,rfl,by decide,by decide⟩
  · exact⟨_,rfl,by decide,by decide⟩
  · exact⟨_,rfl,by decide,by decide⟩
  · exact⟨_,rfl,by omega,by omega⟩
  · exact⟨_,rfl,by decide,by decide⟩)
 rw[ey];walk_at "ev";refine qa1 qad ok2 (by omega) (by omega) (by omega) fun v3 g3 a3 b3 ok3=>?_
 walk_at "ev";refine qa1 qad ok3 (by omega) (by decide) (by decide) fun v4 g4 a4 b4 ok4=>?_
 obtain⟨y,⟨low,rfl,w1,w2⟩,ey⟩:=qfm (xs:=[.int 1,.int (10000-many),.int (1+v3)]) a4 b4 (fun y=>∃ m:Int,y= .int m/\1<=m/\m<=10000-many) (by
  intro y hy;simp only[waf,wax,or_false]at hy;rcases hy with rfl|rfl|rfl
  · exact⟨_,rfl,by omega,by omega⟩
  · exact⟨_,rfl,by omega,by omega⟩
  · exact⟨_,rfl,by omega,by omega⟩)
 rw[ey];walk_at "ev";refine qa1 qad ok4 (by omega) (by decide) (by decide) fun v5 g5 a5 b5 ok5=>?_
 obtain⟨y,⟨le,rfl,hle⟩,ey⟩:=qfm (xs:=[.str "door",.str "place",.str "talk"]) a5 b5 (fun y=>∃ m:Str,y= .str m/\(m= "door"∨m= "place"∨m= "talk")) (by
  intro y hy;simp only[waf,wax,or_false]at hy;rcases hy with rfl|rfl|rfl
  · exact⟨_,rfl,.inl rfl⟩
  · exact⟨_,rfl,.inr (.inl rfl)⟩
  · exact⟨_,rfl,.inr (.inr rfl)⟩)
 rw[ey];walk_at "ev";refine qa1 qad ok5 (by omega) (by decide) (by decide) fun v6 g6 a6 b6 ok6=>?_
 obtain⟨y,⟨si,rfl,hsi⟩,ey⟩:=qfm (xs:=[.str "all",.str "place",.str "talk"]) a6 b6 (fun y=>∃ m:Str,y= .str m/\(m= "all"∨m= "place"∨m= "talk")) (by
  intro y hy;simp only[waf,wax,or_false]at hy;rcases hy with rfl|rfl|rfl
  · exact⟨_,rfl,.inl rfl⟩
  · exact⟨_,rfl,.inr (.inl rfl)⟩
  · exact⟨_,rfl,.inr (.inr rfl)⟩)
 rw[ey];walk_at "ev";refine qa1 qad ok6 (by omega) (by decide) (by decide) fun v7 g7 a7 b7 ok7=>?_
 obtain⟨y,⟨pk,rfl,hpk⟩,ey⟩:=qfm (xs:=[.str "next",.str "keep"]) a7 b7 (fun y=>∃ m:Str,y= .str m/\(m= "next"∨m= "keep")) (by
  intro y hy;simp only[waf,wax,or_false]at hy;rcases hy with rfl|rfl
  · exact⟨_,rfl,.inl rfl⟩
  · exact⟨_,rfl,.inr rfl⟩)
 rw[ey];walk_at "ev";refine qa1 qad ok7 (by omega) (by decide) (by decide) fun v8 g8 a8 b8 ok8=>?_
 walk_at "ev";refine qa1 qad ok8 (by omega) (by decide) (by decide) fun v9 g9 a9 b9 ok9=>?_
 obtain⟨y,⟨most,rfl,u1,u2⟩,ey⟩:=qfm (xs:=[.int 1,.int 2,.int 200,.int (1+v8)]) a9 b9 (fun y=>∃ m:Int,y= .int m/\1<=m/\m<=200) (by
  intro y hy;simp only[waf,wax,or_false]at hy;rcases hy with rfl|rfl|rfl|rfl
  · exact⟨_,rfl,by omega,by omega⟩
  · exact⟨_,rfl,by omega,by omega⟩
  · exact⟨_,rfl,by omega,by omega⟩
  · exact⟨_,rfl,by omega,by omega⟩)
 rw[ey];walk_at "ev";refine qa1 qad ok9 (by omega) (by decide) (by decide) fun v10 g10 a10 b10 ok10=>?_
 walk_at "ev";refine qa1 qad ok10 (by omega) (by decide) (by decide) fun v11 g11 a11 b11 ok11=>?_
 obtain⟨y,⟨far,rfl,z1,z2⟩,ey⟩:=qfm (xs:=[.int 4,.int 12,.int 1000000]) a11 b11 (fun y=>∃ m:Int,y= .int m/\1<=m/\m<=1000000) (by
  intro y hy;simp only[waf,wax,or_false]at hy;rcases hy with rfl|rfl|rfl
  · exact⟨_,rfl,by omega,by omega⟩
  · exact⟨_,rfl,by omega,by omega⟩
  · exact⟨_,rfl,by omega,by omega⟩)
 rw[ey];walk_at "ev";refine⟨by decide,by decide,by decide,?_⟩
 refine qc5 (fun acc M'=>∃ (ts:List Int) (g':Bag),acc=ts.map RV.int/\(∀ t∈ts,1<=t/\t<=far)/\M'=put M x g'.l/\g'.In (k+11+acc.length)) (fun σ M K h=>h) (fun _ _ _=>qat) _ _ _ ⟨[],g11,rfl,wag _,rfl,by show g11.In (k+11+0);refine⟨ok11.a,ok11.b,ok11.c.1,by have:=ok11.c.2;omega⟩⟩ (fun y hy acc M' hlt h=>?_) fun acc' M' hl h=>?_
 · obtain⟨ts,g',rfl,h2,rfl,h3⟩:=h
   rw[wab]at h3;refine⟨[y],rfl,fun K hK=>?_⟩
   show(tr ((P e).Gn (n+1)) _).E [some y,some (.ref x),some (.int far)] _ K;walk_at "ev";have hts:ts.length<3:=by rw[wab]at hlt;exact hlt
   refine qa1 qad h3 (by omega) (by omega) (by omega) fun v g2 a b o=>?_
   walk_at "ev";refine hK _ _ ⟨ts++ [1+v],g2,by rw[wao];rfl,fun t ht=>?_,rfl,⟨o.a,o.b,o.c.1,by have:=o.c.2;rw[wad,wab];show g2.c<=k+11+((ts.length+1:Nat):Int);omega⟩⟩
   rcases wap.mp ht with h|h
   · exact h2 t h
   · cases wam.mp h;omega
 · obtain⟨ts,g',rfl,h2,rfl,h3⟩:=h
   rw[wab]at h3;have hl:ts.length=3:=by rw[wab]at hl;exact hl
   match ts,hl with
   | [t0,t1,t2],_=>
   have q0:=h2 t0 (by simp)
   have q1:=h2 t1 (by simp)
   have q2:=h2 t2 (by simp)
   have h3:g'.In (k+11+3):=h3;rw[qcl];show btR "tuple" [.ls [.int t0,.int t1,.int t2]] (put M x g'.l) _;rw[show ∀ (xs:LR) (M:RM) (Q:RVK),btR "tuple" [.ls xs] M Q=Q (.tup xs) M from fun _ _ _=>rfl]
   refine qa1 qad h3 (by omega) (by decide) (by decide) fun v12 g12 a12 b12 ok12=>?_
   refine qa1 qad ok12 (by omega) (by decide) (by decide) fun v13 g13 a13 b13 ok13=>?_
   refine qa1 qad ok13 (by omega) (by decide) (by decide) fun v14 g14 a14 b14 ok14=>?_
   obtain⟨y,⟨rest,rfl,y1,y2⟩,ey⟩:=qfm (xs:=[.int 0,.int v12,.int v13,.int 1000000]) a14 b14 (fun y=>∃ m:Int,y= .int m/\0<=m/\m<=1000000) (by
    intro y hy;simp only[waf,wax,or_false]at hy;rcases hy with rfl|rfl|rfl|rfl
    · exact⟨_,rfl,by omega,by omega⟩
    · exact⟨_,rfl,by omega,by omega⟩
    · exact⟨_,rfl,by omega,by omega⟩
    · exact⟨_,rfl,by omega,by omega⟩)
   rw[ey];walk_at "ev";have:=hq ⟨low,low+many-1,le,si,pk,most,v10==1,t0,t1,t2,rest⟩ g14 ⟨by dsimp only;omega,by dsimp only;omega,by dsimp only;omega,by dsimp only;omega,hle,hsi,hpk,⟨u1,u2⟩,by dsimp only;omega,by dsimp only;omega,by dsimp only;omega,⟨y1,y2⟩⟩ ⟨ok14.a,ok14.b,ok14.c.1,by have:=ok14.c.2;omega⟩
   exact this
end
section
variable {e:Env}{n:Nat}{M:RM}{Q:RVK}{f1 f2:Fm}{d1 d2:Int}{bs:List Bool}{w1 w2:Bool}{a:Addr}
def inG:RV->Bool
 | .tup [_,_,.tup (.str s::_)]=>s== "in"
 |_=>false
def qA6:RV->RV
 | .tup (x::_)=>x
 |_=>.non
def qcQ(rs:LR):LR:=(rs.filter inG).map qA6
def qo6(x:RV):Prop:=∃ (s:Str) (b:RV) (w:Str) (c:RV),x= .tup [.str s,.tup [.str w,b],c]/\(c= .non∨∃ (w:Str) (r:LR),c= .tup (.str w::r))
theorem qlC(tb:Tb e)(ok1:f1.Ok)(ok2:f2.Ok)(hd1:1<=d1/\d1<=9999)(hd2:1<=d2/\d2<=9999)(hl:bs.length<=100)(hr:∀ x∈qaW f1 d1 f2 d2 bs false false,qo6 x)
 (hq:∀ M',(∀ b o,M b=some o->M' b=some o)->Q (.bl (inR (.str "one") (qcQ (qaW f1 d1 f2 d2 bs false false))&&inR (.str "other") (qcQ (qaW f1 d1 f2 d2 bs false false)))) M'):sem (P e) (n+15) 63 [f1.r,f2.r,.tup [.int d1,.int d2],.ls (bs.map fun b=>RV.str (stp b))] M Q:=by
 rw[us (i:=63) (d:=qgl) rfl];simp only[qgl];walk_at "ev";refine qcE tb ok1 ok2 hd1 hd2 hl fun M' a k1 k2 h=>?_
 unfold kS;simp only[h];refine⟨wa8 (by rw[qbY];exact hl) (by decide),qbd inG qA6 h _ _ (fun x hx=>?_) ?_⟩
 · obtain⟨s,b,w,c,rfl,hc⟩:=hr x hx
   refine⟨[.str s,.tup [.str w,b],c],rfl,fun K hK=>?_,fun _ K hK=>?_⟩
   · show(tr ((P e).Gn (n+14)) _).T [some (.str s),some (.tup [.str w,b]),some c] M' K
     rcases hc with rfl|⟨w',r,rfl⟩
     · walk_at "ev"
       exact hK
     · walk_at "ev"
       exact hK
   · show(tr ((P e).Gn (n+14)) _).E [some (.str s),some (.tup [.str w,b]),some c] M' K
     walk_at "ev";exact hK
 · rw[qcl,waI]
   show qaR _ _ _ _ _ _ [some (.ls (qcQ (qaW f1 d1 f2 d2 bs false false)))] _ _ M' _;refine qbd (bd:=qjP false 1) (fun _=>true) (fun x=>.bl (inR x (qcQ (qaW f1 d1 f2 d2 bs false false)))) qat _ _ (fun x hx=>?_) ?_
   · refine⟨[x],rfl,fun K hK=>hK,fun _ K hK=>?_⟩
     show(tr ((P e).Gn (n+14)) _).E [some x,some (.ls (qcQ (qaW f1 d1 f2 d2 bs false false)))] M' K;walk_at "ev";have hx1:okR 15 x=true:=by
      simp only[waf,wax,or_false]at hx;rcases hx with rfl|rfl<;>rfl
     have hx2:(qcQ (qaW f1 d1 f2 d2 bs false false)).all (okR 15)=true:=wav.mpr fun y hy=>by
      obtain⟨z,hz,rfl⟩:=wan.mp hy;obtain⟨s,b,w,c,rfl,hc⟩:=hr z (waR.mp hz).1;rfl
     exact⟨hx1,hx2,hK⟩
   · rw[qcl]
     exact(qjO (bs:=[inR (.str "one") (qcQ (qaW f1 d1 f2 d2 bs false false)),inR (.str "other") (qcQ (qaW f1 d1 f2 d2 bs false false))])).mpr (by simpa using hq M' k1)
theorem qpg{st:Str}(ok1:f1.Ok):qo6 (row st f1 d1 f2 d2 w2)/\okR 15 (row st f1 d1 f2 d2 w2)=true:=by
 have ha:(∃ w r,arr f1 f2 d2 w2= .tup (.str w::r)/\∀ y∈r,okR 13 y=true)∨arr f1 f2 d2 w2= .non:=by
  unfold arr qby;split
  · split
    · exact .inl ⟨_,_,rfl,by intro y hy;simp only[waf,wax,or_false]at hy;rcases hy with rfl|rfl<;>rfl⟩
    · exact .inl ⟨_,_,rfl,by intro y hy;cases wam.mp hy;rfl⟩
  · exact .inr rfl
 have hc:arr f1 f2 d2 w2= .non∨∃ (w:Str) (r:LR),arr f1 f2 d2 w2= .tup (.str w::r):=by
  rcases ha with⟨w,r,e1,_⟩|e1
  · exact .inr ⟨w,r,e1⟩
  · exact .inl e1
 have hk:okR 14 (arr f1 f2 d2 w2)=true:=by
  rcases ha with⟨w,r,e1,h⟩|e1
  · rw[e1];show(RV.str w::r).all (okR 13)=true;rw[wal,wav.mpr h];rfl
  · rw[e1];rfl
 unfold row;rcases qeZ (d:=d1) ok1 with⟨m,e1,_⟩|⟨_,_,e1⟩|⟨_,_,_,e1⟩
 · rw[e1];exact⟨⟨_,_,_,_,rfl,hc⟩,by show List.all [_,_,_] (okR 14)=true;rw[wal,wal,wal,hk];rfl⟩
 · rw[e1];exact⟨⟨_,_,_,_,rfl,hc⟩,by show List.all [_,_,_] (okR 14)=true;rw[wal,wal,wal,hk];rfl⟩
 · rw[e1];exact⟨⟨_,_,_,_,rfl,hc⟩,by show List.all [_,_,_] (okR 14)=true;rw[wal,wal,wal,hk];rfl⟩
theorem qb9(ok1:f1.Ok)(ok2:f2.Ok):∀ {bs:List Bool} {w1 w2:Bool},∀ x∈qaW f1 d1 f2 d2 bs w1 w2,qo6 x/\okR 15 x=true
 | [],_,_,x,h=>by cases h
 |true::r,_,w2,x,h=>by
  rcases waf.mp h with rfl|h
  · exact qpg ok1
  · exact qb9 ok1 ok2 x h
 |false::r,w1,_,x,h=>by
  rcases waf.mp h with rfl|h
  · exact qpg ok2
  · exact qb9 ok1 ok2 x h
def qfv:RV->RV
 | .tup [a,.tup (.str w::r),c]=>.tup [a,if(w== "led")=true then .str "led" else .tup (.str w::r),c]
 |x=>x
theorem qqG{rs:LR}(h:M a=some (.lst rs))(hl:rs.length<1000)(hr:∀ x∈rs,qo6 x)(hq:Q (.ls (rs.map qfv)) M):sem (P e) (n+1) 20 [.ref a] M Q:=by
 rw[us (i:=20) (d:=qbv) rfl];simp only[qbv];walk_at "ev";unfold kS;simp only[h];refine⟨waB hl (by decide),qbd (fun _=>true) qfv h _ _ (fun x hx=>?_) ?_⟩
 · obtain⟨s,b,w,c,rfl,hc⟩:=hr x hx
   refine⟨[.tup [.str s,.tup [.str w,b],c]],rfl,fun K hK=>hK,fun _ K hK=>?_⟩
   show(tr ((P e).Gn n) _).E [some (.tup [.str s,.tup [.str w,b],c])] M K;walk_at "ev";have hK:K (.tup [.str s,if(w== "led")=true then .str "led" else .tup [.str w,b],c]) M:=hK
   by_cases z:(w==("led":Str))=true
   · rw[if_pos z]at hK ⊢;exact hK
   · rw[if_neg z]at hK ⊢;exact hK
 · rw[qcl,waI,waZ.mpr (fun _ _=>rfl)]
   exact hq
def qnK(s:Str):Str:=if s= "one" then "other" else "one"
def nmD:LKR:=[(.inr "one",.str "other"),(.inr "other",.str "one")]
def qk2:RV->RV
 | .tup (.str s::r)=>.tup (.str (qnK s)::r)
 |x=>x
theorem qnX{rs:LR}(h:M a=some (.lst rs))(hl:rs.length<1000)(hr:∀ x∈rs,∃ (s:Str) (b c:RV),x= .tup [.str s,b,c]/\(s= "one"∨s= "other"))(hq:∀ M',(∀ b o,M b=some o->M' b=some o)->Q (.ls (rs.map qk2)) M'):sem (P e) (n+1) 21 [.ref a] M Q:=by
 rw[us (i:=21) (d:=qbg) rfl];simp only[qbg];walk_at "ev";intro p hp;have ap:a≠p:=qaZ hp h;have h':put M p (.dk nmD) a=some (.lst rs):=by rw[qac ap];exact h
 refine show put M p (.dk []) p=some (.dk [])/\kS _ (.ref a) (put (put M p (.dk [])) p (.dk nmD))from⟨qad,?_⟩
 rw[qbi];unfold kS;simp only[h'];refine⟨waB hl (by decide),qbd (fun _=>true) qk2 h' _ _ (fun x hx=>?_) ?_⟩
 · obtain⟨s,b,c,rfl,hs⟩:=hr x hx
   refine⟨[.tup [.str s,b,c]],rfl,fun K hK=>hK,fun _ K hK=>?_⟩
   show(tr ((P e).Gn n) _).E [some (.tup [.str s,b,c]),some (.ref p)] (put M p (.dk nmD)) K;walk_at "ev";have e1:qgu [RV.str s,b,c] (some 1) none= [b,c]:=rfl;rw[e1];rcases hs with rfl|rfl
   · exact⟨(by decide:3<=sizeLine),hK⟩
   · exact⟨(by decide:3<=sizeLine),hK⟩
 · rw[qcl,waI,waZ.mpr (fun _ _=>rfl)]
   exact hq _ fun b o hb=>(qac (qaZ hp hb)).trans hb
end
def qBz:T:=.set 3 (.lm (.ec (.b false) (.ec (.b false) .e0)))
def qBy:T:=.set 4 (.lm .e0)
def qnv:T:=.set 6 (.bt "int" (.ec (.cm .Eq (.v 5) (.s "other")) .e0))
def qnu:T:=.set 7 (.ix (.v 0) (.v 6))
def qnt:T:=.set 8 (.ix (.v 0) (.op .Sub (.i 1) (.v 6)))
def qns:T:=.set 9 (.s "led")
def qnr:T:=.if_ (.an (.cm .NotEq (.ix (.v 7) (.i 2)) (.s "door")) (.cm .Lt (.ix (.v 7) (.i 5)) (.i 2))) (.se (.set 9 (.s "most")) .en) (.se (.if_ (.an (.cm .NotEq (.ix (.v 7) (.i 2)) (.s "door")) (.cm .Eq (.ix (.v 7) (.i 0)) (.ix (.v 7) (.i 1)))) (.se (.set 9 (.s "full")) .en) .en) .en)
def qnq:T:=.set 10 (.cm .Eq (.ix (.v 8) (.i 3)) (.s "all"))
def qnp:T:=.if_ (.an (.cm .Eq (.ix (.v 8) (.i 2)) (.s "door")) (.ix (.v 3) (.op .Sub (.i 1) (.v 6)))) (.se (.set 10 (.or (.v 10) (.or (.cm .Eq (.ix (.v 8) (.i 3)) (.s "place")) (.cm .Eq (.ix (.v 7) (.i 2)) (.s "door"))))) .en) .en
noncomputable def qno:T:=.if_ (.cm .NotEq (.v 9) (.s "led")) (.se (.ex (.ap (.v 4) (.ec (.tu (.ec (.v 5) (.ec (.tu (.ec (.s "kept") (.ec (.v 9) .e0))) (.ec .n .e0)))) .e0))) .en) (.se (.if_ (.v 10) (.se (.ex (.ap (.v 4) (.ec (.tu (.ec (.v 5) (.ec (.s "led") (.ec (.tu (.ec (.s "in") (.ec (.i 0) (.ec (.ix (.v 1) (.op .Sub (.i 1) (.v 6))) .e0)))) .e0)))) .e0))) .en) (.se (.ex (.ap (.v 4) (.ec (.tu (.ec (.v 5) (.ec (.s "led") (.ec (.tu (.ec (.s "kept") (.ec (.s "sieve") .e0))) .e0)))) .e0))) .en)) .en)
def qnn:T:=.sp (.v 3) (.v 6) (.or (.ix (.v 3) (.v 6)) (.cm .Eq (.v 9) (.s "led")))
def qnw:T:=.en
def qh5:T:=.se qnn qnw
def qh6:T:=.se qno qh5
def qnx:T:=.se qnp qh6
def qh7:T:=.se qnq qnx
def qny:T:=.se qnr qh7
def qnz:T:=.se qns qny
def qnA:T:=.se qnt qnz
def qnB:T:=.se qnu qnA
def qfK:T:=.se qnv qnB
def qBx:T:=.fo false [5] (.is (.v 2)) qfK
def qBw:T:=.re (.v 4)
def qBA:T:=.en
def qBB:T:=.se qBw qBA
def qBC:T:=.se qBx qBB
def qBD:T:=.se qBy qBC
def qBE:T:=.se qBz qBD
theorem qEx:f__law_due.body=qBE:=rfl
section
variable {e:Env}{n:Nat}{M:RM}{Q:RVK}{f1 f2:Fm}{d1 d2:Int}{bs:List Bool}{w1 w2:Bool}{wr fd:Addr}{acc:LR}{D:RD}
def qck(f:Fm):Str:=if(!(f.lend== "door")&&decide (f.most<2))=true then "most" else if(!(f.lend== "door")&&(f.low==f.high))=true then "full" else "led"
def inW(f1 f2:Fm)(w:Bool):Bool:=f2.sieve== "all" ||((f2.lend== "door" &&w)&&(f2.sieve== "place" ||f1.lend== "door"))
def qbV(st:Str)(f1 f2:Fm)(d2:Int)(w:Bool):RV:=if qck f1= "led" then(if inW f1 f2 w=true then .tup [.str st,.str "led",.tup [.str "in",.int 0,.int d2]]else .tup [.str st,.str "led",.tup [.str "kept",.str "sieve"]])else .tup [.str st,.tup [.str "kept",.str (qck f1)],.non]
theorem qBl{Γ:G}{a b:T}{σ:RSt}{QB:Bool->RM->Prop}:(tr Γ (.ix a b)).T σ M QB=(tr Γ (.ix a b)).E σ M (kB QB):=rfl
theorem qvd{x y:RV}:atI [x,y] (1-1)=some x:=rfl
theorem qvc{x y:RV}:atI [x,y] (1-0)=some y:=rfl
theorem g_0{f:Fm}:rIx f.r (.int 0) M Q=Q (.int f.low) M:=f_0
theorem g_1{f:Fm}:rIx f.r (.int 1) M Q=Q (.int f.high) M:=f_1
theorem g_2{f:Fm}:rIx f.r (.int 2) M Q=Q (.str f.lend) M:=xi_tup.trans (by rw[qyf];rfl)
theorem qxW(hw:M wr=some (.lst [.bl w1,.bl w2]))(hf:M fd=some (.lst acc))(hl:acc.length<900)(hne:wr≠fd){st:Str}{z1 z2 z3 z4 z5:Option RV}
 (b:Bool) (hst:st=stp b)
 (hq:∀ σ5:List (Option RV),σ5.length=6->D.nx ([some (.ls [f1.r,f2.r]),some (.tup [.int d1,.int d2]),some (.ls (bs.map fun b=>RV.str (stp b))),some (.ref wr),some (.ref fd)]++σ5) (put (put M fd (.lst (acc++ [if b=true then qbV st f1 f2 d2 w2 else qbV st f2 f1 d1 w1]))) wr (.lst (if b=true then [.bl (w1||(qck f1== "led")),.bl w2]else [.bl w1,.bl (w2||(qck f2== "led"))])))):
 (tr ((P e).Gn n) qfK).S D [some (.ls [f1.r,f2.r]),some (.tup [.int d1,.int d2]),some (.ls (bs.map fun b=>RV.str (stp b))),some (.ref wr),some (.ref fd),some (.str st),z1,z2,z3,z4,z5] M:=by
 have k2:∀ {f:Fm} {M:RM} {Q:RVK},rIx f.r (.int 2) M Q=Q (.str f.lend) M:=g_2;have k5:∀ {f:Fm} {M:RM} {Q:RVK},rIx f.r (.int 5) M Q=Q (.int f.most) M:=f_5;have k0:∀ {f:Fm} {M:RM} {Q:RVK},rIx f.r (.int 0) M Q=Q (.int f.low) M:=g_0;have k1:∀ {f:Fm} {M:RM} {Q:RVK},rIx f.r (.int 1) M Q=Q (.int f.high) M:=g_1;have k3:∀ {f:Fm} {M:RM} {Q:RVK},rIx f.r (.int 3) M Q=Q (.str f.sieve) M:=f_3;cases b with
 |true=>
  subst hst;rw[show stp true= "one" from rfl]at*
  unfold qfK qnv;walk_at "ev"
  try rw[show(("one":Str)==("other":Str))=false by decide]
  unfold qnB qnu;walk_at "ev"
  try (rw[show ∀ (g:RV->Prop),wO (atI [f1.r,f2.r] 0) g=g f1.r from fun _=>rfl])
  unfold qnA qnt;walk_at "ev";rw[show ∀ (g:RV->Prop),wO (atI [f1.r,f2.r] (1-0)) g=g f2.r from fun _=>rfl]
  unfold qnz qns;walk_at "ev";unfold qny qnr;walk_at "evs"
  suffices h:(tr ((P e).Gn n) qh7).S D [some (.ls [f1.r,f2.r]),some (.tup [.int d1,.int d2]),some (.ls (bs.map fun b=>RV.str (stp b))),some (.ref wr),some (.ref fd),some (.str "one"),some (.int 0),some f1.r,some f2.r,some (.str (qck f1)),z5] M by
   unfold qck at h;generalize (f1.lend==("door":Str))=c1 at h ⊢;generalize decide (f1.most<2)=c2 at h ⊢;generalize (f1.low==f1.high)=c3 at h ⊢;cases c1<;>cases c2<;>cases c3<;>exact h
  unfold qh7 qnq;walk_at "evs";unfold qnx qnp;walk_at "evs";simp only[qBl];walk_at "evs";simp only[qvd,qvc];walk_at "ev"
  suffices h:(tr ((P e).Gn n) qh6).S D [some (.ls [f1.r,f2.r]),some (.tup [.int d1,.int d2]),some (.ls (bs.map fun b=>RV.str (stp b))),some (.ref wr),some (.ref fd),some (.str "one"),some (.int 0),some f1.r,some f2.r,some (.str (qck f1)),some (.bl (inW f1 f2 w2))] M by
   unfold inW at h;generalize (f2.lend==("door":Str))=c1 at h ⊢;generalize (f2.sieve==("all":Str))=c2 at h ⊢;generalize (f2.sieve==("place":Str))=c3 at h ⊢;generalize (f1.lend==("door":Str))=c4 at h ⊢;cases c1<;>cases w2<;>cases c2<;>cases c3<;>cases c4<;>exact h
  unfold qh6 qno;walk_at "ev";have tail:∀ v,v=(if qck f1= "led" then(if inW f1 f2 w2=true then RV.tup [.str "one",.str "led",.tup [.str "in",.int 0,.int d2]]else .tup [.str "one",.str "led",.tup [.str "kept",.str "sieve"]])else .tup [.str "one",.tup [.str "kept",.str (qck f1)],.non])->(tr ((P e).Gn n) qh5).S D [some (.ls [f1.r,f2.r]),some (.tup [.int d1,.int d2]),some (.ls (bs.map fun b=>RV.str (stp b))),some (.ref wr),some (.ref fd),some (.str "one"),some (.int 0),some f1.r,some f2.r,some (.str (qck f1)),some (.bl (inW f1 f2 w2))] (put M fd (.lst (acc++ [v]))):=fun v hv=>by
   unfold qh5 qnn qnw;walk_at "ev";rw[qac hne,hw];walk_at "ev";rw[qac hne,hw];walk_at "ev";subst hv;have q:=hq [some (.str "one"),some (.int 0),some f1.r,some f2.r,some (.str (qck f1)),some (.bl (inW f1 f2 w2))] rfl;cases w1<;>exact q
  rw[hf];walk_at "ev";have lt:acc.length<sizeLine:=waB hl (by decide)
  by_cases z:qck f1= "led"
  · rw[if_neg (by rw[z];decide)]
    by_cases z2:inW f1 f2 w2=true
    · rw[if_pos z2];exact⟨acc,_,rfl,hf,lt,tail _ (by rw[if_pos z,if_pos z2])⟩
    · rw[if_neg z2];exact⟨acc,_,rfl,hf,lt,tail _ (by rw[if_pos z,if_neg z2])⟩
  · rw[if_pos (by simpa using z)];exact⟨acc,_,rfl,hf,lt,tail _ (by rw[if_neg z])⟩
 |false=>
  subst hst;rw[show stp false= "other" from rfl]at*
  unfold qfK qnv;walk_at "ev"
  try rw[show(("other":Str)==("other":Str))=true by decide]
  unfold qnB qnu;walk_at "ev"
  try (rw[show ∀ (g:RV->Prop),wO (atI [f1.r,f2.r] 1) g=g f2.r from fun _=>rfl])
  unfold qnA qnt;walk_at "ev";rw[show ∀ (g:RV->Prop),wO (atI [f1.r,f2.r] (1-1)) g=g f1.r from fun _=>rfl]
  unfold qnz qns;walk_at "ev";unfold qny qnr;walk_at "evs"
  suffices h:(tr ((P e).Gn n) qh7).S D [some (.ls [f1.r,f2.r]),some (.tup [.int d1,.int d2]),some (.ls (bs.map fun b=>RV.str (stp b))),some (.ref wr),some (.ref fd),some (.str "other"),some (.int 1),some f2.r,some f1.r,some (.str (qck f2)),z5] M by
   unfold qck at h;generalize (f2.lend==("door":Str))=c1 at h ⊢;generalize decide (f2.most<2)=c2 at h ⊢;generalize (f2.low==f2.high)=c3 at h ⊢;cases c1<;>cases c2<;>cases c3<;>exact h
  unfold qh7 qnq;walk_at "evs";unfold qnx qnp;walk_at "evs";simp only[qBl];walk_at "evs";simp only[qvd,qvc];walk_at "ev"
  suffices h:(tr ((P e).Gn n) qh6).S D [some (.ls [f1.r,f2.r]),some (.tup [.int d1,.int d2]),some (.ls (bs.map fun b=>RV.str (stp b))),some (.ref wr),some (.ref fd),some (.str "other"),some (.int 1),some f2.r,some f1.r,some (.str (qck f2)),some (.bl (inW f2 f1 w1))] M by
   unfold inW at h;generalize (f1.lend==("door":Str))=c1 at h ⊢;generalize (f1.sieve==("all":Str))=c2 at h ⊢;generalize (f1.sieve==("place":Str))=c3 at h ⊢;generalize (f2.lend==("door":Str))=c4 at h ⊢;cases c1<;>cases w1<;>cases c2<;>cases c3<;>cases c4<;>exact h
  unfold qh6 qno;walk_at "ev";have tail:∀ v,v=(if qck f2= "led" then(if inW f2 f1 w1=true then RV.tup [.str "other",.str "led",.tup [.str "in",.int 0,.int d1]]else .tup [.str "other",.str "led",.tup [.str "kept",.str "sieve"]])else .tup [.str "other",.tup [.str "kept",.str (qck f2)],.non])->(tr ((P e).Gn n) qh5).S D [some (.ls [f1.r,f2.r]),some (.tup [.int d1,.int d2]),some (.ls (bs.map fun b=>RV.str (stp b))),some (.ref wr),some (.ref fd),some (.str "other"),some (.int 1),some f2.r,some f1.r,some (.str (qck f2)),some (.bl (inW f2 f1 w1))] (put M fd (.lst (acc++ [v]))):=fun v hv=>by
   unfold qh5 qnn qnw;walk_at "ev";rw[qac hne,hw];walk_at "ev";rw[qac hne,hw];walk_at "ev";subst hv;have q:=hq [some (.str "other"),some (.int 1),some f2.r,some f1.r,some (.str (qck f2)),some (.bl (inW f2 f1 w1))] rfl;cases w2<;>exact q
  rw[hf];walk_at "ev";have lt:acc.length<sizeLine:=waB hl (by decide)
  by_cases z:qck f2= "led"
  · rw[if_neg (by rw[z];decide)]
    by_cases z2:inW f2 f1 w1=true
    · rw[if_pos z2];exact⟨acc,_,rfl,hf,lt,tail _ (by rw[if_pos z,if_pos z2])⟩
    · rw[if_neg z2];exact⟨acc,_,rfl,hf,lt,tail _ (by rw[if_pos z,if_neg z2])⟩
  · rw[if_pos (by simpa using z)];exact⟨acc,_,rfl,hf,lt,tail _ (by rw[if_neg z])⟩
def qrJ(f1:Fm)(d1:Int)(f2:Fm)(d2:Int):List Bool->Bool->Bool->LR
 | [],_,_=>[]
 |true::r,w1,w2=>qbV "one" f1 f2 d2 w2::qrJ f1 d1 f2 d2 r (w1||(qck f1== "led")) w2
 |false::r,w1,w2=>qbV "other" f2 f1 d1 w1::qrJ f1 d1 f2 d2 r w1 (w2||(qck f2== "led"))
theorem qgo{M0:RM}{ss:List Bool}(hne:wr≠fd)(h0:M0 wr=none/\M0 fd=none):∀ (bs:List Bool) (w1 w2:Bool) (acc:LR) (M:RM) (σ6:List (Option RV)),σ6.length=6->M wr=some (.lst [.bl w1,.bl w2])->M fd=some (.lst acc)->acc.length+bs.length<800->(∀ b o,M0 b=some o->M b=some o)->
 (∀ M' σ',(∀ b o,M0 b=some o->M' b=some o)->M' fd=some (.lst (acc++qrJ f1 d1 f2 d2 bs w1 w2))->D.nx ([some (.ls [f1.r,f2.r]),some (.tup [.int d1,.int d2]),some (.ls (ss.map fun b=>RV.str (stp b))),some (.ref wr),some (.ref fd)]++σ') M')->
 qeu (rgN 5) (tr ((P e).Gn n) qfK).S D okT id (bs.map fun b=>RV.str (stp b)) ([some (.ls [f1.r,f2.r]),some (.tup [.int d1,.int d2]),some (.ls (ss.map fun b=>RV.str (stp b))),some (.ref wr),some (.ref fd)]++σ6) M
 | [],w1,w2,acc,M,σ6,hs,hw,hf,hl,k0,hq=>⟨qat,hq M σ6 k0 (by rw[hf];simp[qrJ])⟩
 |b::bs,w1,w2,acc,M,[z0,z1,z2,z3,z4,z5],_,hw,hf,hl,k0,hq=>by
  rw[wah]at hl;refine⟨qat,?_⟩;show(tr ((P e).Gn n) qfK).S _ [some (.ls [f1.r,f2.r]),some (.tup [.int d1,.int d2]),some (.ls (ss.map fun b=>RV.str (stp b))),some (.ref wr),some (.ref fd),some (.str (stp b)),z1,z2,z3,z4,z5] M
  refine qxW hw hf (by omega) hne b rfl fun σ5 h5=>?_
  have kp:∀ {o1 o2:RO} b o,M0 b=some o->put (put M fd o1) wr o2 b=some o:=fun b o hb=>by
   have n1:b≠wr:=fun z=>by rw[z,h0.1]at hb;cases hb
   have n2:b≠fd:=fun z=>by rw[z,h0.2]at hb;cases hb
   rw[qac n1,qac n2];exact k0 b o hb
  cases b with
  |true=>
   refine qgo hne h0 bs (w1||(qck f1== "led")) w2 (acc++ [qbV "one" f1 f2 d2 w2]) _ σ5 h5 qad (by rw[qac hne.symm];exact qad) (by rw[wad];show acc.length+1+bs.length<800;omega) (fun b o hb=>kp b o hb) fun M' σ' a b=>hq M' σ' a (by rw[b,wa5];rfl)
  |false=>
   refine qgo hne h0 bs w1 (w2||(qck f2== "led")) (acc++ [qbV "other" f2 f1 d1 w1]) _ σ5 h5 qad (by rw[qac hne.symm];exact qad) (by rw[wad];show acc.length+1+bs.length<800;omega) (fun b o hb=>kp b o hb) fun M' σ' a b=>hq M' σ' a (by rw[b,wa5];rfl)
theorem qwN(hl:bs.length<=100)(hq:∀ M' a,(∀ b o,M b=some o->M' b=some o)->M a=none->M' a=some (.lst (qrJ f1 d1 f2 d2 bs false false))->Q (.ref a) M'):sem (P e) (n+1) 56 [.ls [f1.r,f2.r],.tup [.int d1,.int d2],.ls (bs.map fun b=>RV.str (stp b))] M Q:=by
 rw[us (i:=56) (d:=f__law_due) rfl];refine⟨rfl,?_⟩;rw[qEx];unfold qBE qBz;simp only[f__law_due];walk_at "ev";intro wr hw;unfold qBD qBy;walk_at "ev";intro fd hfd;unfold qBC qBx;walk_at "ev";have nf:=qab hfd;refine qgo (M0:=M) nf.2.symm ⟨hw,nf.1⟩ bs false false [] _ [none,none,none,none,none,none] rfl (by rw[qac nf.2.symm];exact qad) qad (by show 0+bs.length<800;omega) (fun b o hb=>by rw[qac (qaZ nf.1 hb),qac (qaZ hw hb)];exact hb) fun M' σ' a b=>?_
 unfold qBB qBw qBA;walk_at "ev";exact hq M' fd a nf.1 b
end
section
variable {e:Env}{n:Nat}{M:RM}{Q:RVK}{f1 f2:Fm}{d1 d2:Int}{w1 w2 v1 v2:Bool}
theorem qg4{st:Str}(ok1:f1.Ok)(hv:f2.lend= "door"->v2=w2):qfv (row st f1 d1 f2 d2 w2)=qbV st f1 f2 d2 v2:=by
 have hin:inW f1 f2 v2=(f2.sieve== "all" ||(f2.lend== "door" &&w2&&(f2.sieve== "place" ||(f1.lend== "door")))):=by
  unfold inW
  by_cases z:f2.lend= "door"
  · rw[hv z]
  · have:(f2.lend==("door":Str))=false:=by simpa using z
    rw[this];simp
 have hc:∀ b:Bool,(if b=true then inn 0 d2 else kept "sieve")=if b=true then inn 0 d2 else kept "sieve":=fun _=>rfl
 unfold row qbV arr qby;rw[hin];rcases qeZ (d:=d1) ok1 with⟨m,e1,_,e2⟩|⟨z,z2,e1⟩|⟨z,z2,z3,e1⟩
 · have hcond:f1.lend= "door"∨(¬f1.most<=1/\f1.low≠f1.high):=by
    by_cases z:f1.lend= "door"
    · exact .inl z
    · refine .inr ?_
      unfold qa5 at e1;rw[if_neg z]at e1
      by_cases z2:f1.most<=1
      · rw[if_pos z2]at e1;unfold kept led at e1;injection e1 with e1;injection e1 with e1;injection e1 with e1;exact absurd e1 (by decide)
      · refine⟨z2,fun z3=>?_⟩
        rw[if_neg z2,(qdh ok1).mpr z3]at e1;unfold kept led at e1;injection e1 with e1;injection e1 with e1;injection e1 with e1;exact absurd e1 (by decide)
   have ho:qck f1= "led":=by
    unfold qck;rcases hcond with z|⟨z2,z3⟩
    · have:(f1.lend==("door":Str))=true:=by simpa using z
      rw[this];rfl
    · have a1:decide (f1.most<2)=false:=by simp;omega
      have a2:(f1.low==f1.high)=false:=by simpa using z3
      rw[a1,a2];simp
   rw[e1,if_pos hcond,if_pos ho];generalize (f2.sieve==("all":Str)||(f2.lend==("door":Str)&&w2&&(f2.sieve==("place":Str)||(f1.lend==("door":Str)))))=c
   cases c<;>rfl
 · have ho:qck f1= "most":=by
    unfold qck;have a0:(f1.lend==("door":Str))=false:=by simpa using z
    have a1:decide (f1.most<2)=true:=by simp;omega
    rw[a0,a1];rfl
   rw[e1,if_neg (by rintro (q|q);exact z q;exact q.1 z2),ho,if_neg (by decide)]
   rfl
 · have ho:qck f1= "full":=by
    unfold qck;have a0:(f1.lend==("door":Str))=false:=by simpa using z
    have a1:decide (f1.most<2)=false:=by simp;omega
    have a2:(f1.low==f1.high)=true:=by simpa using z3
    rw[a0,a1,a2];rfl
   rw[e1,if_neg (by rintro (q|q);exact z q;exact q.2 z3),ho,if_neg (by decide)]
   rfl
theorem qg7{f:Fm}(h:f.lend= "door"):qck f= "led":=by
 unfold qck;have:(f.lend==("door":Str))=true:=by simpa using h
 rw[this];rfl
theorem qdg(ok1:f1.Ok)(ok2:f2.Ok):∀ {bs:List Bool} {w1 w2 v1 v2:Bool},(f1.lend= "door"->v1=w1)->(f2.lend= "door"->v2=w2)->(qaW f1 d1 f2 d2 bs w1 w2).map qfv=qrJ f1 d1 f2 d2 bs v1 v2
 | [],_,_,_,_,_,_=>rfl
 |true::r,w1,w2,v1,v2,h1,h2=>by
  show qfv (row "one" f1 d1 f2 d2 w2)::_=qbV "one" f1 f2 d2 v2::_;rw[qg4 ok1 h2];congr 1;exact qdg ok1 ok2 (fun z=>by rw[qg7 z];simp) h2
 |false::r,w1,w2,v1,v2,h1,h2=>by
  show qfv (row "other" f2 d2 f1 d1 w1)::_=qbV "other" f2 f1 d1 v1::_;rw[qg4 ok2 h1];congr 1;exact qdg ok1 ok2 h1 (fun z=>by rw[qg7 z];simp)
theorem qeb:∀ {bs:List Bool} {w1 w2:Bool},(qaW f2 d2 f1 d1 (bs.map (!·)) w2 w1).map qk2=qaW f1 d1 f2 d2 bs w1 w2
 | [],_,_=>rfl
 |true::r,w1,w2=>by
  show qk2 (row "other" f1 d1 f2 d2 w2)::_=row "one" f1 d1 f2 d2 w2::_;congr 1;exact qeb
 |false::r,w1,w2=>by
  show qk2 (row "one" f2 d2 f1 d1 w1)::_=row "other" f2 d2 f1 d1 w1::_;congr 1;exact qeb
theorem qej{b:Bool}:∀ {bs:List Bool} {w1 w2:Bool},∃ x,qaW f1 d1 f2 d2 (bs++ [b]) w1 w2=qaW f1 d1 f2 d2 bs w1 w2++ [x]
 | [],w1,w2=>by cases b<;>exact⟨_,rfl⟩
 |true::r,w1,w2=>by
  obtain⟨x,h⟩:=qej (b:=b) (bs:=r) (w1:=true) (w2:=w2);exact⟨x,congrArg (_:: ·) h⟩
 |false::r,w1,w2=>by
  obtain⟨x,h⟩:=qej (b:=b) (bs:=r) (w1:=w1) (w2:=true);exact⟨x,congrArg (_:: ·) h⟩
theorem qms{x:RV}{l r:LR}(h:inR x l=true):inR x (l++r)=true:=by
 unfold R.inR at h ⊢;rw[List.any_append,h];rfl
theorem qme{a b:LR}:qcQ (a++b)=qcQ a++qcQ b:=by unfold qcQ;rw[List.filter_append,wao]
theorem qq7{rs:LR}(h:∀ x∈rs,okR 15 x=true):okR 16 (.ls rs)=true:=wav.mpr h
end
def qp6:T:=.set 2 (.ca 41 (.ec (.v 1) (.ec (.i 0) .e0)))
def qp5:T:=.sc 3 false false ["k"] [(2,"bag")] (.r1 (.i 2)) (.b true) (.ca 19 (.ec (.v 1) .e0))
def qp4:T:=.set 4 (.bt "tuple" (.ec (.cp false false ["k"] [(2,"bag")] (.r1 (.i 2)) (.b true) (.op .Add (.i 1) (.ca 42 (.ec (.v 1) (.ec (.i 9999) .e0))))) .e0))
def qp3:T:=.sc 5 false false ["k"] [(2,"bag")] (.r1 (.ca 42 (.ec (.v 2) (.ec (.i 21) .e0)))) (.b true) (.ix (.ll (.ec (.s "one") (.ec (.s "other") .e0))) (.ca 42 (.ec (.v 1) (.ec (.i 2) .e0))))
def qp2:T:=.set 6 (.ca 62 (.ec (.ix (.v 3) (.i 0)) (.ec (.ix (.v 3) (.i 1)) (.ec (.v 4) (.ec (.v 5) .e0)))))
def qp1:T:=.if_ (.cm .NotEq (.ca 20 (.ec (.v 6) .e0)) (.ca 56 (.ec (.v 3) (.ec (.v 4) (.ec (.v 5) .e0))))) (.se (.re (.b false)) .en) .en
def qp0:T:=.set 7 (.dy ["one","other"] (.ec (.s "other") (.ec (.s "one") .e0)))
def qpZ:T:=.set 8 (.ca 62 (.ec (.ix (.v 3) (.i 1)) (.ec (.ix (.v 3) (.i 0)) (.ec (.rv (.v 4)) (.ec (.cp false false ["step"] [(7,"names")] (.is (.v 5)) (.b true) (.dg (.v 1) (.v 0))) .e0)))))
def qpY:T:=.if_ (.cm .NotEq (.ca 21 (.ec (.v 8) .e0)) (.v 6)) (.se (.re (.b false)) .en) .en
def qpX:T:=.set 9 (.op .Add (.v 5) (.ll (.ec (.ix (.ll (.ec (.s "one") (.ec (.s "other") .e0))) (.ca 42 (.ec (.v 2) (.ec (.i 2) .e0)))) .e0)))
def qng:T:=.if_ (.an (.ca 63 (.ec (.ix (.v 3) (.i 0)) (.ec (.ix (.v 3) (.i 1)) (.ec (.v 4) (.ec (.v 5) .e0))))) (.no (.ca 63 (.ec (.ix (.v 3) (.i 0)) (.ec (.ix (.v 3) (.i 1)) (.ec (.v 4) (.ec (.v 9) .e0))))))) (.se (.re (.b false)) .en) .en
def qnf:T:=.if_ (.cm .NotEq (.sl (.ca 62 (.ec (.ix (.v 3) (.i 0)) (.ec (.ix (.v 3) (.i 1)) (.ec (.v 4) (.ec (.v 9) .e0))))) .p0 (.p1 (.bf "len" (.ec (.v 6) .e0)))) (.v 6)) (.se (.re (.b false)) .en) .en
def qni:T:=.en
def qjj:T:=.se qnf qni
def qjk:T:=.se qng qjj
def qjQ:T:=.se qpX qjk
def qp7:T:=.se qpY qjQ
def qnh:T:=.se qpZ qp7
def qjR:T:=.se qp0 qnh
def qp8:T:=.se qp1 qjR
def qjS:T:=.se qp2 qp8
def qjT:T:=.se qp3 qjS
def qjU:T:=.se qp4 qjT
def qp9:T:=.se qp5 qjU
def qfJ:T:=.se qp6 qp9
def qBg:T:=.fo false [1] (.is (.op .Add (.ll (.ec (.ca 40 (.ec (.v 0) (.ec (.i 0) .e0))) .e0)) (.sl (.v 0) (.p1 (.i 1)) (.p1 (.i 8))))) qfJ
def qBf:T:=.re (.b true)
def qBh:T:=.en
def qBi:T:=.se qBf qBh
def qBj:T:=.se qBg qBi
theorem qpd{α:Type}{l:List α}(h:l.length=2):∃ a b,l= [a,b]:=⟨l[0],l[1],List.ext_getElem h fun|0,_,_=>rfl|1,_,_=>rfl|_+2,_,z=>absurd z (by simp)⟩
theorem qEl:f_law.body=qBj:=rfl
section
variable {e:Env}{n:Nat}{M:RM}{Q:RVK}{D:RD}
theorem qh4{g:Bag}{k k':Int}(h:g.In k)(hk:k<=k'):g.In k':=⟨h.a,h.b,h.c.1,Int.le_trans h.c.2 hk⟩
variable {sc:RV}{c:Int}{x:Addr}{f1 f2:Fm}{d1 d2:Int}{bs:List Bool}{z2 z3 z4 z5 z6 z7 z8 z9:Option RV}{g1 g2 g4:Bag}
theorem qxA(b2:g2.In 38)(hq:∀ (bs:List Bool) (g4:Bag),bs.length<=20->g4.In 59->(tr ((P e).Gn (n+15)) qjS).S D [some sc,some (.int c),some (.ref x),some (.ls [f1.r,f2.r]),some (.tup [.int d1,.int d2]),some (.ls (bs.map fun b=>RV.str (stp b))),z6,z7,z8,z9] (put M x g4.l)):(tr ((P e).Gn (n+15)) qjT).S D [some sc,some (.int c),some (.ref x),some (.ls [f1.r,f2.r]),some (.tup [.int d1,.int d2]),z5,z6,z7,z8,z9] (put M x g2.l):=by
 unfold qjT qp3;rw[qvl,qAy];dsimp only[List.set_cons_zero,List.set_cons_succ];walk_at "ev";refine qa1 (n:=n+14) qad b2 (by omega) (by decide) (by decide) fun k g3 ka kb b3=>?_
 walk_at "ev";obtain⟨j,rfl⟩:∃ j:Nat,k=j:=⟨k.toNat,by omega⟩
 refine⟨by omega,by omega,by rw[qcI];exact wai (show(j:Int).toNat<21 by omega) (by decide),?_⟩
 refine qc5 (fun acc M'=>∃ (bs:List Bool) (g':Bag),acc=bs.map (fun b=>RV.str (stp b))/\M'=put M x g'.l/\g'.In (39+acc.length)) (fun σ M K h=>h) (fun _ _ _=>qat) _ _ _ ⟨[],g3,rfl,rfl,qh4 b3 (by decide)⟩ (fun y hy acc M' hlt h=>?_) fun acc' M' hl h=>?_
 · obtain⟨bs,g',rfl,rfl,h3⟩:=h
   have hlt:(bs.map fun b=>RV.str (stp b)).length<0+(nums (Int.toNat j)).length:=hlt
   rw[wab]at h3 hlt;rw[qcI]at hlt;refine⟨[y],rfl,fun K hK=>?_⟩
   show(tr ((P e).Gn (n+15)) _).E [some y,some (.ref x)] _ K;walk_at "ev";refine qa1 (n:=n+14) qad h3 (by omega) (by decide) (by decide) fun v g2 a b o=>?_
   obtain⟨y,⟨b,rfl⟩,ey⟩:=qfm (xs:=[.str "one",.str "other"]) a b (fun y=>∃ b:Bool,y= .str (stp b)) (by
    intro y hy;simp only[waf,wax,or_false]at hy;rcases hy with rfl|rfl
    · exact⟨true,rfl⟩
    · exact⟨false,rfl⟩)
   rw[ey,qbi];refine hK _ _ ⟨bs++ [b],g2,by rw[wao];rfl,rfl,qh4 o (by rw[wad,wab];show 39+(bs.length:Int)+1<=39+((bs.length+1:Nat):Int);omega)⟩
 obtain⟨bs,g4,rfl,rfl,b4⟩:=h;have hl:(bs.map fun b=>RV.str (stp b)).length=0+(nums (Int.toNat j)).length:=hl
 rw[wab,qcI]at hl;rw[wab]at b4;have hbs:bs.length<=20:=by omega
 rw[qcl];exact hq bs g4 hbs (qh4 b4 (by omega))
theorem qxB(b1:g1.In 36)(hq:∀ (d1 d2:Int) (g2:Bag),(1<=d1/\d1<=9999)->(1<=d2/\d2<=9999)->g2.In 38->(tr ((P e).Gn (n+15)) qjT).S D [some sc,some (.int c),some (.ref x),some (.ls [f1.r,f2.r]),some (.tup [.int d1,.int d2]),z5,z6,z7,z8,z9] (put M x g2.l)):(tr ((P e).Gn (n+15)) qjU).S D [some sc,some (.int c),some (.ref x),some (.ls [f1.r,f2.r]),z4,z5,z6,z7,z8,z9] (put M x g1.l):=by
 unfold qjU qp4;walk_at "ev";refine⟨by decide,by decide,by decide,?_⟩
 refine qc5 (fun acc M'=>∃ (ds:List Int) (g':Bag),acc=ds.map RV.int/\(∀ d∈ds,1<=d/\d<=9999)/\M'=put M x g'.l/\g'.In (36+acc.length)) (fun σ M K h=>h) (fun _ _ _=>qat) _ _ _ ⟨[],g1,rfl,by simp,rfl,by exact b1⟩ (fun y hy acc M' hlt h=>?_) fun acc' M' hl h=>?_
 · obtain⟨ds,g',rfl,h2,rfl,h3⟩:=h
   have hlt:(ds.map RV.int).length<2:=hlt;rw[wab]at h3 hlt;refine⟨[y],rfl,fun K hK=>?_⟩
   show(tr ((P e).Gn (n+15)) _).E [some y,some (.ref x)] _ K;walk_at "ev";refine qa1 (n:=n+14) qad h3 (by omega) (by decide) (by decide) fun v g2 a b o=>?_
   walk_at "ev";refine hK _ _ ⟨ds++ [1+v],g2,by rw[wao];rfl,fun t ht=>?_,rfl,qh4 o (by rw[wad,wab];show 36+(ds.length:Int)+1<=36+((ds.length+1:Nat):Int);omega)⟩
   rcases wap.mp ht with h|h
   · exact h2 t h
   · cases wam.mp h;omega
 obtain⟨ds,g2,rfl,hds,rfl,b2⟩:=h;have hl:(ds.map RV.int).length=2:=hl;rw[wab]at hl;obtain⟨d1,d2,rfl⟩:=qpd hl;have hd1:=hds d1 (by simp)
 have hd2:=hds d2 (by simp)
 have b2:g2.In 38:=b2;rw[qcl];exact hq d1 d2 g2 hd1 hd2 b2
theorem qxC(hq:∀ (x:Addr) (f1 f2:Fm) (g1:Bag),M x=none->f1.Ok->f2.Ok->g1.In 36->(tr ((P e).Gn (n+15)) qjU).S D [some sc,some (.int c),some (.ref x),some (.ls [f1.r,f2.r]),z4,z5,z6,z7,z8,z9] (put M x g1.l)):(tr ((P e).Gn (n+15)) qfJ).S D [some sc,some (.int c),z2,z3,z4,z5,z6,z7,z8,z9] M:=by
 unfold qfJ qp6;walk_at "ev";refine qti (n:=n+14) fun x hx=>?_
 have b0:(qjV c 0).In 0:=qqb;generalize qjV c 0=g0 at b0;unfold qp9 qp5;walk_at "ev";refine⟨by decide,by decide,by decide,?_⟩
 refine qc5 (fun acc M'=>∃ (fs:List Fm) (g':Bag),acc=fs.map Fm.r/\(∀ f∈fs,f.Ok)/\M'=put M x g'.l/\g'.In (18*acc.length)) (fun σ M K h=>h) (fun _ _ _=>qat) _ _ _ ⟨[],g0,rfl,by simp,rfl,by exact b0⟩ (fun y hy acc M' hlt h=>?_) fun acc' M' hl h=>?_
 · obtain⟨fs,g',rfl,h2,rfl,h3⟩:=h
   have hlt:(fs.map Fm.r).length<2:=hlt;rw[wab]at h3 hlt;refine⟨[y],rfl,fun K hK=>?_⟩
   show(tr ((P e).Gn (n+15)) _).E [some y,some (.ref x)] _ K;walk_at "ev";refine qn0 (n:=n+13) qad h3 (by omega) fun f g2 okf o=>?_
   rw[qbi];refine hK _ _ ⟨fs++ [f],g2,by rw[wao];rfl,fun t ht=>?_,rfl,qh4 o (by rw[wad,wab];show 18*(fs.length:Int)+18<=18*((fs.length+1:Nat):Int);omega)⟩
   rcases wap.mp ht with h|h
   · exact h2 t h
   · cases wam.mp h;exact okf
 obtain⟨fs,g1,rfl,hok,rfl,b1⟩:=h;have hl:(fs.map Fm.r).length=2:=hl;rw[wab]at hl;obtain⟨f1,f2,rfl⟩:=qpd hl;have ok1:=hok f1 (by simp)
 have ok2:=hok f2 (by simp)
 have b1:g1.In 36:=b1;rw[qcl];exact hq x f1 f2 g1 hx ok1 ok2 b1
theorem qpT{st:Str}{w:Bool}:okR 15 (qbV st f1 f2 d2 w)=true:=by
 unfold qbV;split
 · split<;>rfl
 · rfl
theorem qjd:∀ {bs:List Bool} {w1 w2:Bool},∀ x∈qrJ f1 d1 f2 d2 bs w1 w2,okR 15 x=true
 | [],_,_,x,h=>by cases h
 |true::r,_,w2,x,h=>by
  rcases waf.mp h with rfl|h
  · exact qpT
  · exact qjd x h
 |false::r,w1,_,x,h=>by
  rcases waf.mp h with rfl|h
  · exact qpT
  · exact qjd x h
theorem qf8{a:Addr}{xs:LR}(h:M a=some (.lst xs)):qaL M (.ref a)= .ls xs:=by unfold qaL;simp only[h]
theorem qiK{u v:RV}{xs:LR}{K:RVK}(h1:qaL M u= .ls xs)(h2:qaL M v= .ls xs)(hx:∀ x∈xs,okR 15 x=true)(hK:K (.bl false) M):cmR .NotEq u v M K:=by
 have o:okR 16 (.ls xs)=true:=qq7 hx;show okR 16 (qaL M u)=true/\okR 16 (qaL M v)=true/\K (.bl (!eqR (qaL M u) (qaL M v))) M;rw[h1,h2,qd8 _ ⟨16,o⟩];exact⟨o,o,hK⟩
theorem qxz(tb:Tb e)(ok1:f1.Ok)(ok2:f2.Ok)(hd1:1<=d1/\d1<=9999)(hd2:1<=d2/\d2<=9999)(hbs:bs.length<=20)(hx:M x=some g4.l)(hq:∀ (M':RM) (ra:Addr),M' x=some g4.l->M' ra=some (.lst (qaW f1 d1 f2 d2 bs false false))->ra≠x->(tr ((P e).Gn (n+15)) qjR).S D [some sc,some (.int c),some (.ref x),some (.ls [f1.r,f2.r]),some (.tup [.int d1,.int d2]),some (.ls (bs.map fun b=>RV.str (stp b))),some (.ref ra),z7,z8,z9] M'):(tr ((P e).Gn (n+15)) qjS).S D [some sc,some (.int c),some (.ref x),some (.ls [f1.r,f2.r]),some (.tup [.int d1,.int d2]),some (.ls (bs.map fun b=>RV.str (stp b))),z6,z7,z8,z9] M:=by
 unfold qjS qp2;walk_at "ev";refine qcE (n:=n+1) tb ok1 ok2 hd1 hd2 (by omega) fun M1 ra k1 ra0 hra=>?_
 have rok:=qb9 (d1:=d1) (d2:=d2) ok1 ok2 (bs:=bs) (w1:=false) (w2:=false);unfold qp8 qp1;walk_at "ev";refine qqG (n:=n+14) hra (by rw[qbY];omega) (fun x hx=>(rok x hx).1) ?_
 refine qwN (n:=n+14) (by omega) fun M2 da k2 da0 hda=>?_
 rw[qdg (v1:=false) (v2:=false) ok1 ok2 (fun _=>rfl) (fun _=>rfl)]
 refine qiK rfl (qf8 hda) qjd ?_;rw[qfi,if_neg (by simp)]
 exact hq M2 ra (k2 _ _ (k1 _ _ hx)) (k2 _ _ hra) (qaZ ra0 hx).symm
end
section
variable {e:Env}{n:Nat}{M:RM}{Q:RVK}{D:RD}{sc:RV}{c:Int}{x ra:Addr}{f1 f2:Fm}{d1 d2:Int}{bs:List Bool}{z7 z8 z9:Option RV}{g4:Bag}
theorem qnJ{b:Bool}:qnK (stp b)=stp (!b):=by cases b<;>rfl
theorem qiu(ok1:f1.Ok)(ok2:f2.Ok):∀ {bs:List Bool} {w1 w2:Bool},∀ x∈qaW f1 d1 f2 d2 bs w1 w2,∃ (s:Str) (b c:RV),x= .tup [.str s,b,c]/\(s= "one"∨s= "other")
 | [],_,_,x,h=>by cases h
 |true::r,_,w2,x,h=>by
  rcases waf.mp h with rfl|h
  · exact⟨_,_,_,rfl,.inl rfl⟩
  · exact qiu ok1 ok2 x h
 |false::r,w1,_,x,h=>by
  rcases waf.mp h with rfl|h
  · exact⟨_,_,_,rfl,.inr rfl⟩
  · exact qiu ok1 ok2 x h
theorem qxy(tb:Tb e)(ok1:f1.Ok)(ok2:f2.Ok)(hd1:1<=d1/\d1<=9999)(hd2:1<=d2/\d2<=9999)(hbs:bs.length<=20)(hx:M x=some g4.l)(hra:M ra=some (.lst (qaW f1 d1 f2 d2 bs false false)))(hq:∀ (M':RM) (z7 z8:Option RV),M' x=some g4.l->M' ra=some (.lst (qaW f1 d1 f2 d2 bs false false))->(tr ((P e).Gn (n+15)) qjQ).S D [some sc,some (.int c),some (.ref x),some (.ls [f1.r,f2.r]),some (.tup [.int d1,.int d2]),some (.ls (bs.map fun b=>RV.str (stp b))),some (.ref ra),z7,z8,z9] M'):(tr ((P e).Gn (n+15)) qjR).S D [some sc,some (.int c),some (.ref x),some (.ls [f1.r,f2.r]),some (.tup [.int d1,.int d2]),some (.ls (bs.map fun b=>RV.str (stp b))),some (.ref ra),z7,z8,z9] M:=by
 have rok:=qb9 (d1:=d1) (d2:=d2) ok1 ok2 (bs:=bs) (w1:=false) (w2:=false);unfold qjR qp0;walk_at "ev";intro p hp;refine show put M p (.dk []) p=some (.dk [])/\(tr ((P e).Gn (n+15)) qnh).S D [some sc,some (.int c),some (.ref x),some (.ls [f1.r,f2.r]),some (.tup [.int d1,.int d2]),some (.ls (bs.map fun b=>RV.str (stp b))),some (.ref ra),some (.ref p),z8,z9] (put (put M p (.dk [])) p (.dk nmD))from⟨qad,?_⟩
 rw[qbi];unfold qnh qpZ;rw[qvl,qqt];dsimp only[List.set_cons_zero,List.set_cons_succ];walk_at "ev";refine⟨by rw[wab];exact wa8 hbs (by decide),qbd (bd:=qjP false 1) (fun _=>true) (fun y=>match y with| .str s=>.str (qnK s)|y=>y) qat _ _ (fun y hy=>?_) ?_⟩
 · obtain⟨b,_,rfl⟩:=wan.mp hy
   refine⟨[.str (stp b)],rfl,fun K hK=>hK,fun _ K hK=>?_⟩
   show(tr ((P e).Gn (n+15)) _).E [some (.str (stp b)),some (.ref p)] (put M p (.dk nmD)) K;walk_at "ev";cases b<;>exact hK
 · rw[qcl,waI,waZ.mpr (fun _ _=>rfl),was]
   rw[show List.map ((fun y=>match y with|RV.str s=>RV.str (qnK s)|y=>y) ∘ fun b=>RV.str (stp b)) bs=(bs.map (!·)).map fun b=>RV.str (stp b) by rw[was];exact waE fun b _=>congrArg RV.str qnJ]
   refine qcE (n:=n+1) tb ok2 ok1 hd2 hd1 (by rw[wab];omega) fun M1 oa k1 oa0 hoa=>?_
   unfold qp7 qpY;walk_at "ev";refine qnX (n:=n+14) hoa (by rw[qbY,wab];omega) (qiu ok2 ok1) fun M2 k2=>?_
   rw[qeb];have hra2:=k2 _ _ (k1 _ _ ((qac (qaZ hp hra)).trans hra));refine qiK rfl (qf8 hra2) (fun x hx=>(rok x hx).2) ?_
   rw[qfi,if_neg (by simp)]
   exact hq M2 _ _ (k2 _ _ (k1 _ _ ((qac (qaZ hp hx)).trans hx))) hra2
end
section
variable {e:Env}{n:Nat}{M:RM}{Q:RVK}{D:RD}{sc:RV}{c:Int}{x ra:Addr}{f1 f2:Fm}{d1 d2:Int}{bs:List Bool}{z2 z3 z4 z5 z6 z7 z8 z9:Option RV}{g4:Bag}
theorem qrS{l:LR}{y:RV}:qgu (l++ [y]) none (some (l.length:Int))=l:=by
 unfold qgu;have h1:HT.sIx (l++ [y]).length 0 none=0:=rfl;have h2:HT.sIx (l++ [y]).length (l++ [y]).length (some (l.length:Int))=l.length:=by
  rw[HT.sIx_nat,wad];simp
 rw[h1,h2];simp
theorem quc(tb:Tb e)(ok1:f1.Ok)(ok2:f2.Ok)(hd1:1<=d1/\d1<=9999)(hd2:1<=d2/\d2<=9999)(hbs:bs.length<=20)(b:Bool)(hra:M ra=some (.lst (qaW f1 d1 f2 d2 bs false false)))(hq:∀ M':RM,D.nx [some sc,some (.int c),some (.ref x),some (.ls [f1.r,f2.r]),some (.tup [.int d1,.int d2]),some (.ls (bs.map fun b=>RV.str (stp b))),some (.ref ra),z7,z8,some (.ls ((bs++ [b]).map fun b=>RV.str (stp b)))] M'):(tr ((P e).Gn (n+15)) qjk).S D [some sc,some (.int c),some (.ref x),some (.ls [f1.r,f2.r]),some (.tup [.int d1,.int d2]),some (.ls (bs.map fun b=>RV.str (stp b))),some (.ref ra),z7,z8,some (.ls ((bs++ [b]).map fun b=>RV.str (stp b)))] M:=by
 have rok:=qb9 (d1:=d1) (d2:=d2) ok1 ok2 (bs:=bs) (w1:=false) (w2:=false);have rok2:=qb9 (d1:=d1) (d2:=d2) ok1 ok2 (bs:=bs++ [b]) (w1:=false) (w2:=false);obtain⟨lr,hlr⟩:=qej (f1:=f1) (d1:=d1) (f2:=f2) (d2:=d2) (b:=b) (bs:=bs) (w1:=false) (w2:=false);have tail:∀ M,M ra=some (.lst (qaW f1 d1 f2 d2 bs false false))->(tr ((P e).Gn (n+15)) qjj).S D [some sc,some (.int c),some (.ref x),some (.ls [f1.r,f2.r]),some (.tup [.int d1,.int d2]),some (.ls (bs.map fun b=>RV.str (stp b))),some (.ref ra),z7,z8,some (.ls ((bs++ [b]).map fun b=>RV.str (stp b)))] M:=fun M hra=>by
  unfold qjj qnf qni;walk_at "ev";refine qcE (n:=n+1) tb ok1 ok2 hd1 hd2 (by rw[wad];show bs.length+1<=100;omega) fun M1 oa k1 oa0 hoa=>?_
  have hra1:=k1 _ _ hra;have hlen:∀ K:RVK,bfR "len" [.ref ra] M1 K=K (.int (qaW f1 d1 f2 d2 bs false false).length) M1:=fun K=>by
   show qlK [.ref ra] M1 K=_;unfold qlK;simp only[hra1]
  rw[hlen];walk_at "ev";unfold qn2;simp only[hoa];rw[hlr,qrS];refine qiK rfl (qf8 hra1) (fun x hx=>(rok x hx).2) ?_
  rw[qfi,if_neg (by simp)]
  exact hq M1
 unfold qjk qng;walk_at "ev";refine qlC (n:=n) tb ok1 ok2 hd1 hd2 (by omega) (fun x hx=>(rok x hx).1) fun M1 k1=>?_
 rw[qfi];cases em:(inR (.str "one") (qcQ (qaW f1 d1 f2 d2 bs false false))&&inR (.str "other") (qcQ (qaW f1 d1 f2 d2 bs false false)))with
 |false=>rw[if_neg (by simp)];exact tail M1 (k1 _ _ hra)
 |true=>
  rw[if_pos rfl];refine qlC (n:=n) tb ok1 ok2 hd1 hd2 (by rw[wad];show bs.length+1<=100;omega) (fun x hx=>(rok2 x hx).1) fun M2 k2=>?_
  rw[waa]at em;rw[qfi,hlr,qme,qms em.1,qms em.2];exact tail M2 (k2 _ _ (k1 _ _ hra))
theorem qxx(tb:Tb e)(ok1:f1.Ok)(ok2:f2.Ok)(hd1:1<=d1/\d1<=9999)(hd2:1<=d2/\d2<=9999)(hbs:bs.length<=20)(hx:M x=some g4.l)(b4:g4.In 59)(hne:ra≠x)(hra:M ra=some (.lst (qaW f1 d1 f2 d2 bs false false)))(hq:∀ (M':RM) (z9:Option RV),D.nx [some sc,some (.int c),some (.ref x),some (.ls [f1.r,f2.r]),some (.tup [.int d1,.int d2]),some (.ls (bs.map fun b=>RV.str (stp b))),some (.ref ra),z7,z8,z9] M'):(tr ((P e).Gn (n+15)) qjQ).S D [some sc,some (.int c),some (.ref x),some (.ls [f1.r,f2.r]),some (.tup [.int d1,.int d2]),some (.ls (bs.map fun b=>RV.str (stp b))),some (.ref ra),z7,z8,z9] M:=by
 unfold qjQ qpX;rw[qvl,qqt];dsimp only[List.set_cons_zero,List.set_cons_succ];walk_at "ev";refine qa1 (n:=n+14) hx b4 (by omega) (by decide) (by decide) fun v g5 a b o=>?_
 obtain⟨y,⟨b,rfl⟩,ey⟩:=qfm (xs:=[.str "one",.str "other"]) a b (fun y=>∃ b:Bool,y= .str (stp b)) (by
  intro y hy;simp only[waf,wax,or_false]at hy;rcases hy with rfl|rfl
  · exact⟨true,rfl⟩
  · exact⟨false,rfl⟩)
 rw[ey];refine⟨by rw[wab];exact waw (show bs.length+1<=21 by omega) (by decide),?_⟩
 rw[show(bs.map fun b=>RV.str (stp b))++ [RV.str (stp b)]=(bs++ [b]).map fun b=>RV.str (stp b) by rw[wao];rfl]
 exact quc tb ok1 ok2 hd1 hd2 hbs b (by rw[qac hne];exact hra) fun M'=>hq M' _
theorem qox(tb:Tb e)(hq:∀ (σ':List (Option RV)) (M':RM),σ'.length=8->D.nx ([some sc,some (.int c)]++σ') M'):(tr ((P e).Gn (n+15)) qfJ).S D [some sc,some (.int c),z2,z3,z4,z5,z6,z7,z8,z9] M:=
 qxC fun x f1 f2 g1 hx ok1 ok2 b1=>qxB b1 fun d1 d2 g2 hd1 hd2 b2=>qxA b2 fun bs g4 hbs b4=>qxz tb ok1 ok2 hd1 hd2 hbs qad fun M1 ra h1 h2 hne=>qxy tb ok1 ok2 hd1 hd2 hbs h1 h2 fun M2 z7 z8 h3 h4=>qxx tb ok1 ok2 hd1 hd2 hbs h3 b4 hne h4 fun M' z9=>hq _ M' rfl
theorem qjF(tb:Tb e){xs:List Int}:∀ (cs:List Int) (M:RM) (σ9:List (Option RV)),σ9.length=9->(∀ M' σ',D.nx (some (.ls (xs.map RV.int))::σ') M')->qeu (rgN 1) (tr ((P e).Gn (n+15)) qfJ).S D okT id (cs.map RV.int) (some (.ls (xs.map RV.int))::σ9) M
 | [],M,σ9,hs,hq=>⟨qat,hq M σ9⟩
 |c::cs,M,[_,z2,z3,z4,z5,z6,z7,z8,z9],_,hq=>by
  refine⟨qat,?_⟩;show(tr ((P e).Gn (n+15)) qfJ).S _ [some (.ls (xs.map RV.int)),some (.int c),z2,z3,z4,z5,z6,z7,z8,z9] M;exact qox tb fun σ' M' h=>qjF tb cs M' (some (.int c)::σ') (by rw[wah,h]) hq
theorem qwL(tb:Tb e){xs:List Int}(hq:∀ M',Q (.bl true) M'):sem (P e) (n+16) 22 [.ls (xs.map RV.int)] M Q:=by
 rw[us (i:=22) (d:=f_law) rfl];refine⟨rfl,?_⟩;rw[qEl];unfold qBj qBg;simp only[f_law];walk_at "ev";refine(qkK (n:=n+14) (xs:=xs) (k:=0)).mpr ?_;have e1:qgu (xs.map RV.int) (some 1) (some 8)=((xs.drop (HT.sIx xs.length 0 (some 1))).take (HT.sIx xs.length xs.length (some 8)-HT.sIx xs.length 0 (some 1))).map RV.int:=by unfold qgu;rw[wab,List.map_take,List.map_drop]
 have e2:HT.sIx xs.length xs.length (some 8)<=8:=by rw[show(8:Int)=((8:Nat):Int)from rfl,HT.sIx_nat];omega
 rw[e1];refine⟨?_,qjF tb (xs.getD 0 0::_) M [none,none,none,none,none,none,none,none,none] rfl fun M' σ'=>?_⟩
 · rw[wab,List.length_take]
   exact waw (show 1+min (HT.sIx xs.length xs.length (some 8)-HT.sIx xs.length 0 (some 1)) _<=9 by omega) (by decide)
 · unfold qBi qBf qBh;walk_at "ev"
   exact hq M'
end
def Cx:Nat->Addr:=fun i=>([350,423,444,564,774,815]:List Addr).getD i 0
def qmj:List (Str×Addr):=[("out",113),("come",120),("lost",127),("wait",134),("rule",141),("unrule",148)]
def qhE:List (Str×Int):=[("note",0),("asked",1),("called",1),("up",2),("near",2),("far",2)]
def eE:Env:=⟨fun x=>if x= "DEEDS" then kvA qmj else if x= "TIME_AT" then kvI qhE else [],Cx,[(113,9),(120,10)]⟩
noncomputable def G0:List (FD×FA):=[(qcd,⟨"is_whole","is_whole",qj4,31,30,H36.pm1⟩),(qch,⟨"is_house","is_house",qj9,45,44,H36.pm1⟩),(qc3,⟨"is_door","is_door",qlq,52,51,H36.pm1⟩),(qcg,⟨"is_place","is_place",qj8,59,58,H36.pm1⟩),(qaV,⟨"is_outer_place","is_outer_place",qdI,66,65,H36.pm1⟩),(qfE,⟨"is_ticks","is_ticks",qj6,73,72,H36.pm1⟩),(qc1,⟨"is_kind","is_kind",qlo,80,79,H36.pm1⟩),(qhL,⟨"is_sign","is_sign",qlm,94,93,H36.pm1⟩),(qcY,⟨"is_text","is_text",qll,99,98,.str "lentgate.ends" 194⟩),(qc0,⟨"is_out","is_out",qnR,113,112,H36.pm1⟩),(qb2,⟨"is_come","is_come",qls,120,119,H36.pm1⟩),(qcV,⟨"name_of","name_of",qlh,156,155,H36.pm1⟩)]
noncomputable def G1:List (FD×FA):=[(qbD,⟨"is_deed","is_deed",qlr,163,162,H36.pm1⟩),(qce,⟨"is_times","is_times",qj5,240,239,.str "lentgate.forms" 491⟩),(qc2,⟨"is_form","is_form",qlp,247,246,H36.pm2⟩),(qbb,⟨"__init__","Rules.__init__",qgO,312,311,H36.pm4⟩),(qaJ,⟨"from_mark","Pool.from_mark",qdL,389,388,H36.pm5⟩),(qci,⟨"is_doors","is_doors",qka,786,785,H36.pm8⟩),(qcf,⟨"is_steps","is_steps",qj7,791,790,.str "lentgate.meetings" 1442⟩),(qbh,⟨"_law_a_form","_law_a_form",qfQ,864,863,.str "law_lentgate_k36_whole_meetings_by_their_for" 1545⟩),(qbv,⟨"_law_plain","_law_plain",qgI,876,875,.str "law_lentgate_k36_whole_meetings_by_their_for" 1545⟩),(qbg,⟨"_law_turned","_law_turned",qfP,881,880,.str "law_lentgate_k36_whole_meetings_by_their_for" 1545⟩),(f_law,⟨"law","law",qsZ,886,885,.str "law_lentgate_k36_whole_meetings_by_their_for" 1545⟩)]
noncomputable def G2:List (FD×FA):=[(qcX,⟨"is_word","is_word",qlk,87,86,H36.pm1⟩),(qcZ,⟨"is_pool","is_pool",qln,235,234,H36.pm2⟩),(qbM,⟨"holder_of","holder_of",qii,254,253,H36.pm2⟩),(qcU,⟨"time_of","time_of",qlg,261,260,H36.pm2⟩),(qbt,⟨"note_state","note_state",qgG,284,283,H36.pm3⟩),(qbE,⟨"has","Pool.has",qkc,375,374,H36.pm5⟩),(qbl,⟨"take","Pool.take",qio,403,402,H36.pm5⟩),(qa9,⟨"__init__","Talks.__init__",qgL,462,461,H36.pm6⟩),(qaI,⟨"of_inner","Talks.of_inner",qdK,469,468,H36.pm6⟩),(qaC,⟨"number_of","Talks.number_of",qdc,502,501,H36.pm6⟩),(qaD,⟨"holder_at","Talks.holder_at",qdd,509,508,H36.pm6⟩),(qba,⟨"held","Talks.held",qgM,514,513,.str "lentgate.talks" 910⟩)]
noncomputable def G3:List (FD×FA):=[(qbo,⟨"__init__","Gate.__init__",qir,582,581,H36.pm7⟩),(qaX,⟨"deed","Gate.deed",qis,589,588,H36.pm7⟩),(qbn,⟨"sent","Gate.sent",qiq,694,693,H36.pm7⟩),(qaE,⟨"picked_for","Gate.picked_for",qde,715,714,H36.pm7⟩),(qcc,⟨"write_to","write_to",qj2,826,825,H36.pm8⟩),(qbO,⟨"_law_cell","_law_cell",qil,845,844,H36.pm9⟩),(qbN,⟨"_law_well","_law_well",qij,852,851,H36.pm9⟩),(qa6,⟨"_law_take","_law_take",qik,859,858,H36.pm9⟩)]
noncomputable def G4:List (FD×FA):=[(qaQ,⟨"is_whole_within","is_whole_within",qdb,38,37,H36.pm1⟩),(qbL,⟨"is_letter","is_letter",qih,106,105,H36.pm1⟩),(qbm,⟨"__init__","Pool.__init__",qip,368,367,H36.pm5⟩),(qaS,⟨"is_free","Pool.is_free",qe5,382,381,H36.pm5⟩),(qaN,⟨"is_with","Talks.is_with",qeg,481,480,.str "lentgate.talks" 910⟩),(qa7,⟨"lend","Talks.lend",qgJ,528,527,H36.pm6⟩),(qa8,⟨"lead","Talks.lead",qgK,549,548,H36.pm6⟩),(qaw,⟨"answered","Gate.answered",qei,687,686,H36.pm7⟩),(qav,⟨"lead_out","Gate.lead_out",qeh,701,700,H36.pm7⟩),(qaf,⟨"begin_out","Gate.begin_out",qdM,708,707,H36.pm7⟩),(qaT,⟨"lead_in","Gate.lead_in",qe6,729,728,H36.pm7⟩),(qau,⟨"lets_note_in","Gate.lets_note_in",qcp,743,742,H36.pm7⟩)]
noncomputable def G5:List (FD×FA):=[(qaO,⟨"write","Side.write",qgN,812,811,H36.pm8⟩),(f__law_due,⟨"_law_due","_law_due",qkb,871,870,H36.pm9⟩)]
noncomputable def G6:List (FD×FA):=[(qbu,⟨"next_state","next_state",qgH,298,297,H36.pm3⟩),(qa2,⟨"picked","Pool.picked",qfS,396,395,H36.pm5⟩),(qaF,⟨"begin","Talks.begin",qfR,542,541,H36.pm6⟩),(qa3,⟨"sifted","Gate.sifted",qfT,736,735,H36.pm7⟩),(qbk,⟨"__init__","Side.__init__",qin,805,804,H36.pm8⟩),(qcW,⟨"meeting","meeting",qli,833,832,H36.pm8⟩),(qgl,⟨"meets","meets",qqu,838,837,.str "lentgate.meetings" 1442⟩)]
noncomputable def G7:List (FD×FA):=[(qbj,⟨"__init__","Talk.__init__",qim,441,440,H36.pm6⟩),(qas,⟨"of_outer","Talks.of_outer",qdJ,476,475,H36.pm6⟩)]
noncomputable def G8:List (FD×FA):=[(qaU,⟨"come_in","Gate.come_in",qe7,722,721,H36.pm7⟩)]
noncomputable def G9:List (FD×FA):=[(qbp,⟨"come","Gate.come",qit,603,602,H36.pm7⟩)]
noncomputable def G10:List (FD×FA):=[(qbF,⟨"out","Gate.out",qkd,596,595,H36.pm7⟩)]
section
variable(Pm:Params)
theorem b0:qkX (H36.K Pm) S Cx 1 G0=true:=by kernel_rfl
theorem l0:G0.map (fun x=>(H36.K Pm).lookup x.2.g)=G0.map fun x=>some x.2.fn:=by kernel_rfl
theorem u0:∀ us:LVl,us.length=1->G0.map (fun x=>bindArgs (fdOf x.2) ⟨us,[]⟩)=G0.map fun x=>pure (x.1.ps.zip us):=fun us hl=>match us,hl with| [u0],_=>by kernel_rfl
theorem b1:qkX (H36.K Pm) S Cx 1 G1=true:=by kernel_rfl
theorem l1:G1.map (fun x=>(H36.K Pm).lookup x.2.g)=G1.map fun x=>some x.2.fn:=by kernel_rfl
theorem u1:∀ us:LVl,us.length=1->G1.map (fun x=>bindArgs (fdOf x.2) ⟨us,[]⟩)=G1.map fun x=>pure (x.1.ps.zip us):=fun us hl=>match us,hl with| [u0],_=>by kernel_rfl
theorem b2:qkX (H36.K Pm) S Cx 2 G2=true:=by kernel_rfl
theorem l2:G2.map (fun x=>(H36.K Pm).lookup x.2.g)=G2.map fun x=>some x.2.fn:=by kernel_rfl
theorem u2:∀ us:LVl,us.length=2->G2.map (fun x=>bindArgs (fdOf x.2) ⟨us,[]⟩)=G2.map fun x=>pure (x.1.ps.zip us):=fun us hl=>match us,hl with| [u0,u1],_=>by kernel_rfl
theorem b3:qkX (H36.K Pm) S Cx 2 G3=true:=by kernel_rfl
theorem l3:G3.map (fun x=>(H36.K Pm).lookup x.2.g)=G3.map fun x=>some x.2.fn:=by kernel_rfl
theorem u3:∀ us:LVl,us.length=2->G3.map (fun x=>bindArgs (fdOf x.2) ⟨us,[]⟩)=G3.map fun x=>pure (x.1.ps.zip us):=fun us hl=>match us,hl with| [u0,u1],_=>by kernel_rfl
theorem b4:qkX (H36.K Pm) S Cx 3 G4=true:=by kernel_rfl
theorem l4:G4.map (fun x=>(H36.K Pm).lookup x.2.g)=G4.map fun x=>some x.2.fn:=by kernel_rfl
theorem u4:∀ us:LVl,us.length=3->G4.map (fun x=>bindArgs (fdOf x.2) ⟨us,[]⟩)=G4.map fun x=>pure (x.1.ps.zip us):=fun us hl=>match us,hl with| [u0,u1,u2],_=>by kernel_rfl
theorem b5:qkX (H36.K Pm) S Cx 3 G5=true:=by kernel_rfl
theorem l5:G5.map (fun x=>(H36.K Pm).lookup x.2.g)=G5.map fun x=>some x.2.fn:=by kernel_rfl
theorem u5:∀ us:LVl,us.length=3->G5.map (fun x=>bindArgs (fdOf x.2) ⟨us,[]⟩)=G5.map fun x=>pure (x.1.ps.zip us):=fun us hl=>match us,hl with| [u0,u1,u2],_=>by kernel_rfl
theorem b6:qkX (H36.K Pm) S Cx 4 G6=true:=by kernel_rfl
theorem l6:G6.map (fun x=>(H36.K Pm).lookup x.2.g)=G6.map fun x=>some x.2.fn:=by kernel_rfl
theorem u6:∀ us:LVl,us.length=4->G6.map (fun x=>bindArgs (fdOf x.2) ⟨us,[]⟩)=G6.map fun x=>pure (x.1.ps.zip us):=fun us hl=>match us,hl with| [u0,u1,u2,u3],_=>by kernel_rfl
theorem b7:qkX (H36.K Pm) S Cx 5 G7=true:=by kernel_rfl
theorem l7:G7.map (fun x=>(H36.K Pm).lookup x.2.g)=G7.map fun x=>some x.2.fn:=by kernel_rfl
theorem u7:∀ us:LVl,us.length=5->G7.map (fun x=>bindArgs (fdOf x.2) ⟨us,[]⟩)=G7.map fun x=>pure (x.1.ps.zip us):=fun us hl=>match us,hl with| [u0,u1,u2,u3,u4],_=>by kernel_rfl
theorem b8:qkX (H36.K Pm) S Cx 6 G8=true:=by kernel_rfl
theorem l8:G8.map (fun x=>(H36.K Pm).lookup x.2.g)=G8.map fun x=>some x.2.fn:=by kernel_rfl
theorem u8:∀ us:LVl,us.length=6->G8.map (fun x=>bindArgs (fdOf x.2) ⟨us,[]⟩)=G8.map fun x=>pure (x.1.ps.zip us):=fun us hl=>match us,hl with| [u0,u1,u2,u3,u4,u5],_=>by kernel_rfl
theorem b9:qkX (H36.K Pm) S Cx 7 G9=true:=by kernel_rfl
theorem l9:G9.map (fun x=>(H36.K Pm).lookup x.2.g)=G9.map fun x=>some x.2.fn:=by kernel_rfl
theorem u9:∀ us:LVl,us.length=7->G9.map (fun x=>bindArgs (fdOf x.2) ⟨us,[]⟩)=G9.map fun x=>pure (x.1.ps.zip us):=fun us hl=>match us,hl with| [u0,u1,u2,u3,u4,u5,u6],_=>by kernel_rfl
theorem b10:qkX (H36.K Pm) S Cx 8 G10=true:=by kernel_rfl
theorem l10:G10.map (fun x=>(H36.K Pm).lookup x.2.g)=G10.map fun x=>some x.2.fn:=by kernel_rfl
theorem u10:∀ us:LVl,us.length=8->G10.map (fun x=>bindArgs (fdOf x.2) ⟨us,[]⟩)=G10.map fun x=>pure (x.1.ps.zip us):=fun us hl=>match us,hl with| [u0,u1,u2,u3,u4,u5,u6,u7],_=>by kernel_rfl
theorem qEh:(S.bl.all fun x=>qsl (PySem.W.nsIn (H36.K Pm) mainGlobals x))=true:=by kernel_rfl
theorem qEe:(S.gi.all fun x=>qvA x.2 (PySem.W.nsIn (H36.K Pm) mainGlobals x.1))=true:=by kernel_rfl
theorem qEd:(S.gt.all fun x=>qvj (H36.K Pm) x.2 (PySem.W.nsIn (H36.K Pm) mainGlobals x.1))=true:=by kernel_rfl
theorem qEg:(S.cl.zipIdx.all fun x=>qrU (H36.K Pm) (Cx x.2)&&qpJ (Cx x.2) (PySem.W.nsIn (H36.K Pm) mainGlobals x.1))=true:=by kernel_rfl
theorem qEf:(S.fs.all fun x=>qrU (H36.K Pm) (Cx x.1)&&qsl (PySem.W.findIn (H36.K Pm) (.ref (Cx x.1)) x.2))=true:=by kernel_rfl
end
section
variable {w:World}{h:Heap}{mg:SOV}(X:(H36.K w.2).In h)(G:h.Ns mainGlobals mg)
include X G
theorem qBd:∀ x∈(G0++(G1++(G2++(G3++(G4++(G5++(G6++(G7++(G8++(G9++G10)))))))))),HdF (H36.K w.2) mg S Cx x.1 x.2.g (fdOf x.2):=(qbx (grp X G (b0 _) (l0 _) u0) (qbx (grp X G (b1 _) (l1 _) u1) (qbx (grp X G (b2 _) (l2 _) u2) (qbx (grp X G (b3 _) (l3 _) u3) (qbx (grp X G (b4 _) (l4 _) u4) (qbx (grp X G (b5 _) (l5 _) u5) (qbx (grp X G (b6 _) (l6 _) u6) (qbx (grp X G (b7 _) (l7 _) u7) (qbx (grp X G (b8 _) (l8 _) u8) (qbx (grp X G (b9 _) (l9 _) u9) (grp X G (b10 _) (l10 _) u10)))))))))))
theorem qrF:∀ d∈S.fd,∃ g fd,HdF (H36.K w.2) mg S Cx d g fd:=quJ (by rfl) (qBd X G)
theorem quD:Hd PySem.Challenge.pw_lentgate_k36_whole_meetings_by_their_for w (H36.K w.2) mg (P eE):=by
 refine qxN X G (qEh _) (qEe _) (qEd _) (qEg _) (qEf _) ?_ (fun x l hx=>by cases hx) (qrF X G) ?_
 · show ∀ x∈[("DEEDS":Str),("TIME_AT":Str)],_
   refine waC.mpr ⟨show KTab _ _ _ _ _ (kvA qmj)from qoB (waW X G (n:="DEEDS") (v:=.ref 149) (by kernel_rfl)) (show(H36.K w.2).lookup 149=some (H36.v201 w.2) by kernel_rfl) (by decide) ⟨⟨_,rfl⟩,rfl,rfl,⟨_,rfl⟩,rfl,rfl,⟨_,rfl⟩,rfl,rfl,⟨_,rfl⟩,rfl,rfl,⟨_,rfl⟩,rfl,rfl,⟨_,rfl⟩,rfl,rfl,trivial⟩ (by decide+kernel),?_⟩
   refine waC.mpr ⟨show KTab _ _ _ _ _ (kvI qhE)from qoA (waW X G (n:="TIME_AT") (v:=.ref 228) (by kernel_rfl)) (show(H36.K w.2).lookup 228=some (H36.v307 w.2) by kernel_rfl) (by decide) ⟨⟨_,rfl⟩,rfl,⟨_,rfl⟩,⟨_,rfl⟩,rfl,⟨_,rfl⟩,⟨_,rfl⟩,rfl,⟨_,rfl⟩,⟨_,rfl⟩,rfl,⟨_,rfl⟩,⟨_,rfl⟩,rfl,⟨_,rfl⟩,⟨_,rfl⟩,rfl,⟨_,rfl⟩,trivial⟩ (by decide+kernel),?_⟩
   exact wag _
 · show ∀ q∈[((113:Addr),(9:Nat)),((120:Addr),(10:Nat))],_
   refine waC.mpr ⟨⟨qc0,rfl,rfl,by kernel_rfl⟩,?_⟩
   refine waC.mpr ⟨⟨qb2,rfl,rfl,by kernel_rfl⟩,?_⟩
   exact wag _
end
def aL:FA:=⟨"law","law",qsZ,886,885,.str "law_lentgate_k36_whole_meetings_by_their_for" 1545⟩
theorem tbE:Tb eE:=⟨⟨_,by rfl,.head _⟩,⟨_,by rfl,.tail _ (.head _)⟩,by rfl⟩
theorem qoy(ns:List Int):sem (P eE) 16 22 [.ls (ns.map RV.int)] (fun _=>none) (fun v _=>v= .bl true):=qwL tbE fun _=>rfl
theorem walk{l:PySem.W.OpenLaw}{q:Program}{loose:LSt}{XP:(SOV)->Heap->Prop}{YP:World->Heap->Prop}{d:DefRec}(hn:l.most=some 63)(hp:l.prog=PySem.Challenge.pw_lentgate_k36_whole_meetings_by_their_for)(hdn:d.name= "law")(hdf:d.params.defaults= [])
 (hY:∀ (w:World) (h:Heap),YP w h->(H36.K w.2).In h):PySem.W.WalkO q loose XP YP l.row.toRowW d [] (fun f vs=>PySem.call f vs):=by
 refine L2.walk_of (n:=63) (k:=16+1) (x:="script") (K:=H36.K) (CX:=fun _=>CX0) (sp:=fun w=>qgt (H36.K w.2) (sem (P eE) 16 22)) hn (by decide) hdf ⟨rfl,by decide,by decide⟩ hY (fun w mg fa h X G hm=>?_) (fun _ _ a ns hl hO hS=>qub hO hS (qoy ns)) fun _ _ _ _ _ z=>z
 have hl:=qBd X G (f_law,aL) (wap.mpr (.inr (wap.mpr (.inl (.tail _ (.tail _ (.tail _ (.tail _ (.tail _ (.tail _ (.tail _ (.tail _ (.tail _ (.tail _ (.head _)))))))))))))));have hf:=hl.k0 rfl;rw[hdn]at hm;have:fa=aL.g:=by have:=hm.symm.trans hf;injection this with this;injection this
 subst this;rw[hp];exact⟨fdOf aL,fun s u=>.of_eq (by kernel_rfl),fun base _ _=>(lev (quD X G) 16 22 f_law aL.g (fdOf aL) rfl hl).1⟩
end K36
open PySem PySem.W PyProof.Rows
theorem K36.wa:looksOpen PySem.Challenge.pw_lentgate_k36_whole_meetings_by_their_for=true:=by kernel_rfl
theorem K36.wb:(PySem.Challenge.rw_lentgate_k36_whole_meetings_by_their_for).row.wellSaid=true:=by
 delta OpenRow.wellSaid OpenRow.partSaid
 rw[show looksOpen (PySem.Challenge.rw_lentgate_k36_whole_meetings_by_their_for).row.prog=true from K36.wa];kernel_rfl
theorem K36.ws:PySem.Challenge.rw_lentgate_k36_whole_meetings_by_their_for.wellSaid=true:=by
 delta OpenLaw.wellSaid
 rw[K36.wb];kernel_rfl
theorem PySem.Challenge.cw_lentgate_k36_whole_meetings_by_their_for_holds : PySem.Challenge.rw_lentgate_k36_whole_meetings_by_their_for.Holds := by
 w_on;refine PySem.W.holds_law K36.ws fun said=>?_
 refine PySem.W.holds_open (r:=(PySem.Challenge.rw_lentgate_k36_whole_meetings_by_their_for).row) (q:=H36.q) (loose:=H36.loose) (Xt:=H36.Xt) (XP:=PySem.W.XL H36.q [])
  (Yf:=(PySem.W.kHook H36.K H36.ks H36.ks_eq).obs) (Ya:=(PySem.W.kHook H36.K H36.ks H36.ks_eq).val) (YP:=(PySem.W.kHook H36.K H36.ks H36.ks_eq).says) (N:=H36.NN)
  H36.left (PySem.W.Hook.of _) (PySem.W.Hook.keeps _) (fun s e=>PySem.W.xl_of s (Bool.and_eq_true_iff.mp e).1) PySem.W.XL.keeps (by rfl) (by rfl) (by rfl)
  (fun s e=>PySem.W.recFacts_of (Bool.and_eq_true_iff.mp e).2) (by rfl) (by assumption) (by decide+kernel) ⟨rfl,rfl,rfl,rfl,rfl,by decide+kernel⟩ ?hw ?hc
 (case hw=>w_witness2)
 k_fill
 exact K36.walk (l:=PySem.Challenge.rw_lentgate_k36_whole_meetings_by_their_for) rfl rfl rfl rfl (fun w h Y=>PySem.W.kIn_of Y)
