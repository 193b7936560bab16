import PyProof.Rows.All
import Wide.All
import OpenK.AllK
import Wide.FinOn
import Lean
import PyProof.EqAt
import PyProof.EqKinds
import PyProof.TupleCall
import PyProof.NeKinds
import PyProof.ZipIter
import KE.KSortTup
import KE.KDictSum
import KE.KSortedM
import KE.KEqDict
import PyProof.DictWalks
import KE.KDictList
import PyProof.Conv_int_bool
import KE.KSortKey
import KE.KLam
import KE.KIntText
import PySem.Challenge.RW_lentgate_k08_a_line_word_by_word
set_option Elab.async false
set_option linter.all false
set_option maxRecDepth 100000
set_option genInjectivity false
set_option genSizeOfSpec false
set_option genSizeOf false
set_option bootstrap.genMatcherCode false
set_option maxHeartbeats 0
abbrev Frg:=PySem.W.Frag
local macro_rules | `(tactic| walk_at "w9") => `(tactic| (rw [PySem.W.Fast.te10110043849684766642, PySem.W.Fast.te14364793385576792824]; kernel_rfl))
def waa:=@PySem.wpAny_bind
def wab:=@PySem.Heap.get?_push_of_some
def wac:=@Bool.and_eq_true
def wad:=@if_neg
def wae:=@PySem.wpAny_pure
def waf:=@Nat.le_refl
def wag:=@if_pos
def wah:=@PySem.Heap.get?_push_size
def wai:=@PySem.Heap.lt_size
def waj:=@List.length_map
def wak:=@List.size_toArray
def wal:=@List.length_cons
def wam:=@Nat.lt_of_lt_of_le
def wan:=@List.map_cons
def wao:=@Option.some.inj
def wap:=@List.all_eq_true
def waq:=@Nat.ne_of_lt
def war:=@PySem.W.Fast.te10295753902157049106
def was:=@Nat.le_trans
def wat:=@List.mem_cons_of_mem
def wau:=@List.getElem?_map
def wav:=@List.all_cons
def waw:=@List.mem_append_right
def wax:=@List.getElem?_eq_some_iff
def waz:=@List.mem_cons_self
def waA:=@Bool.false_ne_true
def waB:=@decide_eq_false
def waC:=@List.length_append
def waD:=@Bool.false_eq_true
def waE:=@List.mem_map
def waF:=@List.mem_of_getElem?
def waG:=@List.map_map
def waH:=@List.mem_cons
def waI:=@absurd
def waJ:=@PySem.wpAny_truthy_bool
def waK:=@List.getElem?_append_left
def waL:=@Nat.zero_add
def waM:=@beq_iff_eq
def waN:=@List.find?_cons
def waO:=@PySem.wpAny_call_entry
def waP:=@PySem.wpAny_newObj_type
def waQ:=@decide_eq_true_eq
def waR:=@beq_eq_false_iff_ne
def waS:=@PySem.W.emptyDict
def waT:=@PyProof.Rows.callWith_type1
def waU:=@List.nodup_cons
def waV:=@List.filter_cons
def waW:=@List.lookup_cons
def waX:=@PyProof.Rows.slot_tuple_getitem
def waY:=@List.replicate_succ
def waZ:=@Bool.not_eq_true'
def wa0:=@PySem.wpAny_holding
def wa1:=@List.mem_append
def wa2:=@LawfulBEq.eq_of_beq
def wa3:=@PySem.wpAny_mono
def wa4:=@Ne.symm
def wa5:=@List.forall_mem_cons
def wa6:=@Nat.lt_irrefl
def wa7:=@List.any_cons
def wa8:=@PySem.W.mg_of
def wa9:=@List.mem_range
def wba:=@decide_eq_true
def wbb:=@of_decide_eq_true
def wbc:=@PySem.W.instObj
def wbd:=@List.mem_filter
def wbe:=@Option.isSome_iff_exists
def wbf:=@List.flatten_cons
def wbg:=@PySem.W.kia_one
def wbh:=@List.map_nil
def wbi:=@Nat.zero_le
def wbj:=@Nat.add_sub_cancel_left
def wbk:=@List.mem_filterMap
def wbl:=@List.mem_singleton
def wbm:=@Nat.le_of_lt
def wbn:=@List.append_nil
def wbo:=@List.length_replicate
def wbp:=@List.length_filter_le
def wbq:=@List.forIn_cons
def wbr:=@PySem.wpAny_dictEntries
def wbs:=@List.mem_append_left
def wbt:=@PySem.W.plainGet
def wbu:=@List.map_congr_left
def wbv:=@PySem.W.callWith_K
def wbw:=@List.map_append
def wbx:=@PySem.W.hasDictIn
def wby:=@Option.isSome_map
def wbz:=@Nat.lt_succ_of_lt
def wbA:=@List.length_range
def wbB:=@Option.some.injEq
noncomputable section
abbrev LAO:=List (PySem.Addr×PySem.Obj)
abbrev VSP:=PySem.Value->PySem.Shared->Prop
abbrev SOV:=PySem.Str->Option PySem.Value
abbrev LVl:=List PySem.Value
abbrev LEx:=List PySem.Expr
abbrev LSt:=List PySem.Str
abbrev OVl:=Option PySem.Value
namespace R
open PySem PySem.W PyProof.Rows
structure Ar(n:Nat)(p:Array Nat):Prop where
 sz:p.size=n
 pm:p.toList.Perm (List.range n)
section
variable {O:KeyOrd}{f:Nat->O.α}{n:Nat}{p:Array Nat}
end
end R
namespace L2
open PySem PySem.Spec PyProof.Rows
abbrev Key:=Sum Int Str
def qfa:Key->Value->Bool
 | .inl k,v=>Value.isInt k v
 | .inr x,v=>Value.isStrOf x v
def qAE(w:World):Key->Int
 | .inl k=>hashInt k
 | .inr x=>hashStr w x
theorem qap:∀ {k:Key} {v:Value},qfa k v=true->(∃ i t,k=Sum.inl i/\v=Value.int i t)∨(∃ x t,k=Sum.inr x/\v=Value.str x t)
 | .inl i,v,h=>by
  obtain⟨t,e⟩:=Value.isInt_shape (k:=i) (v:=v) h;exact .inl ⟨i,t,rfl,e⟩
 | .inr x,v,h=>by
  obtain⟨t,e⟩:=Value.isStrOf_shape (x:=x) (v:=v) h;exact .inr ⟨x,t,rfl,e⟩
theorem qlr(i:Int)(t:Tok):qfa (.inl i) (.int i t)=true:=by simp[qfa,Value.isInt]
theorem qlq(x:Str)(t:Tok):qfa (.inr x) (.str x t)=true:=by simp[qfa,Value.isStrOf]
theorem qtv(a b:Int):decide ((Sum.inl a:Key)=Sum.inl b)=(a==b):=by
 by_cases e:a=b
 · subst e;simp
 · have h:¬(Sum.inl a:Key)=Sum.inl b:=fun q=>e (Sum.inl.inj q)
   rw[waB h];exact(waR.mpr e).symm
theorem qts(a b:Str):decide ((Sum.inr a:Key)=Sum.inr b)=decide (a=b):=by
 by_cases e:a=b
 · subst e;simp
 · have h:¬(Sum.inr a:Key)=Sum.inr b:=fun q=>e (Sum.inr.inj q)
   rw[waB h,waB e]
theorem qtu(a:Int)(b:Str):decide ((Sum.inl a:Key)=Sum.inr b)=false:=waB (fun q=>nomatch q)
theorem qtt(a:Str)(b:Int):decide ((Sum.inr a:Key)=Sum.inl b)=false:=waB (fun q=>nomatch q)
noncomputable def qai (prog:Program)(w:World):PySem.KeyKind prog w Key where
 is:=qfa
 hash:=qAE w
 inj:=fun v a b ha hb=>by
  rcases qap ha with⟨i,t,rfl,rfl⟩|⟨x,t,rfl,rfl⟩
  · rcases qap hb with⟨j,u,rfl,e⟩|⟨y,u,rfl,e⟩
    · injection e with e1 _;rw[e1]
    · exact nomatch e
  · rcases qap hb with⟨j,u,rfl,e⟩|⟨y,u,rfl,e⟩
    · exact nomatch e
    · injection e with e1 _;rw[e1]
 byValue:=fun k v h=>by
  rcases qap h with⟨i,t,rfl,rfl⟩|⟨x,t,rfl,rfl⟩<;>rfl
 pyHash:=fun hv h=>by
  rcases qap hv with⟨i,t,rfl,rfl⟩|⟨x,t,rfl,rfl⟩
  · exact wpAny_pyHash_int h
  · exact wpAny_pyHash_str h
 eqBool:=fun hu hv h=>by
  rcases qap hu with⟨i,t,rfl,rfl⟩|⟨x,t,rfl,rfl⟩
  · rcases qap hv with⟨j,u,rfl,rfl⟩|⟨y,u,rfl,rfl⟩
    · rw[qtv]at h;exact wpAny_eqBool_int h
    · rw[qtu]at h;exact SeqAt.EqAt.int_str i t y u _ _ _ _ h
  · rcases qap hv with⟨j,u,rfl,rfl⟩|⟨y,u,rfl,rfl⟩
    · rw[qtt]at h;exact SeqAt.EqAt.str_int x t j u _ _ _ _ h
    · rw[qts]at h;exact wpAny_eqBool_str h
 «strs»:=fun k x t v h=>by
  rcases qap h with⟨i,u,rfl,e⟩|⟨y,u,rfl,e⟩
  · exact nomatch e
  · injection e with e1 _
    subst e1;cases v<;>rfl
theorem qic(prog:Program)(w:World)(i:Int)(t:Tok):(qai prog w).is (.inl i) (.int i t)=true:=qlr i t
theorem qep(prog:Program)(w:World)(x:Str)(t:Tok):(qai prog w).is (.inr x) (.str x t)=true:=qlq x t
inductive V where
 |non|bl (b:Bool)|int (i:Int)|str (x:Str)|byt (b:Array UInt8)|flt (b:UInt64)|ref (a:Addr)|ty (n:String)
 deriving DecidableEq
abbrev LV:=List V
noncomputable def RelV:V->Value->Prop
 | .non,u=>u=Value.none
 | .bl b,u=>u=Value.bool b
 | .int i,u=>∃ t,u=Value.int i t
 | .str x,u=>∃ t,u=Value.str x t
 | .byt b,u=>∃ t,u=Value.bytes b t
 | .flt b,u=>∃ t,u=Value.float b t
 | .ref a,u=>u=Value.ref a
 | .ty n,u=>u=Value.type n
abbrev Vals:LV->LVl->Prop:=Paired RelV
theorem Vals.length{xs:LV}{us:LVl}(r:Vals xs us):xs.length=us.length:=Paired.length r
theorem Vals.get:∀ {xs:LV} {us:LVl} {i:Nat} {x:V},Vals xs us->xs[i]? =some x->∃ u,us[i]? =some u/\RelV x u
 |_,_,_,_,.nil,e=>by simp at e
 |_,_,0,_,.cons r _,e=>by simp at e;subst e;exact⟨_,rfl,r⟩
 |_,_,i+1,x,.cons _ t,e=>by
  obtain⟨u,h1,h2⟩:=Vals.get (i:=i) (x:=x) t (by simpa using e)
  exact⟨u,by simpa using h1,h2⟩
theorem Vals.set{x:V}{u:Value}(r:RelV x u):∀ {xs:LV} {us:LVl} (i:Nat),Vals xs us->Vals (xs.set i x) (us.set i u)
 |_,_,_,.nil=>.nil
 |_,_,0,.cons _ t=>.cons r t
 |_,_,i+1,.cons q t=>.cons q (Vals.set r i t)
theorem Vals.append:∀ {xs ys:LV} {us ws:LVl},Vals xs us->Vals ys ws->Vals (xs++ys) (us++ws)
 |_,_,_,_,.nil,s=>s
 |_,_,_,_,.cons r t,s=>.cons r (Vals.append t s)
theorem Vals.take:∀ {xs:LV} {us:LVl} (n:Nat),Vals xs us->Vals (xs.take n) (us.take n)
 |_,_,0,_=>.nil
 |_,_,_+1,.nil=>.nil
 |_,_,n+1,.cons r t=>.cons r (Vals.take n t)
theorem Vals.drop:∀ {xs:LV} {us:LVl} (n:Nat),Vals xs us->Vals (xs.drop n) (us.drop n)
 |_,_,0,r=>r
 |_,_,_+1,.nil=>.nil
 |_,_,n+1,.cons _ t=>Vals.drop n t
def RelO:Option V->OVl->Prop
 |some v,some u=>RelV v u
 |none,none=>True
 |_,_=>False
def KV{κ:Type}:List (κ×V)->List (κ×Value)->Prop:=Paired fun(p:κ×V) (q:κ×Value)=>p.1=q.1/\RelV p.2 q.2
def kV:Key->V
 | .inl i=>.int i
 | .inr x=>.str x
abbrev qbE:=Option Key
def oV:qbE->V
 |none=>.non
 |some k=>kV k
def qu5:Option Key->Value->Bool
 |none,.none=>true
 |none,_=>false
 |some k,v=>qfa k v
def okH(w:World):Option Key->Int
 |none=>0xFCA86420
 |some k=>qAE w k
theorem qaK:∀ {k:Option Key} {v:Value},qu5 k v=true->(k=none/\v=Value.none)∨∃ j,k=some j/\qfa j v=true
 |none,v,h=>by cases v<;>first|exact .inl ⟨rfl,rfl⟩|(simp[qu5]at h)
 |some k,v,h=>.inr ⟨k,rfl,h⟩
theorem qfo{k:Key}:qfa k Value.none=false:=by cases k<;>rfl
section
variable {prog:Program}{w:World}{A:Around}{E:VSP}{s:Shared}
theorem qlU{Q:Int->Shared->Prop}(h:Q 0xFCA86420 { s with toks:=s.toks+1 }):wpAny (model prog w) A (PySem.pyHash .none) Q E s:=by
 have hT:s.TypeIs .none "NoneType":=rfl;unfold PySem.pyHash;have hv:[Value.none].any Value.onHeap=false:=rfl;refine waa ?_;rw[cRoomFor,wad (by rw[hv];exact waA)];refine wae ?_
 refine waa (wpAny_specialOf hT F.slot_NoneType_hash.lookup ?_);show wpAny _ _ (if(some (Value.builtin "NoneType.__hash__")==some Value.none)=true then _ else _) Q E s
 rw[wad (by rw[beq_builtin_none];exact waA)]
 refine waa (wpAny_specialOf hT F.slot_NoneType_hash.lookup ?_);show wpAny _ _ (callSpecialIfBoundUnlessNone? .none "__hash__" _ >>= _) Q E s;refine waa (wpAny_callSpecialIfBoundUnlessNone?_slot hT F.slot_NoneType_hash
  (waO F.slot_NoneType_hash hT F.entry_NoneType_hash
   (show wpAny _ _ (do ret (<-mkInt 0xFCA86420)) _ _ s from wpAny_ret_mkInt ?_) (F.args_NoneType_hash_1 _)))
 show wpAny _ _ (if(decide (-(2:Int) ^ 63<=0xFCA86420)&&decide ((0xFCA86420:Int)<2 ^ 63))=true then _ else _) Q E _
 rw[wag (by decide)]
 exact wae h
end
noncomputable def optKind (prog:Program)(w:World):PySem.KeyKind prog w (Option Key) where
 is:=qu5
 hash:=okH w
 inj:=fun v a b ha hb=>by
  rcases qaK ha with⟨rfl,rfl⟩|⟨j,rfl,hj⟩
  · rcases qaK hb with⟨rfl,_⟩|⟨i,rfl,hi⟩
    · rfl
    · rw[qfo]at hi;cases hi
  · rcases qaK hb with⟨rfl,rfl⟩|⟨i,rfl,hi⟩
    · rw[qfo]at hj;cases hj
    · rw[(qai prog w).inj v j i hj hi]
 byValue:=fun k v h=>by
  rcases qaK h with⟨rfl,rfl⟩|⟨j,rfl,hj⟩
  · rfl
  · exact(qai prog w).byValue j v hj
 pyHash:=fun hv h=>by
  rcases qaK hv with⟨rfl,rfl⟩|⟨j,rfl,hj⟩
  · exact qlU h
  · exact(qai prog w).pyHash hj h
 eqBool:=fun {A E s a b u v Q} hu hv h=>by
  rcases qaK hu with⟨rfl,rfl⟩|⟨i,rfl,hi⟩
  · rcases qaK hv with⟨rfl,rfl⟩|⟨j,rfl,hj⟩
    · exact SeqAt.EqAt.same _ _ _ _ _ (by simpa using h)
    · have e:decide ((none:Option Key)=some j)=false:=waB (fun q=>nomatch q)
      rw[e]at h;rcases qap hj with⟨k,t,rfl,rfl⟩|⟨x,t,rfl,rfl⟩
      · exact SeqAt.EqAt.none_int k t _ _ _ _ h
      · exact SeqAt.EqAt.none_str x t _ _ _ _ h
  · rcases qaK hv with⟨rfl,rfl⟩|⟨j,rfl,hj⟩
    · have e:decide ((some i:Option Key)=none)=false:=waB (fun q=>nomatch q)
      rw[e]at h;rcases qap hi with⟨k,t,rfl,rfl⟩|⟨x,t,rfl,rfl⟩
      · exact SeqAt.EqAt.int_none k t _ _ _ _ h
      · exact SeqAt.EqAt.str_none x t _ _ _ _ h
    · have e:decide (some i=some j)=decide (i=j):=by
       by_cases q:i=j
       · subst q;simp
       · rw[waB q,waB fun z=>q (wao z)]
      rw[e]at h;exact(qai prog w).eqBool hi hj h
 «strs»:=fun k x t v h=>by
  rcases qaK h with⟨rfl,e⟩|⟨j,rfl,hj⟩
  · cases e
  · exact(qai prog w).strs j x t v hj
inductive HO where
 |lst (xs:LV)
 |tup (xs:LV)
 |dK (kvs:List (Key×V))|dT (kvs:List (List qbE×V))
 |set (S:Int->Bool) (n:Nat)
 |ins (C dx:Addr) (fs:List (Str×V))
 |own (x:Addr)
 |xd (fs:List (Str×V))
 |met (f x:Addr)
 |rng (lo hi:Int)
 |frz (o:Obj) (u:HO)
 |tbl (ps:Array Value)
 |ext (φ:Heap->Prop)
abbrev Hp:=Addr->Option HO
def upd(H:Hp)(a:Addr)(o:HO):Hp:=fun b=>if b=a then some o else H b
theorem qag{H:Hp}{a:Addr}{o:HO}:upd H a o a=some o:=by unfold upd;rw[wag rfl]
theorem qaa{H:Hp}{a b:Addr}{o:HO}(h:b≠a):upd H a o b=H b:=by unfold upd;rw[wad h]
theorem qpj{H:Hp}{a:Addr}{o u:HO}:upd (upd H a o) a u=upd H a u:=by
 funext b;unfold upd;split<;>rfl
theorem qeo{H:Hp}{a b:Addr}{o u:HO}(h:H a=some o)(h':H b=some u)(d:o≠u):a≠b:=by
 intro e;subst e;rw[h]at h';exact d (wao h')
theorem qab{H:Hp}{a b:Addr}{o:HO}(h:H a=some o)(h':H b=none):a≠b:=by
 intro e;subst e;rw[h]at h';cases h'
section
variable(P:Program)(w:World)
noncomputable def ObjOk (H:Hp)(h:Heap)(a:Addr):HO->Prop
 | .lst xs=>xs.length<=sizeLine/\∃ (its:LVl) (n:Nat),Vals xs its/\h.get? a=some { cls:=.type "list",data:=.seq its.toArray n }
 | .tup xs=>xs.length<=sizeLine/\∃ its:LVl,Vals xs its/\IsTup h a its.toArray
 | .dK kvs=>kvs.length<=sizeLine/\(a==sysModules)=false/\∃ vs,KV kvs vs/\h.DictOf (qai P w) a vs
 | .dT kvs=>kvs.length<=sizeLine/\(a==sysModules)=false/\∃ xs:List (List qbE×Addr×Value),
  Paired (fun(p:List qbE×V) (q:List qbE×Addr×Value)=>p.1=q.1/\H q.2.1=some (.tup (p.1.map oV))/\RelV p.2 q.2.2) kvs xs/\
  ∃ o es ep,h.get? a=some o/\o.ExactDict/\o.data= .dict es ep/\es.toList=xs.map (entryOfKey (tupleKind (optKind P w)))/\(xs.map (·.1)).Nodup
 | .set S n=>h.SetOf (intKind P w) a S n
 | .ins C dx fs=>H dx=some (.own a)/\fs.length<=1000/\dx≠a/\h.get? a=some (wbc C dx)/\
  ∃ mA,h.Ns1 dx mA/\(∀ f,RelO (fs.lookup f) (mA f))/\PySem.Within mA (fs.map (·.1))
 | .own _=>∃ o,h.get? a=some o
 | .xd fs=>∃ mA,h.Ns1 a mA/\∀ f,RelO (fs.lookup f) (mA f)
 | .rng lo hi=>∃ t u v,h.get? a=some { cls:=.type "range",data:=.fields #[.int lo t,.int hi u,.int 1 v] }
 | .frz o u=>h.get? a=some o/\ObjOk H h a u
 | .tbl ps=>h.get? a=some { cls:=.none,data:=.fields ps }
 | .met f x=>h.get? a=some (PySem.W.methodObj (.ref f) (.ref x))
 | .ext φ=>φ h/\(∃ o,h.get? a=some o)/\∀ h1 h2:Heap,φ h1->(∀ o,h1.get? a=some o->h2.get? a=some o)->φ h2
def HOk(H:Hp)(h:Heap):Prop:=∀ a o,H a=some o->ObjOk P w H h a o
end
section
variable {P:Program}{w:World}{H H':Hp}{h h':Heap}{a:Addr}{o:HO}
theorem ObjOk.lt(x:ObjOk P w H h a o):a<h.objs.size:=by
 cases o with
 |lst xs=>obtain⟨_,_,_,_,e⟩:=x;exact wai e
 |tup xs=>obtain⟨_,_,_,p⟩:=x;exact p.lt
 |dK kvs=>obtain⟨_,_,_,_,o,_,_,e,_⟩:=x;exact wai e
 |dT kvs=>obtain⟨_,_,_,_,o,_,_,e,_⟩:=x;exact wai e
 |set S n=>obtain⟨o,_,_,_,e,_⟩:=x;exact wai e
 |ins C dx fs=>obtain⟨_,_,_,e,_⟩:=x;exact wai e
 |own y=>obtain⟨_,e⟩:=x;exact wai e
 |xd fs=>obtain⟨_,⟨_,_,_,e,_⟩,_⟩:=x;exact wai e
 |rng lo hi=>obtain⟨_,_,_,e⟩:=x;exact wai e
 |frz ob u=>obtain⟨e,_⟩:=x;exact wai e
 |tbl ps=>exact wai (show h.get? a=some _ from x)
 |met f y=>exact wai (show h.get? a=some _ from x)
 |ext φ=>obtain⟨_,⟨_,e⟩,_⟩:=x;exact wai e
theorem Paired.mapP{α β:Type}{F G:α->β->Prop}:∀ {l₁:List α} {l₂:List β},Paired F l₁ l₂->(∀ a b,F a b->G a b)->Paired G l₁ l₂
 |_,_,.nil,_=>.nil
 |_,_,.cons r t,f=>.cons (f _ _ r) (Paired.mapP t f)
theorem ObjOk.stay(x:ObjOk P w H h a o)(k:∀ b u,(b=a∨H b=some (.own a))->h.get? b=some u->h'.get? b=some u)
 (ho:∀ b,H b=some (.own a)->H' b=some (.own a)) (ht:∀ b xs,H b=some (.tup xs)->H' b=some (.tup xs)):ObjOk P w H' h' a o:=by
 induction o with
 |lst xs=>obtain⟨z,its,n,r,e⟩:=x;exact⟨z,its,n,r,k _ _ (.inl rfl) e⟩
 |tup xs=>obtain⟨z,its,r,ob,e,c⟩:=x;exact⟨z,its,r,ob,k _ _ (.inl rfl) e,c⟩
 |dK kvs=>obtain⟨z,y,vs,r,ob,es,ep,e,c⟩:=x;exact⟨z,y,vs,r,ob,es,ep,k _ _ (.inl rfl) e,c⟩
 |dT kvs=>
  obtain⟨z,y,xs,r,ob,es,ep,e,c⟩:=x;exact⟨z,y,xs,Paired.mapP r fun p q z=>⟨z.1,ht _ _ z.2.1,z.2.2⟩,ob,es,ep,k _ _ (.inl rfl) e,c⟩
 |set S n=>obtain⟨ob,es,ep,t,e,c⟩:=x;exact⟨ob,es,ep,t,k _ _ (.inl rfl) e,c⟩
 |ins C dx fs=>
  obtain⟨d,z,ne,e,mA,⟨od,es,ep,e2,c⟩,r⟩:=x;exact⟨ho _ d,z,ne,k _ _ (.inl rfl) e,mA,⟨od,es,ep,k _ _ (.inr d) e2,c⟩,r⟩
 |own y=>obtain⟨ob,e⟩:=x;exact⟨ob,k _ _ (.inl rfl) e⟩
 |xd fs=>obtain⟨mA,⟨od,es,ep,e,c⟩,r⟩:=x;exact⟨mA,⟨od,es,ep,k _ _ (.inl rfl) e,c⟩,r⟩
 |rng lo hi=>obtain⟨t,u,v,e⟩:=x;exact⟨t,u,v,k _ _ (.inl rfl) e⟩
 |frz ob u ih=>obtain⟨e,q⟩:=x;exact⟨k _ _ (.inl rfl) e,ih q⟩
 |tbl ps=>
  have e:h.get? a=some { cls:=.none,data:=.fields ps }:=x;show h'.get? a=some { cls:=.none,data:=.fields ps };exact k a _ (.inl rfl) e
 |met f y=>
  have e:h.get? a=some (PySem.W.methodObj (.ref f) (.ref y)):=x;show h'.get? a=some (PySem.W.methodObj (.ref f) (.ref y));exact k a _ (.inl rfl) e
 |ext φ=>obtain⟨p,⟨o,e⟩,st⟩:=x;exact⟨st _ _ p fun o q=>k _ _ (.inl rfl) q,⟨o,k _ _ (.inl rfl) e⟩,st⟩
theorem HOk.lt(x:HOk P w H h)(e:H a=some o):a<h.objs.size:=(x a o e).lt
theorem HOk.fresh(x:HOk P w H h)(e:h.objs.size<=a):H a=none:=by
 cases q:H a with
 |none=>rfl
 |some u=>exact waI (wam (x.lt q) e) (wa6 _)
theorem HOk.kept(x:HOk P w H h)(k:∀ b u,h.get? b=some u->h'.get? b=some u):HOk P w H h':=fun a o e=>
 (x a o e).stay (fun b u _ q=>k b u q) (fun _ q=>q) fun _ _ q=>q
theorem HOk.laid(x:HOk P w H h)(k:∀ b u,h.get? b=some u->h'.get? b=some u)(hp:h.objs.size<=a)(new:ObjOk P w (upd H a o) h' a o):HOk P w (upd H a o) h':=fun b u e=>by
 have hn:=x.fresh hp
 by_cases hb:b=a
 · subst hb;rw[qag]at e;cases e;exact new
 · rw[qaa hb]at e
   exact(x b u e).stay (fun c v _ q=>k c v q) (fun c q=>by rw[qaa (qab q hn)];exact q) fun c xs q=>by rw[qaa (qab q hn)];exact q
end
def Rd(H:Hp)(a:Addr)(u:HO):Prop:=H a=some u∨∃ o,H a=some (.frz o u)
theorem Rd.ok{P:Program}{w:World}{H:Hp}{h:Heap}{a:Addr}{u:HO}(r:Rd H a u)(x:HOk P w H h):ObjOk P w H h a u:=by
 rcases r with r|⟨o,r⟩
 · exact x a u r
 · obtain⟨_,q⟩:=x a _ r
   exact q
noncomputable def Mut:Option HO->Prop
 |some (.lst _)=>True
 |some (.dK _)=>True
 |some (.dT _)=>True
 |some (.set _ _)=>True
 |some (.ins _ _ _)=>True
 |some (.ext _)=>True
 |_=>False
section
variable {P:Program}{w:World}{H:Hp}{h h':Heap}{x e:Addr}{o':HO}
theorem HOk.write(ok:HOk P w H h)(mu:Mut (H x))(he:e=x∨H e=some (.own x))(k:∀ b u,b≠e->h.get? b=some u->h'.get? b=some u)(heo:∃ u,h'.get? e=some u)
 (new:ObjOk P w (upd H x o') h' x o'):HOk P w (upd H x o') h':=fun b u q=>by
 have nown:∀ c y,H c=some (.own y)->c≠x:=fun c y r z=>by subst z;rw[r]at mu;exact mu
 have ntup:∀ c xs,H c=some (.tup xs)->c≠x:=fun c xs r z=>by subst z;rw[r]at mu;exact mu
 by_cases hb:b=x
 · subst hb;rw[qag]at q;cases q;exact new
 · rw[qaa hb]at q
   by_cases hbe:b=e
   · have q':H b=some (.own x):=by
      rcases he with z|z
      · exact waI (hbe.trans z) hb
      · rw[hbe];exact z
     rw[q]at q';cases q';obtain⟨v,hv⟩:=heo;exact⟨v,by rw[hbe];exact hv⟩
   · refine(ok b u q).stay (fun c v hc r=>k c v ?_ r) (fun c r=>by rw[qaa (nown c b r)];exact r) fun c xs r=>by rw[qaa (ntup c xs r)];exact r
     rcases hc with rfl|hc
     · exact hbe
     · rintro rfl
       rcases he with z|z
       · exact nown c b hc z
       · rw[hc]at z;cases z;exact hb rfl
end
structure Un(fs ex:List Addr)(H H':Hp)(h h':Heap):Prop where
 keep:∀ b o,h.get? b=some o->H b=none->b∉fs->b∉ex->h'.get? b=some o
 slot:∀ b o,h.get? b=some o->H b=none->b∈fs->b∉ex->∃ sl,h'.get? b=some { o with slots:=sl }
 free:∀ b o,h.get? b=some o->H b=none->b∉ex->H' b=none
 there:∀ b o,h.get? b=some o->b∉ex->∃ o',h'.get? b=some o'
 tups:∀ b xs,H b=some (.tup xs)->H' b=some (.tup xs)
 frzs:∀ b o u,H b=some (.frz o u)->H' b=some (.frz o u)
 tbls:∀ b ps,H b=some (.tbl ps)->∃ more,H' b=some (.tbl (ps++more))
section
variable {fs fs' ex ex':List Addr}{H H1 H2:Hp}{h h1 h2 h':Heap}{a x e:Addr}{o:HO}
theorem Un.any(u:Un fs ex H H1 h h1){b:Addr}{ob:Obj}(q:h.get? b=some ob)(n:H b=none)(hx:b∉ex):∃ sl,h1.get? b=some { ob with slots:=sl }:=by
 by_cases hb:b∈fs
 · exact u.slot b ob q n hb hx
 · exact⟨ob.slots,u.keep b ob q n hb hx⟩
theorem Un.kept(k:∀ b u,h.get? b=some u->h'.get? b=some u):Un fs ex H H h h':=
 ⟨fun b ob q _ _ _=>k b ob q,fun b ob q _ _ _=>⟨ob.slots,k b ob q⟩,fun _ _ _ n _=>n,fun b ob q _=>⟨ob,k b ob q⟩,fun _ _ q=>q,fun _ _ _ q=>q,fun _ ps q=>⟨#[],by rw[q];simp⟩⟩
theorem Un.refl:Un fs ex H H h h:=Un.kept fun _ _ q=>q
theorem Un.laid(k:∀ b u,h.get? b=some u->h'.get? b=some u)(hp:h.objs.size<=a)(hn:H a=none):Un fs ex H (upd H a o) h h' where
 keep:=fun b u q _ _ _=>k b u q
 slot:=fun b u q _ _ _=>⟨u.slots,k b u q⟩
 free:=fun b u q n _=>by rw[qaa (waq (wam (wai q) hp))];exact n
 there:=fun b u q _=>⟨u,k b u q⟩
 tups:=fun b xs q=>by rw[qaa (qab q hn)];exact q
 frzs:=fun b u xs q=>by rw[qaa (qab q hn)];exact q
 tbls:=fun b ps q=>⟨#[],by rw[qaa (qab q hn),q];simp⟩
theorem Un.write(mu:Mut (H x))(he:e=x∨H e=some (.own x))(k:∀ b u,b≠e->h.get? b=some u->h'.get? b=some u)(heo:∃ u,h'.get? e=some u):Un fs ex H (upd H x o) h h':=by
 have hx:∀ b,H b=none->b≠x:=fun b n z=>by subst z;rw[n]at mu;exact mu
 have hb:∀ b,H b=none->b≠e:=fun b n z=>by
  subst z;rcases he with r|r
  · exact hx b n r
  · rw[n]at r;cases r
 have hm:∀ b u,H b=some u->¬Mut (some u)->b≠x:=fun b u q nm z=>by subst z;rw[q]at mu;exact nm mu
 refine⟨fun b u q n _ _=>k b u (hb b n) q,fun b u q n _ _=>⟨u.slots,k b u (hb b n) q⟩,fun b u q n _=>by rw[qaa (hx b n)];exact n,fun b u q _=>?_,
  fun b xs q=>by rw[qaa (hm b _ q fun z=>z)];exact q,fun b u xs q=>by rw[qaa (hm b _ q fun z=>z)];exact q,fun b ps q=>⟨#[],by rw[qaa (hm b _ q fun z=>z),q];simp⟩⟩
 by_cases hbe:b=e
 · subst hbe;exact heo
 · exact⟨u,k b u hbe q⟩
end
def trk(h:Heap)(H:Hp):List Addr:=(List.range h.objs.size).filter fun a=>(H a).isSome
def qj2(h:Heap)(H:Hp):Heap:=PySem.W.hideAll h (trk h H)
theorem qhk(h:Heap)(H:Hp):(qj2 h H).objs.size=h.objs.size:=PySem.W.hideAll_size _ _
theorem qf4{h:Heap}{H:Hp}{b:Addr}{o:Obj}(e:h.get? b=some o)(n:H b=none):(qj2 h H).get? b=some o:=
 PySem.W.hideAll_get _ e fun hm=>by
  have q:(H b).isSome=true:=(wbd.mp hm).2;rw[n]at q;simp at q
theorem qk7{h:Heap}{H:Hp}{b:Addr}{o:Obj}(e:(qj2 h H).get? b=some o):h.get? b=some o/\H b=none:=by
 have e':h.get? b=some o:=PySem.W.of_hideAll (trk h H) e;refine⟨e',?_⟩;cases q:H b with
 |none=>rfl
 |some x=>
  have hm:b∈trk h H:=wbd.mpr ⟨wa9.mpr (wai e'),by simp[q]⟩
  have z:(qj2 h H).get? b=none:=PySem.W.hideAll_none (trk h H) hm;rw[z]at e;cases e
def qgg(g h:Heap)(L:Addr):LAO:=(List.range h.objs.size).filterMap fun a=>if a=L∨(g.get? a).isSome=true then none else(h.get? a).map fun o=>(a,o)
theorem qid{g h:Heap}{L a:Addr}{o:Obj}(h1:a≠L)(h2:g.get? a=none)(h3:h.get? a=some o):(a,o)∈qgg g h L:=
 wbk.mpr ⟨a,wa9.mpr (wai h3),by simp[h1,h2,h3]⟩
theorem qe2{g h:Heap}{L:Addr}{p:Addr×Obj}(hp:p∈qgg g h L):p.1≠L/\g.get? p.1=none/\h.get? p.1=some p.2:=by
 obtain⟨b,_,e⟩:=wbk.mp hp;split at e
 · cases e
 · rename_i hn
   cases q:h.get? b with
   |none=>rw[q]at e;simp at e
   |some u=>
    rw[q]at e;simp only[Option.map_some,wbB]at e;subst e;refine⟨fun z=>hn (.inl z),?_,q⟩
    show g.get? b=none;cases r:g.get? b with
    |none=>rfl
    |some v=>exact(hn (.inr (by simp[r]))).elim
def rest(g h:Heap)(L d:Addr):LAO:=(qgg g h L).filter fun p=>decide (p.1≠d)
theorem qja{g h:Heap}{L d a:Addr}{o:Obj}(h1:a≠L)(h2:g.get? a=none)(h3:h.get? a=some o)(h4:a≠d):(a,o)∈rest g h L d:=
 wbd.mpr ⟨qid h1 h2 h3,wba h4⟩
theorem qnA{g h:Heap}{L:Addr}:News g L h (qgg g h L):=fun p hp=>let⟨a,b,c⟩:=qe2 hp;⟨c,a,b⟩
theorem qdu{g h h':Heap}{L d:Addr}{m:SOV}(k:∀ b o,g.get? b=some o->h.get? b=some o)(F:Fr g L h' m)(N:News g L h' (rest g h L d)):
 ∀ b o,b≠L->b≠d->h.get? b=some o->h'.get? b=some o:=fun b o h1 h2 e=>by
 cases q:g.get? b with
 |some u=>
  have:=k b u q;rw[e]at this;cases this;exact F.keep b _ q
 |none=>exact(N (b,o) (qja h1 q e h2)).1
structure Mod(K:Frg)(mg:SOV)(base:Heap):Prop where
 kin:K.In base
 glob:base.Ns mainGlobals mg
 blt:∃ mb,base.Ns builtinsNs mb/\∀ x:Str,x≠"__name__"->mb x=bootBuiltins x
 nolimit:base.NoLimit
structure Cx where
 prog:Program
 w:World
 K:Frg
 mg:SOV
 base:Heap
 A:Around
 N:LSt
 s₀:Shared
 H₀:Hp
 env:Env
 outer:List Env
 stack:List Env
 ex:List Addr
 fn:Str->Bool
 calm:Bool
 pn:LAO
 xe:VSP
def frs(l:List Env):List Addr:=l.filterMap (·.frame)
abbrev Cx.fs(X:Cx):List Addr:=frs X.outer
def Vis(sc:Scope)(x:Str):Prop:=sc.names.lookup x=some .local∨sc.names.lookup x=some .cell∨sc.names.lookup x=some .free
def Loc(sc:Scope)(x:Str):Prop:=sc.names.lookup x=some .local∨sc.names.lookup x=some .cell
def Look(env:Env)(h:Heap)(m:SOV)(x:Str)(u:Value):Prop:=
 (env.kindOf x=some .local/\m x=some u)∨((env.kindOf x=some .cell∨env.kindOf x=some .free)/\∃ c,env.cells.lookup x=some c/\h.IsCell c (some u))
structure Cx.Ok(X:Cx):Prop where
 mod:Mod X.K X.mg X.base
 kind:X.env.scope.kind= .function
 glob:X.env.globals=mainGlobals
 blt:X.env.builtins=builtinsNs
 above:X.s₀.heap.objs.size<=X.env.locals
 inj:∀ x y c,X.env.cells.lookup x=some c->X.env.cells.lookup y=some c->x=y
 has:∀ x,(X.env.kindOf x=some .cell∨X.env.kindOf x=some .free)->∃ c,X.env.cells.lookup x=some c
 cab:∀ x c,X.fn x=true->X.env.cells.lookup x=some c->X.s₀.heap.objs.size<=c
 hd:X.calm=true->X.A.handled=none
 frames:X.A.frames=some X.stack
 stk:X.stack=X.outer∨(X.stack=X.env::X.outer/\X.env.frame=some X.env.locals)
 exf:∀ b∈X.ex,b≠X.env.locals/\∀ x c,X.env.cells.lookup x=some c->c≠b
 bs:∀ b o,X.base.get? b=some o->X.s₀.heap.get? b=some o/\X.H₀ b=none
 bsz:X.base.objs.size<=X.s₀.heap.objs.size
 noex:∀ b o,X.base.get? b=some o->b∉X.ex
 exfs:∀ b∈X.ex,b∉X.fs
 funs:X.s₀.heap.FunFrames X.base X.outer
 frf:∀ b∈X.fs,X.H₀ b=none
structure Inv(X:Cx)(pins:LAO)(σ:List (Option V))(H:Hp)(s:Shared):Prop where
 ok:X.Ok
 os:s.os=X.s₀.os
 bare:AllBare s.gens
 base:Un X.fs X.ex X.H₀ H X.s₀.heap s.heap
 loc:∃ m,s.heap.Ns X.env.locals m/\∀ (i:Nat) (x:Str) (v:V),X.N[i]? =some x->σ[i]? =some (some v)->Vis X.env.scope x->∃ u,RelV v u/\Look X.env s.heap m x u
 cell:∀ x c,X.env.cells.lookup x=some c->∃ v,s.heap.IsCell c v
 free:H X.env.locals=none
 freeC:∀ x c,X.env.cells.lookup x=some c->H c=none
 pin:∀ p∈X.pn++pins,s.heap.get? p.1=some p.2/\H p.1=none/\p.1≠X.env.locals/\p.1∉X.fs/\∀ v,p.2.data≠.cell v
 hok:HOk X.prog X.w H s.heap
 len:σ.length=X.N.length
section
variable {X:Cx}{pins:LAO}{σ:List (Option V)}{H H':Hp}{s:Shared}{h':Heap}
theorem Cx.Ok.nofr(ok:X.Ok){b:Addr}{o:Obj}(e:X.base.get? b=some o):b∉X.fs:=fun hb=>by
 have:=(ok.funs.mem hb).1;rw[e]at this;cases this
theorem Inv.bs(I:Inv X pins σ H s):∀ b o,X.base.get? b=some o->s.heap.get? b=some o/\H b=none:=fun b o e=>
 ⟨I.base.keep b o (I.ok.bs b o e).1 (I.ok.bs b o e).2 (I.ok.nofr e) (I.ok.noex b o e),I.base.free b o (I.ok.bs b o e).1 (I.ok.bs b o e).2 (I.ok.noex b o e)⟩
theorem Inv.bk(I:Inv X pins σ H s):∀ b o,X.base.get? b=some o->s.heap.get? b=some o:=fun b o e=>(I.bs b o e).1
theorem Inv.mod(I:Inv X pins σ H s):Mod X.K X.mg X.base:=I.ok.mod
theorem Inv.kIn(I:Inv X pins σ H s):X.K.In s.heap:=I.ok.mod.kin.keeps I.bk
theorem Inv.fr(I:Inv X pins σ H s):∃ m,Fr X.base X.env.locals s.heap m:=
 let⟨m,hn,_⟩:=I.loc
 ⟨m,hn,I.bk,was I.ok.bsz I.ok.above⟩
theorem Inv.lt(I:Inv X pins σ H s):X.env.locals<s.heap.objs.size:=let⟨_,hn,_⟩:=I.loc;hn.lt
theorem Inv.sz(I:Inv X pins σ H s):X.s₀.heap.objs.size<=s.heap.objs.size:=was I.ok.above (wbm I.lt)
theorem Inv.nofs(I:Inv X pins σ H s){a:Addr}(h:s.heap.objs.size<=a):a∉X.fs:=fun hb=>by
 obtain⟨_,o,ho,_⟩:=I.ok.funs.mem hb;exact waI (wam (wai ho) (was I.sz h)) (wa6 _)
theorem Inv.cne(I:Inv X pins σ H s):∀ x c,X.env.cells.lookup x=some c->c≠X.env.locals:=fun x c e z=>by
 obtain⟨v,o,ho,hd⟩:=I.cell x c e;obtain⟨m,⟨o',es,ep,ho',hd',_⟩,_⟩:=I.loc;rw[z,ho']at ho;cases ho;rw[hd']at hd;cases hd
theorem Inv.funs(I:Inv X pins σ H s):s.heap.FunFrames X.base X.outer:=by
 have all:∀ (l:List Env),(∀ b∈frs l,b∈X.fs)->X.s₀.heap.FunFrames X.base l->s.heap.FunFrames X.base l:=by
  intro l
  induction l with
  |nil=>intro _ _;trivial
  |cons env r ih=>
   intro hs hl;obtain⟨hk,⟨L,o,hf,hn,ho,hd⟩,hr⟩:=hl;have hL:L∈X.fs:=hs L (by unfold frs;rw[List.filterMap_cons,hf];exact waz)
   obtain⟨sl,e⟩:=I.base.slot L o ho (I.ok.frf L hL) hL fun z=>I.ok.exfs L z hL
   exact⟨hk,⟨L,_,hf,hn,e,hd⟩,ih (fun b hb=>hs b (by unfold frs;rw[List.filterMap_cons,hf];exact wat _ hb)) hr⟩
 exact all X.outer (fun _ hb=>hb) I.ok.funs
theorem Inv.stack(I:Inv X pins σ H s):s.heap.FunFrames X.base X.stack:=by
 rcases I.ok.stk with e|⟨e,hf⟩
 · rw[e];exact I.funs
 · rw[e]
   obtain⟨m,hn,_⟩:=I.loc;refine .cons (by rw[I.ok.kind];decide) hf hn ?_ I.funs
   exact Heap.get?_none_of_le (was I.ok.bsz I.ok.above)
theorem Inv.stkSub(I:Inv X pins σ H s):∀ b∈frs X.stack,b∈X.env.locals::X.fs:=fun b hb=>by
 rcases I.ok.stk with e|⟨e,hf⟩
 · rw[e]at hb;exact wat _ hb
 · rw[e]at hb
   unfold frs at hb;rw[List.filterMap_cons,hf]at hb;exact hb
theorem Inv.stkFree(I:Inv X pins σ H s):∀ b∈frs X.stack,H b=none:=fun b hb=>by
 rcases waH.mp (I.stkSub b hb)with e|hb
 · rw[e];exact I.free
 · obtain⟨_,o,ho,_⟩:=I.ok.funs.mem hb
   exact I.base.free b o ho (I.ok.frf b hb) fun z=>I.ok.exfs b z hb
theorem Inv.step{g':Array GenState}{t':Nat}{d':Drawn}{ch:List Addr}(I:Inv X pins σ H s)
 (hch:∀ b∈ch,(b∈X.ex∨X.s₀.heap.objs.size<=b)/\b≠X.env.locals/\(∀ x c,X.env.cells.lookup x=some c->c≠b)/\∀ p∈X.pn++pins,p.1≠b)
 (keep:∀ b o,b≠X.env.locals->b∉X.fs->b∉ch->s.heap.get? b=some o->H b=none->h'.get? b=some o)
 (slot:∀ b o,b≠X.env.locals->b∈X.fs->b∉ch->s.heap.get? b=some o->H b=none->∃ sl,h'.get? b=some { o with slots:=sl }) (free:∀ b o,b∉ch->s.heap.get? b=some o->H b=none->H' b=none)
 (there:∀ b o,b∉ch->s.heap.get? b=some o->∃ o',h'.get? b=some o')
 (tups:∀ b xs,H b=some (.tup xs)->H' b=some (.tup xs)) (frzs:∀ b o u,H b=some (.frz o u)->H' b=some (.frz o u)) (tbls:∀ b ps,H b=some (.tbl ps)->∃ more,H' b=some (.tbl (ps++more)))
 (ns:∀ m,s.heap.Ns X.env.locals m->h'.Ns X.env.locals m) (hok:HOk X.prog X.w H' h') (hg:AllBare g'):
 Inv X pins σ H' { s with heap:=h',gens:=g',drawn:=d',toks:=t' }:=by
 have neL:∀ b o,X.s₀.heap.get? b=some o->b≠X.env.locals:=fun b o e=>waq (wam (wai e) I.ok.above)
 have neC:∀ b o,X.s₀.heap.get? b=some o->b∉X.ex->b∉ch:=fun b o e hx hb=>by
  rcases(hch b hb).1 with z|z
  · exact hx z
  · exact waI (wam (wai e) z) (wa6 _)
 have cellK:∀ x c,X.env.cells.lookup x=some c->∀ v,s.heap.IsCell c v->h'.IsCell c v:=fun x c e v ⟨o,ho,hd⟩=>by
  have nch:c∉ch:=fun z=>(hch c z).2.2.1 x c e rfl
  by_cases hc:c∈X.fs
  · obtain⟨sl,q⟩:=slot c o (I.cne x c e) hc nch ho (I.freeC x c e)
    exact⟨_,q,hd⟩
  · exact⟨o,keep c o (I.cne x c e) hc nch ho (I.freeC x c e),hd⟩
 refine⟨I.ok,I.os,hg,⟨fun b o e n hb hx=>?_,fun b o e n hb hx=>?_,fun b o e n hx=>?_,fun b o e hx=>?_,fun b xs e=>tups b xs (I.base.tups b xs e),fun b o xs e=>frzs b o xs (I.base.frzs b o xs e),fun b ps e=>?_⟩,?_,fun x c e=>?_,?_,fun x c e=>?_,fun p hp=>?_,hok,I.len⟩
 · exact keep b o (neL b o e) hb (neC b o e hx) (I.base.keep b o e n hb hx) (I.base.free b o e n hx)
 · obtain⟨sl,e1⟩:=I.base.slot b o e n hb hx
   obtain⟨sl',e2⟩:=slot b _ (neL b o e) hb (neC b o e hx) e1 (I.base.free b o e n hx);exact⟨sl',e2⟩
 · obtain⟨o',e1⟩:=I.base.there b o e hx
   exact free b o' (neC b o e hx) e1 (I.base.free b o e n hx)
 · obtain⟨o',e1⟩:=I.base.there b o e hx
   exact there b o' (neC b o e hx) e1
 · obtain⟨m1,e1⟩:=I.base.tbls b ps e
   obtain⟨m2,e2⟩:=tbls b _ e1;exact⟨m1++m2,by rw[e2,Array.append_assoc]⟩
 · obtain⟨m,hn,hl⟩:=I.loc
   refine⟨m,ns m hn,fun i x v e1 e2 e3=>?_⟩
   obtain⟨u,r,l⟩:=hl i x v e1 e2 e3;refine⟨u,r,?_⟩;rcases l with l|⟨k,c,e,z⟩
   · exact .inl l
   · exact .inr ⟨k,c,e,cellK x c e _ z⟩
 · obtain⟨v,z⟩:=I.cell x c e
   exact⟨v,cellK x c e v z⟩
 · obtain⟨m,⟨o,_,_,ho,_⟩,_⟩:=I.loc
   exact free _ o (fun z=>(hch _ z).2.1 rfl) ho I.free
 · obtain⟨v,o,ho,hd⟩:=I.cell x c e
   exact free c o (fun z=>(hch c z).2.2.1 x c e rfl) ho (I.freeC x c e)
 · obtain⟨e,n,ne,nf,d⟩:=I.pin p hp
   have nch:p.1∉ch:=fun z=>(hch p.1 z).2.2.2 p hp rfl
   exact⟨keep p.1 p.2 ne nf nch e n,free p.1 p.2 nch e n,ne,nf,d⟩
theorem Inv.un{t':Nat}(I:Inv X pins σ H s)(u:Un X.fs [] H H' s.heap h')(hok:HOk X.prog X.w H' h'):Inv X pins σ H' { s with heap:=h',toks:=t' }:=by
 obtain⟨m,⟨o,es,ep,ho,r⟩,_⟩:=id I.loc;obtain⟨sl,hL⟩:=u.any ho I.free (by simp)
 exact I.step (g':=s.gens) (d':=s.drawn) (ch:=[]) (fun _ z=>nomatch z) (fun b o _ hb _ e n=>u.keep b o e n hb (by simp)) (fun b o _ hb _ e n=>u.slot b o e n hb (by simp)) (fun b o _ e n=>u.free b o e n (by simp)) (fun b o _ e=>u.there b o e (by simp)) u.tups u.frzs u.tbls (fun m' hm=>by
  obtain⟨o',es',ep',ho',r'⟩:=hm;rw[ho]at ho';cases ho';exact⟨_,es',ep',hL,r'⟩) hok I.bare
theorem Inv.call{g':Array GenState}{t':Nat}{d':Drawn}{ch:List Addr}(I:Inv X pins σ H s)(u:Un (frs X.stack) ch H H' s.heap h')(hok:HOk X.prog X.w H' h')(hg:AllBare g')
 (hch:∀ b∈ch,(b∈X.ex∨X.s₀.heap.objs.size<=b)/\b≠X.env.locals/\(∀ x c,X.env.cells.lookup x=some c->c≠b)/\∀ p∈X.pn++pins,p.1≠b):
 Inv X pins σ H' { s with heap:=h',gens:=g',drawn:=d',toks:=t' }:=by
 obtain⟨m,⟨o,es,ep,ho,r⟩,_⟩:=id I.loc;obtain⟨sl,hL⟩:=u.any ho I.free fun z=>(hch _ z).2.1 rfl
 exact I.step (ch:=ch) hch (fun b o hL hb hc e n=>u.keep b o e n (fun z=>(waH.mp (I.stkSub b z)).elim hL hb) hc) (fun b o _ _ hc e n=>u.any e n hc) (fun b o hc e n=>u.free b o e n hc) (fun b o hc e=>u.there b o e hc) u.tups u.frzs u.tbls (fun m' hm=>by
  obtain⟨o',es',ep',ho',r'⟩:=hm;rw[ho]at ho';cases ho';exact⟨_,es',ep',hL,r'⟩) hok hg
theorem Inv.turned{t':Nat}{it:Addr}(I:Inv X pins σ H s)(k:∀ b o,b≠it->s.heap.get? b=some o->h'.get? b=some o)(hn:H it=none)(hL:it≠X.env.locals)
 (h1:it∈X.ex∨X.s₀.heap.objs.size<=it) (h2:∀ x c,X.env.cells.lookup x=some c->c≠it) (h3:∀ p∈X.pn++pins,p.1≠it):Inv X pins σ H { s with heap:=h',toks:=t' }:=by
 have nit:∀ b u,H b=some u->b≠it:=fun b u e z=>by rw[z,hn]at e;cases e
 refine I.step (g':=s.gens) (d':=s.drawn) (ch:=[it]) (fun b hb=>?_) (fun b o _ _ hc e _=>k b o (fun z=>hc (by simp[z])) e) (fun b o _ _ hc e _=>⟨o.slots,k b o (fun z=>hc (by simp[z])) e⟩) (fun _ _ _ _ n=>n)
  (fun b o hc e=>⟨o,k b o (fun z=>hc (by simp[z])) e⟩) (fun _ _ e=>e) (fun _ _ _ e=>e) (fun b ps e=>⟨#[],by rw[e];simp⟩) (fun m hm=>?_) (fun b u e=>?_) I.bare
 · have e:b=it:=by simpa using hb
   subst e;exact⟨h1,hL,h2,h3⟩
 · obtain⟨o,es,ep,ho,r⟩:=hm
   exact⟨o,es,ep,k _ o (wa4 hL) ho,r⟩
 · refine(I.hok b u e).stay (fun c v hc q=>k c v ?_ q) (fun _ q=>q) fun _ _ q=>q
   rcases hc with z|z
   · rw[z];exact nit b u e
   · exact nit c _ z
theorem Inv.tok(I:Inv X pins σ H s)(t:Nat):Inv X pins σ H { s with toks:=t }:=I.un (h':=s.heap) (t':=t) Un.refl I.hok
theorem Inv.kept{t':Nat}(I:Inv X pins σ H s)(k:∀ b u,s.heap.get? b=some u->h'.get? b=some u):Inv X pins σ H { s with heap:=h',toks:=t' }:=I.un (Un.kept k) (I.hok.kept k)
theorem Inv.laid{a:Addr}{o:HO}{t':Nat}(I:Inv X pins σ H s)(k:∀ b u,s.heap.get? b=some u->h'.get? b=some u)(hp:s.heap.objs.size<=a)(new:ObjOk X.prog X.w (upd H a o) h' a o):
 Inv X pins σ (upd H a o) { s with heap:=h',toks:=t' }:=I.un (Un.laid k hp (I.hok.fresh hp)) (I.hok.laid k hp new)
theorem Inv.write{x e:Addr}{o:HO}{t':Nat}(I:Inv X pins σ H s)(mu:Mut (H x))(he:e=x∨H e=some (.own x))(k:∀ b u,b≠e->s.heap.get? b=some u->h'.get? b=some u)(heo:∃ u,h'.get? e=some u)
 (new:ObjOk X.prog X.w (upd H x o) h' x o):Inv X pins σ (upd H x o) { s with heap:=h',toks:=t' }:=I.un (Un.write mu he k heo) (I.hok.write mu he k heo new)
theorem Inv.pins_of{pins':LAO}(I:Inv X pins σ H s)(h:∀ p∈pins',s.heap.get? p.1=some p.2/\H p.1=none/\p.1≠X.env.locals/\p.1∉X.fs/\∀ v,p.2.data≠.cell v):Inv X pins' σ H s:=
 ⟨I.ok,I.os,I.bare,I.base,I.loc,I.cell,I.free,I.freeC,fun p hp=>(wa1.mp hp).elim (fun z=>I.pin p (wbs _ z)) (h p),I.hok,I.len⟩
theorem qi6{N:LSt}(hN:N.Nodup){i j:Nat}{x:Str}(a:N[i]? =some x)(b:N[j]? =some x):i=j:=by
 obtain⟨h1,e1⟩:=wax.mp a;obtain⟨h2,e2⟩:=wax.mp b;exact(List.getElem_inj hN).mp (e1.trans e2.symm)
theorem qgE{M:Model}{A:Around}{E:VSP}{i:Nat}{x:Str}{v:V}{u:Value}{Q:Unit->Shared->Prop}(I:Inv X pins σ H s)(hN:X.N.Nodup)(hi:X.N[i]? =some x)(hx:Loc X.env.scope x)(r:RelV v u)
 (h:∀ s',Inv X pins (σ.set i (some v)) H s'->(∃ a,Heap.SameBut a s.heap s'.heap/\(a=X.env.locals∨X.env.cells.lookup x=some a))->Q () s') (hf:X.fn x=true∨X.env.scope.names.lookup x=some .local):wpAny M A (storeName X.env x u) Q E s:=by
 obtain⟨m,hn,hl⟩:=id I.loc;have hcls:(X.env.scope.kind== .class||(X.env.scope.kind== .module&&X.env.locals != X.env.globals))=false:=by rw[I.ok.kind];rfl
 have hiσ:i<σ.length:=by rw[I.len];exact(wax.mp hi).1
 have cne:=I.cne;have tracked:∀ {a:Addr} {h':Heap},(∃ o,s.heap.get? a=some o/\H a=none)->Heap.SameBut a s.heap h'->HOk X.prog X.w H h':=fun {a h'} ha hs b ob e=>by
  obtain⟨_,_,hfree⟩:=ha;refine(I.hok b ob e).stay (fun c w' hc q=>(hs.2 c ?_).trans q) (fun _ q=>q) fun _ _ q=>q
  rintro rfl;rcases hc with rfl|hc
  · rw[hfree]at e;cases e
  · rw[hfree]at hc;cases hc
 rcases hx with hk|hk
 · refine wpAny_storeName_local hk hn (fun h' hn' hs=>?_) hcls
   obtain⟨oL,_,_,hoL,_⟩:=id hn;refine h _ ⟨I.ok,I.os,I.bare,⟨fun b o e n hb hx=>?_,fun b o e n hb hx=>?_,I.base.free,fun b o e hx=>?_,I.base.tups,I.base.frzs,I.base.tbls⟩,⟨_,hn',fun j y v' e1 e2 e3=>?_⟩,fun y c e=>?_,I.free,I.freeC,fun p hp=>?_,tracked ⟨oL,hoL,I.free⟩ hs,by simpa using I.len⟩ ⟨_,hs,.inl rfl⟩
   · exact(hs.2 b (waq (wam (wai e) I.ok.above))).trans (I.base.keep b o e n hb hx)
   · obtain⟨sl,e1⟩:=I.base.slot b o e n hb hx
     exact⟨sl,(hs.2 b (waq (wam (wai e) I.ok.above))).trans e1⟩
   · obtain⟨o',e1⟩:=I.base.there b o e hx
     exact⟨o',(hs.2 b (waq (wam (wai e) I.ok.above))).trans e1⟩
   · by_cases hj:j=i
     · subst hj
       rw[hi]at e1;cases e1;rw[List.getElem?_set_self hiσ]at e2;cases e2;exact⟨u,r,.inl ⟨hk,by simp⟩⟩
     · rw[List.getElem?_set_ne (wa4 hj)]at e2
       obtain⟨u',r',q⟩:=hl j y v' e1 e2 e3;refine⟨u',r',?_⟩;rcases q with⟨k,e⟩|⟨k,c,e,z⟩
       · refine .inl ⟨k,?_⟩
         have:y≠x:=fun e=>hj (qi6 hN e1 (e ▸ hi))
         simp[this,e]
       · exact .inr ⟨k,c,e,z.sameBut hs (cne y c e)⟩
   · obtain⟨w',z⟩:=I.cell y c e
     exact⟨w',z.sameBut hs (cne y c e)⟩
   · obtain⟨e,n,ne,nf,d⟩:=I.pin p hp
     exact⟨(hs.2 p.1 ne).trans e,n,ne,nf,d⟩
 · have hfn:X.fn x=true:=by
    rcases hf with z|z
    · exact z
    · rw[z]at hk;cases hk
   obtain⟨c,hc⟩:=I.ok.has x (.inl hk);obtain⟨w',z⟩:=I.cell x c hc;refine wpAny_storeName_cell I.ok.kind hk hc z (fun h' hc' hs=>?_)
   obtain⟨oc,hoc,hocd⟩:=id z;refine h { s with heap:=h' } ⟨I.ok,I.os,I.bare,⟨fun b o e n hb hx=>?_,fun b o e n hb hx=>?_,I.base.free,fun b o e hx=>?_,I.base.tups,I.base.frzs,I.base.tbls⟩,⟨m,hn.sameBut hs (wa4 (cne x c hc)),fun j y v' e1 e2 e3=>?_⟩,fun y c' e=>?_,I.free,I.freeC,fun p hp=>?_,tracked ⟨oc,hoc,I.freeC x c hc⟩ hs,by simpa using I.len⟩ ⟨c,hs,.inr hc⟩
   · exact(hs.2 b (waq (wam (wai e) (I.ok.cab x c hfn hc)))).trans (I.base.keep b o e n hb hx)
   · obtain⟨sl,e1⟩:=I.base.slot b o e n hb hx
     exact⟨sl,(hs.2 b (waq (wam (wai e) (I.ok.cab x c hfn hc)))).trans e1⟩
   · obtain⟨o',e1⟩:=I.base.there b o e hx
     exact⟨o',(hs.2 b (waq (wam (wai e) (I.ok.cab x c hfn hc)))).trans e1⟩
   · by_cases hj:j=i
     · subst hj
       rw[hi]at e1;cases e1;rw[List.getElem?_set_self hiσ]at e2;cases e2;exact⟨u,r,.inr ⟨.inl hk,c,hc,hc'⟩⟩
     · rw[List.getElem?_set_ne (wa4 hj)]at e2
       obtain⟨u',r',q⟩:=hl j y v' e1 e2 e3;refine⟨u',r',?_⟩;rcases q with q|⟨k,c',e,z'⟩
       · exact .inl q
       · refine .inr ⟨k,c',e,z'.sameBut hs ?_⟩
         rintro rfl;exact hj (qi6 hN e1 (I.ok.inj _ _ _ e hc ▸ hi))
   · by_cases hcc:c'=c
     · subst hcc;exact⟨_,hc'⟩
     · obtain⟨w2,z2⟩:=I.cell y c' e
       exact⟨w2,z2.sameBut hs hcc⟩
   · obtain⟨e,n,ne,nf,d⟩:=I.pin p hp
     refine⟨(hs.2 p.1 ?_).trans e,n,ne,nf,d⟩;intro q;rw[q,hoc]at e;have q':oc=p.2:=wao e;exact d w' (by rw[<-q'];exact hocd)
theorem qdV{M:Model}{A:Around}{E:VSP}{i:Nat}{x:Str}{v:V}{u:Value}{Q:Unit->Shared->Prop}(I:Inv X pins σ H s)(hN:X.N.Nodup)(hi:X.N[i]? =some x)(hx:Loc X.env.scope x)(r:RelV v u)
 (h:∀ s',Inv X pins (σ.set i (some v)) H s'->Q () s') (hf:X.fn x=true∨X.env.scope.names.lookup x=some .local):wpAny M A (storeName X.env x u) Q E s:=
 qgE I hN hi hx r (fun s' I' _=>h s' I') hf
theorem Inv.call'{s':Shared}{ch:List Addr}(I:Inv X pins σ H s)(ho:s'.os=s.os)(u:Un (frs X.stack) ch H H' s.heap s'.heap)(hok:HOk X.prog X.w H' s'.heap)(hg:AllBare s'.gens)
 (hch:∀ b∈ch,(b∈X.ex∨X.s₀.heap.objs.size<=b)/\b≠X.env.locals/\(∀ x c,X.env.cells.lookup x=some c->c≠b)/\∀ p∈X.pn++pins,p.1≠b):Inv X pins σ H' s':=by
 obtain⟨h',g',d',t',o'⟩:=s';have e:o'=s.os:=ho;subst e;exact I.call (g':=g') (t':=t') (d':=d') u hok hg hch
end
abbrev XK:=Value->Option Addr->Hp->Prop
abbrev St:=List (Option V)
abbrev VK:=V->Hp->Prop
abbrev TE:=St->Hp->VK->Prop
abbrev TT:=St->Hp->(Bool->Hp->Prop)->Prop
abbrev TA:=St->Hp->(LV->Hp->Prop)->Prop
structure Ends where
 nx:St->Hp->Prop
 rt:VK
 bk:St->Hp->Prop:=fun _ _=>False
 ct:St->Hp->Prop:=fun _ _=>False
abbrev TS:=Ends->St->Hp->Prop
def EP(X:Cx)(pins:LAO)(σ:St)(Q:VK)(u:Value)(s':Shared):Prop:=∃ v H',Inv X pins σ H' s'/\RelV v u/\Q v H'
def TP(X:Cx)(pins:LAO)(σ:St)(Q:Bool->Hp->Prop)(b:Bool)(s':Shared):Prop:=∃ H',Inv X pins σ H' s'/\Q b H'
def AP(X:Cx)(pins:LAO)(σ:St)(Q:LV->Hp->Prop)(us:LVl)(s':Shared):Prop:=∃ vs H',Inv X pins σ H' s'/\Vals vs us/\Q vs H'
def SP(X:Cx)(pins:LAO)(D:Ends)(f:Flow)(s':Shared):Prop:=
 match f with
 | .next=>∃ σ' H',Inv X pins σ' H' s'/\D.nx σ' H'
 | .brk=>∃ σ' H',Inv X pins σ' H' s'/\D.bk σ' H'
 | .cont=>∃ σ' H',Inv X pins σ' H' s'/\D.ct σ' H'
 | .ret u=>∃ v σ' H',Inv X pins σ' H' s'/\RelV v u/\D.rt v H'
def PE(X:Cx)(e:Expr)(t:TE):Prop:=
 ∀ (pins:LAO) (s:Shared) (σ:St) (H:Hp) (Q:VK),Inv X pins σ H s->t σ H Q->wpAny (model X.prog X.w) X.A (eval e X.env) (EP X pins σ Q) X.xe s
def PT(X:Cx)(e:Expr)(t:TT):Prop:=
 ∀ (pins:LAO) (s:Shared) (σ:St) (H:Hp) (Q:Bool->Hp->Prop),Inv X pins σ H s->t σ H Q->wpAny (model X.prog X.w) X.A (isTrue e X.env (eval e X.env)) (TP X pins σ Q) X.xe s
def PW(X:Cx)(e:Expr)(t:TT):Prop:=
 ∀ (whole:Sem Value) (pins:LAO) (s:Shared) (σ:St) (H:Hp) (Q:Bool->Hp->Prop),Inv X pins σ H s->t σ H Q->wpAny (model X.prog X.w) X.A (isTrue e X.env whole) (TP X pins σ Q) X.xe s
theorem PW.pt{X:Cx}{e:Expr}{t:TT}(h:PW X e t):PT X e t:=h _
def PA(X:Cx)(es:LEx)(t:TA):Prop:=
 ∀ (pos:Pos) (pins:LAO) (s:Shared) (σ:St) (H:Hp) (Q:LV->Hp->Prop),Inv X pins σ H s->t σ H Q->wpAny (model X.prog X.w) X.A (spliced (backTo pos (starEach es X.env))) (AP X pins σ Q) X.xe s
def PS(X:Cx)(st:Stmt)(t:TS):Prop:=
 ∀ (pins:LAO) (s:Shared) (σ:St) (H:Hp) (D:Ends),Inv X pins σ H s->t D σ H->wpAny (model X.prog X.w) X.A (exec st X.env) (SP X pins D) X.xe s
def PSs(X:Cx)(st:List Stmt)(t:TS):Prop:=
 ∀ (pins:LAO) (s:Shared) (σ:St) (H:Hp) (D:Ends),Inv X pins σ H s->t D σ H->wpAny (model X.prog X.w) X.A (execs st X.env) (SP X pins D) X.xe s
theorem thn{α:Type}{t:Sem α}{Q Q':α->Shared->Prop}{M:Model}{A:Around}{E:VSP}{s:Shared}(h:wpAny M A t Q E s)(hQ:∀ a s,Q a s->Q' a s):wpAny M A t Q' E s:=wa3 h hQ fun _ _ x=>x
section
variable {X:Cx}
def qCI(i:Nat):TE:=fun σ H Q=>∃ v,σ[i]? =some (some v)/\Q v H
def tC(v:V):TE:=fun _ H Q=>Q v H
theorem qsO{i:Nat}{x:Str}{pos:Pos}(hN:X.N[i]? =some x)(hv:Vis X.env.scope x)(hd:(x==("__debug__":Str))=false:=by decide)(hcd:(x==("__classdict__":Str))=false:=by decide):PE X (.Name x pos) (qCI i):=by
 intro pins s σ H Q I h;obtain⟨v,e,h⟩:=h;obtain⟨m,hn,hl⟩:=I.loc;obtain⟨u,r,l⟩:=hl i x v hN e hv;have fin:EP X pins σ Q u s:=⟨v,H,I,r,h⟩;rcases l with⟨hk,hm⟩|⟨hk,c,hc,hcell⟩
 · exact wpAny_Name (wpAny_loadName_local I.ok.kind hk hn hm fin) hd
 · rcases hk with hk|hk
   · exact wpAny_Name (wpAny_loadName_cell I.ok.kind hk hc hcell fin) hd
   · exact wpAny_Name (wpAny_loadName_free I.ok.kind hk hc hcell fin hcd) hd
theorem qsT{i j pos}:PE X (.Constant (.int i) j pos) (tC (.int i)):=fun _ _ _ H _ I h=>wpAny_Constant_int ⟨.int i,H,I.tok _,⟨_,rfl⟩,h⟩
theorem qwJ{b j pos}:PE X (.Constant (.bool b) j pos) (tC (.bl b)):=fun _ _ _ H _ I h=>Constant_bool ⟨.bl b,H,I,rfl,h⟩
theorem qsS{j pos}:PE X (.Constant .none j pos) (tC .non):=fun _ _ _ H _ I h=>Constant_none ⟨.non,H,I,rfl,h⟩
theorem qoD{x j pos}:PE X (.Constant (.str x) j pos) (tC (.str x)):=fun _ _ _ H _ I h=>Calls.Constant_str ⟨.str x,H,I.tok _,⟨_,rfl⟩,h⟩
def Gl(X:Cx)(x:Str):Prop:=X.env.kindOf x=some .globalImplicit
theorem qb8{E:VSP}{pins:LAO}{s:Shared}{σ:St}{H:Hp}{x:Str}{u:Value}{pos:Pos}{Q:VSP}(I:Inv X pins σ H s)(hg:Gl X x)(hm:X.mg x=some u)(h:Q u s)
 (hd:(x==("__debug__":Str))=false:=by decide):wpAny (model X.prog X.w) X.A (eval (.Name x pos) X.env) Q E s:=
 Calls.Name_function_global I.ok.kind hg (Calls.loadGlobal_global (by rw[I.ok.glob];exact I.mod.glob.keeps I.bk) hm h) hd
theorem qds{E:VSP}{pins:LAO}{s:Shared}{σ:St}{H:Hp}{x:Str}{u:Value}{pos:Pos}{Q:VSP}(I:Inv X pins σ H s)(hg:Gl X x)(hm:X.mg x=none)(hv:bootBuiltins x=some u)(h:Q u s)
 (hn:x≠"__name__":=by decide) (hd:(x==("__debug__":Str))=false:=by decide):wpAny (model X.prog X.w) X.A (eval (.Name x pos) X.env) Q E s:=by
 obtain⟨mb,h1,h2⟩:=I.mod.blt;exact Calls.Name_function_global I.ok.kind hg (Calls.loadGlobal_builtin (by rw[I.ok.glob];exact I.mod.glob.keeps I.bk) hm (by rw[I.ok.blt];exact h1.keeps I.bk) ((h2 x hn).trans hv) h) hd
theorem qp8{x:Str}{v:V}{u:Value}{pos:Pos}(hg:Gl X x)(hm:X.mg x=some u)(r:RelV v u)(hd:(x==("__debug__":Str))=false:=by decide):PE X (.Name x pos) (tC v):=
 fun _ _ _ H _ I h=>qb8 I hg hm ⟨v,H,I,r,h⟩ hd
theorem qqc{x:Str}{v:V}{u:Value}{pos:Pos}(hg:Gl X x)(hm:X.mg x=none)(hv:bootBuiltins x=some u)(r:RelV v u)(hn:x≠"__name__":=by decide)(hd:(x==("__debug__":Str))=false:=by decide):PE X (.Name x pos) (tC v):=
 fun _ _ _ H _ I h=>qds I hg hm hv ⟨v,H,I,r,h⟩ hn hd
variable {a b:Expr}{ta tb:TE}{pos:Pos}
def PC(X:Cx)(op:CmpOp)(a b:Expr)(t:TE):Prop:=
 ∀ (pins:LAO) (s:Shared) (σ:St) (H:Hp) (Q:VK),Inv X pins σ H s->t σ H Q->
  wpAny (model X.prog X.w) X.A (eval a X.env) (fun v s₁=>wpAny (model X.prog X.w) X.A (eval b X.env) (fun u s₂=>wpAny (model X.prog X.w) X.A (compareOp op v u) (EP X pins σ Q) X.xe s₂) X.xe s₁) X.xe s
theorem qi7(b:Expr){op:CmpOp}(h:op≠.In)(h2:op≠.NotIn):behindInMarks op b=false:=by
 have e1:(op==CmpOp.In)=false:=by cases op<;>first|rfl|exact waI rfl h
 have e2:(op==CmpOp.NotIn)=false:=by cases op<;>first|rfl|exact waI rfl h2
 cases b<;>simp[behindInMarks,e1,e2]
def tB(t:TE):TT:=fun σ H Q=>t σ H fun x H1=>∃ c,x= .bl c/\Q c H1
theorem qoF{op:CmpOp}{t:TE}(h:PC X op a b t)(h1:behindInMarks op b=false):PE X (.Compare a [op] [b] pos) t:=fun pins s σ H Q I hw=>wpAny_Compare1 (h pins s σ H Q I hw) h1
theorem qkW{op:CmpOp}{t:TE}(h:PC X op a b t)(h1:behindInMarks op b=false):PT X (.Compare a [op] [b] pos) (tB t):=by
 intro pins s σ H Q I hw;refine wpAny_isTrue_Compare1 (thn (h pins s σ H _ I hw) fun v s1 h1=>thn h1 fun u s2 h2=>thn h2 fun c s3 zz=>?_) h1;obtain⟨x,H1,I1,r1,q1⟩:=zz
 obtain⟨d,rfl,q⟩:=q1;cases r1;exact waJ ⟨H1,I1,q⟩
theorem qsE{e:Expr}{t:TE}(h:PE X e t)(he:∀ whole,isTrue e X.env whole=(do let v<-whole;standAt e.pos;holding [v] (truthy v)):=by intro _;rfl):PT X e (tB t):=by
 intro pins s σ H Q I hw;refine isTrue_plain (thn (h pins s σ H _ I hw) fun v s1 zz=>?_) (he _);obtain⟨x,H1,I1,r1,q1⟩:=zz
 obtain⟨d,rfl,q⟩:=q1;cases r1;exact waJ ⟨H1,I1,q⟩
variable {tA tB':TT}{rest:LEx}
def qCU(t u:TT):TT:=fun σ H Q=>t σ H fun c H1=>if c=true then u σ H1 Q else Q false H1
def tOr(t u:TT):TT:=fun σ H Q=>t σ H fun c H1=>if c=true then Q true H1 else u σ H1 Q
def qCO(t:TT):TT:=fun σ H Q=>t σ H fun c H1=>Q (!c) H1
theorem qpV(ha:PT X a tA):PW X (.BoolOp .And [a] pos) tA:=by
 intro wh pins s σ H Q I h;refine isTrue_and (thn (ha pins s σ H Q I h) fun c s1 e=>?_)
 cases c with
 |true=>exact isTrue_and_nil e
 |false=>exact e
theorem qsB(ha:PT X a tA):PW X (.BoolOp .Or [a] pos) tA:=by
 intro wh pins s σ H Q I h;refine isTrue_or (thn (ha pins s σ H Q I h) fun c s1 e=>?_)
 cases c with
 |false=>exact isTrue_or_nil e
 |true=>exact e
theorem qsD(ha:PT X a tA)(hb:PW X (.BoolOp .And (b::rest) pos) tB'):PW X (.BoolOp .And (a::b::rest) pos) (qCU tA tB'):=by
 intro wh pins s σ H Q I h;refine isTrue_and (thn (ha pins s σ H _ I h) fun c s1 zz=>?_);obtain⟨H1,I1,q1⟩:=zz
 cases c with
 |true=>exact hb wh pins s1 σ H1 Q I1 q1
 |false=>exact⟨H1,I1,q1⟩
theorem qwz(ha:PT X a tA)(hb:PW X (.BoolOp .Or (b::rest) pos) tB'):PW X (.BoolOp .Or (a::b::rest) pos) (tOr tA tB'):=by
 intro wh pins s σ H Q I h;refine isTrue_or (thn (ha pins s σ H _ I h) fun c s1 zz=>?_);obtain⟨H1,I1,q1⟩:=zz
 cases c with
 |true=>exact⟨H1,I1,q1⟩
 |false=>exact hb wh pins s1 σ H1 Q I1 q1
theorem qsF(ha:PT X a tA):PT X (.UnaryOp .Not a pos) (qCO tA):=by
 intro pins s σ H Q I h;exact isTrue_not (ha pins s σ H (fun c H1=>Q (!c) H1) I h)
def qvH(ta tb:TE):TE:=fun σ H Q=>ta σ H fun x H1=>∃ c,x= .bl c/\if c=true then tb σ H1 Q else Q (.bl false) H1
def qCN(ta tb:TE):TE:=fun σ H Q=>ta σ H fun x H1=>∃ c,x= .bl c/\if c=true then Q (.bl true) H1 else tb σ H1 Q
def qvx(ta:TE):TE:=fun σ H Q=>ta σ H fun x H1=>∃ c,x= .bl c/\Q (.bl (!c)) H1
theorem qsQ{op}{t:TE}(h:PE X a t):PE X (.BoolOp op [a] pos) t:=fun pins s σ H Q I hw=>BoolOp_one (h pins s σ H Q I hw)
theorem qsW(ha:PE X a ta)(hb:PE X (.BoolOp .And (b::rest) pos) tb):PE X (.BoolOp .And (a::b::rest) pos) (qvH ta tb):=by
 intro pins s σ H Q I h;refine BoolOp_and (thn (ha pins s σ H _ I h) fun v s1 zz=>?_);obtain⟨x,H1,I1,r1,q1⟩:=zz
 obtain⟨c,rfl,q1⟩:=q1;cases r1;refine waJ ?_;cases c with
 |true=>exact hb pins s1 σ H1 Q I1 q1
 |false=>exact⟨.bl false,H1,I1,rfl,q1⟩
theorem qwG(ha:PE X a ta)(hb:PE X (.BoolOp .Or (b::rest) pos) tb):PE X (.BoolOp .Or (a::b::rest) pos) (qCN ta tb):=by
 intro pins s σ H Q I h;refine BoolOp_or (thn (ha pins s σ H _ I h) fun v s1 zz=>?_);obtain⟨x,H1,I1,r1,q1⟩:=zz
 obtain⟨c,rfl,q1⟩:=q1;cases r1;refine waJ ?_;cases c with
 |false=>exact hb pins s1 σ H1 Q I1 q1
 |true=>exact⟨.bl true,H1,I1,rfl,q1⟩
theorem qsR(ha:PE X a ta):PE X (.UnaryOp .Not a pos) (qvx ta):=by
 intro pins s σ H Q I h;refine UnaryOp_ (thn (ha pins s σ H _ I h) fun v s1 zz=>?_);obtain⟨x,H1,I1,r1,q1⟩:=zz
 obtain⟨c,rfl,q1⟩:=q1;cases r1;exact not_of (waJ ⟨.bl (!c),H1,I1,rfl,q1⟩)
def tIf(t:TT)(ta tb:TE):TE:=fun σ H Q=>t σ H fun c H1=>if c=true then ta σ H1 Q else tb σ H1 Q
theorem qnl{c:Expr}(hc:PT X c tA)(ha:PE X a ta)(hb:PE X b tb):PE X (.IfExp c a b pos) (tIf tA ta tb):=by
 intro pins s σ H Q I h;refine wpAny_IfExp (thn (hc pins s σ H _ I h) fun d s1 zz=>?_);obtain⟨H1,I1,q1⟩:=zz
 cases d with
 |true=>exact ha pins s1 σ H1 Q I1 q1
 |false=>exact hb pins s1 σ H1 Q I1 q1
end
def SqL(K:Frg)(H:Hp)(a:Addr)(xs:LV):Prop:=
 Rd H a (.lst xs)∨
  ∃ (o:Obj) (its:Array Value) (n:Nat),K.lookup a=some o/\o.cls= .type "list"/\o.dict=none/\o.data= .seq its n/\its.size<=sizeLine/\Vals xs its.toList
def SqT(K:Frg)(H:Hp)(a:Addr)(xs:LV):Prop:=
 Rd H a (.tup xs)∨
  ∃ (o:Obj) (its:Array Value) (n:Nat),K.lookup a=some o/\o.cls= .type "tuple"/\o.data= .seq its n/\its.size<=sizeLine/\Vals xs its.toList
noncomputable def qEs:Value->Option V
 | .none=>some .non
 | .bool b=>some (.bl b)
 | .int i _=>some (.int i)
 | .str x _=>some (.str x)
 | .bytes b _=>some (.byt b)
 | .float b _=>some (.flt b)
 | .ref a=>some (.ref a)
 | .type n=>some (.ty n)
 |_=>none
theorem RelV.abs{x:V}{u:Value}(r:RelV x u):qEs u=some x:=by
 cases x with
 |non=>cases r;rfl
 |bl _=>cases r;rfl
 |int _=>obtain⟨t,rfl⟩:=r;rfl
 |str _=>obtain⟨t,rfl⟩:=r;rfl
 |byt _=>obtain⟨t,rfl⟩:=r;rfl
 |flt _=>obtain⟨t,rfl⟩:=r;rfl
 |ref _=>cases r;rfl
 |ty _=>cases r;rfl
theorem RelV.inj{x y:V}{u:Value}(r:RelV x u)(q:RelV y u):x=y:=wao (r.abs.symm.trans q.abs)
theorem Vals.inj:∀ {xs ys:LV} {us:LVl},Vals xs us->Vals ys us->xs=ys
 |_,_,_,.nil,.nil=>rfl
 |_,_,_,.cons r t,.cons r' t'=>by rw[r.inj r',Vals.inj t t']
section
variable {X:Cx}{pins:LAO}{σ:St}{H:Hp}{s:Shared}{a:Addr}{xs ys:LV}
theorem SqL.of{K:Frg}(h:H a=some (.lst xs)):SqL K H a xs:=.inl (.inl h)
theorem SqT.of{K:Frg}(h:H a=some (.tup xs)):SqT K H a xs:=.inl (.inl h)
theorem Inv.list(I:Inv X pins σ H s)(h:SqL X.K H a xs):∃ its:LVl,Vals xs its/\PlainL s.heap a its.toArray/\xs.length<=sizeLine:=by
 rcases h with h|⟨o,its,n,hk,hc,hd,hs,hz,r⟩
 · obtain⟨z,its,n,r,e⟩:=h.ok I.hok
   exact⟨its,r,⟨_,n,e,rfl,rfl,rfl⟩,z⟩
 · refine⟨its.toList,r,⟨o,n,I.kIn a o hk,hc,hd,by simpa using hs⟩,?_⟩
   have e:=r.length;simp only[Array.length_toList]at e;omega
theorem Inv.tuple(I:Inv X pins σ H s)(h:SqT X.K H a xs):∃ its:LVl,Vals xs its/\IsTup s.heap a its.toArray/\xs.length<=sizeLine:=by
 rcases h with h|⟨o,its,n,hk,hc,hs,hz,r⟩
 · obtain⟨z,its,r,p⟩:=h.ok I.hok
   exact⟨its,r,p,z⟩
 · refine⟨its.toList,r,⟨o,I.kIn a o hk,hc,n,by simpa using hs⟩,?_⟩
   have e:=r.length;simp only[Array.length_toList]at e;omega
theorem Inv.list_inj(I:Inv X pins σ H s)(h:SqL X.K H a xs)(h':SqL X.K H a ys):xs=ys:=by
 obtain⟨its,r,⟨o,n,e,_,_,d⟩,_⟩:=I.list h;obtain⟨its',r',⟨o',n',e',_,_,d'⟩,_⟩:=I.list h';rw[e]at e';cases e';rw[d]at d';injection d' with d1 _
 have:its=its':=by simpa using congrArg Array.toList d1
 subst this;exact r.inj r'
theorem Inv.tuple_inj(I:Inv X pins σ H s)(h:SqT X.K H a xs)(h':SqT X.K H a ys):xs=ys:=by
 obtain⟨its,r,⟨o,e,_,n,d⟩,_⟩:=I.tuple h;obtain⟨its',r',⟨o',e',_,n',d'⟩,_⟩:=I.tuple h';rw[e]at e';cases e';rw[d]at d';injection d' with d1 _
 have:its=its':=by simpa using congrArg Array.toList d1
 subst this;exact r.inj r'
end
abbrev Cx.wish(X:Cx)(E:VSP):Cx:={ X with xe:=E }
abbrev Cx.nox(X:Cx):Cx:=X.wish fun _ _=>False
theorem Cx.Ok.wish{X:Cx}(ok:X.Ok)(E:VSP):(X.wish E).Ok:=
 ⟨ok.mod,ok.kind,ok.glob,ok.blt,ok.above,ok.inj,ok.has,ok.cab,ok.hd,ok.frames,ok.stk,ok.exf,ok.bs,ok.bsz,ok.noex,ok.exfs,ok.funs,ok.frf⟩
theorem Cx.Ok.unwish{X:Cx}{E:VSP}(ok:(X.wish E).Ok):X.Ok:=
 ⟨ok.mod,ok.kind,ok.glob,ok.blt,ok.above,ok.inj,ok.has,ok.cab,ok.hd,ok.frames,ok.stk,ok.exf,ok.bs,ok.bsz,ok.noex,ok.exfs,ok.funs,ok.frf⟩
section
variable {X:Cx}{pins:LAO}{σ:St}{H:Hp}{s:Shared}{E:VSP}
theorem Inv.wish(I:Inv X pins σ H s)(E:VSP):Inv (X.wish E) pins σ H s:=⟨I.ok.wish E,I.os,I.bare,I.base,I.loc,I.cell,I.free,I.freeC,I.pin,I.hok,I.len⟩
theorem Inv.unwish(I:Inv (X.wish E) pins σ H s):Inv X pins σ H s:=⟨I.ok.unwish,I.os,I.bare,I.base,I.loc,I.cell,I.free,I.freeC,I.pin,I.hok,I.len⟩
theorem SP.unwish{D:Ends}{f:Flow}{s':Shared}(h:SP (X.wish E) pins D f s'):SP X pins D f s':=by
 cases f with
 |next=>obtain⟨σ',H',I,q⟩:=h;exact⟨σ',H',I.unwish,q⟩
 |brk=>obtain⟨σ',H',I,q⟩:=h;exact⟨σ',H',I.unwish,q⟩
 |cont=>obtain⟨σ',H',I,q⟩:=h;exact⟨σ',H',I.unwish,q⟩
 |ret u=>obtain⟨v,σ',H',I,r,q⟩:=h;exact⟨v,σ',H',I.unwish,r,q⟩
theorem PSs.nox{st:List Stmt}{t:TS}(h:PSs X.nox st t):PSs X st t:=fun pins s σ H D I hw=>
 wa3 (h pins s σ H D (I.wish _) hw) (fun _ _ q=>q.unwish) fun _ _ z=>False.elim z
end
section
variable {X:Cx}{st:Stmt}{rest:List Stmt}{t u:TS}{e:Expr}{te:TE}{pos:Pos}
def qvy:TS:=fun D σ H=>D.nx σ H
def qCK(t u:TS):TS:=fun D σ H=>t { D with nx:=u D } σ H
theorem qpW:PSs X [] qvy:=fun _ _ σ H _ I h=>wpAny_execs_nil ⟨σ,H,I,h⟩
theorem qnf(h1:PS X st t)(h2:PSs X rest u):PSs X (st::rest) (qCK t u):=by
 intro pins s σ H D I h;refine wpAny_execs_cons (thn (h1 pins s σ H { D with nx:=u D } I h) fun f s1 q=>?_)
 cases f with
 |next=>
  obtain⟨σ',H',I',q⟩:=q;exact h2 pins s1 σ' H' D I' q
 |ret v=>exact q
 |brk=>exact q
 |cont=>exact q
theorem Inv.quiet{pins:LAO}{σ:St}{H:Hp}{s:Shared}(I:Inv X pins σ H s):interactive X.env=false:=by simp[interactive,I.ok.kind]
def qvC(te:TE):TS:=fun D σ H=>te σ H fun _ H1=>D.nx σ H1
theorem qpY(he:PE X e te)(hs:swapsWith e none pos.line X.env=pure false:=by rfl):PS X (.Expr e pos) (qvC te):=by
 intro pins s σ H D I h;exact wpAny_Expr_any (thn (he pins s σ H _ I h) fun v s1 ⟨x,H1,I1,r1,q1⟩=>⟨σ,H1,I1,q1⟩) I.quiet hs
def qCL(te:TE):TS:=fun D σ H=>te σ H D.rt
theorem qsH(he:PE X e te):PS X (.Return (some e) pos) (qCL te):=by
 intro pins s σ H D I h;exact wpAny_Return_some (thn (he pins s σ H _ I h) fun v s1 ⟨x,H1,I1,r1,q1⟩=>⟨x,σ,H1,I1,r1,q1⟩)
def qvv:TS:=fun D _ H=>D.rt .non H
theorem qpX:PS X (.Return none pos) qvv:=fun _ _ σ H _ I h=>wpAny_Return_none ⟨.non,σ,H,I,rfl,h⟩
def qCQ(c:TT)(t u:TS):TS:=fun D σ H=>c σ H fun b H1=>if b=true then t D σ H1 else u D σ H1
theorem qwB{c:Expr}{a b:List Stmt}{tc:TT}(hc:PT X c tc)(ha:PSs X a t)(hb:PSs X b u):PS X (.If c a b pos) (qCQ tc t u):=by
 intro pins s σ H D I h;refine wpAny_If (thn (hc pins s σ H _ I h) fun d s1 zz=>?_);obtain⟨H1,I1,q1⟩:=zz
 cases d with
 |true=>exact ha pins s1 σ H1 D I1 q1
 |false=>exact hb pins s1 σ H1 D I1 q1
end
abbrev TG:=V->St->Hp->(St->Hp->Prop)->Prop
abbrev TGs:=LV->St->Hp->(St->Hp->Prop)->Prop
def PG(X:Cx)(target:Expr)(t:TG):Prop:=
 ∀ (pins:LAO) (s:Shared) (σ:St) (H:Hp) (v:V) (u:Value) (Q:St->Hp->Prop),Inv X pins σ H s->RelV v u->t v σ H Q->
  wpAny (model X.prog X.w) X.A (assign target X.env u) (fun _ s'=>∃ σ' H',Inv X pins σ' H' s'/\Q σ' H') X.xe s
def PGs(X:Cx)(ts:LEx)(t:TGs):Prop:=
 ∀ (pins:LAO) (s:Shared) (σ:St) (H:Hp) (vs:LV) (us:LVl) (Q:St->Hp->Prop),Inv X pins σ H s->Vals vs us->t vs σ H Q->
  wpAny (model X.prog X.w) X.A (assignInOrder ((assignEach ts X.env).map (·.2)) us) (fun _ s'=>∃ σ' H',Inv X pins σ' H' s'/\Q σ' H') X.xe s
abbrev qvf:=V->V->V->Hp->(Hp->Prop)->Prop
def qvg(X:Cx)(t:qvf):Prop:=
 ∀ (pins:LAO) (s:Shared) (σ:St) (H:Hp) (o i v:V) (ov iv u:Value) (Q:Hp->Prop),Inv X pins σ H s->RelV o ov->RelV i iv->RelV v u->t o i v H Q->
  wpAny (model X.prog X.w) X.A (setItem ov iv u) (fun _ s'=>∃ H',Inv X pins σ H' s'/\Q H') X.xe s
section
variable {X:Cx}{pos:Pos}
def qqW(i:Nat):TG:=fun v σ H Q=>Q (σ.set i (some v)) H
theorem qfN{i:Nat}{x:Str}(hN:X.N.Nodup)(hi:X.N[i]? =some x)(hx:Loc X.env.scope x)(hf:X.fn x=true∨X.env.scope.names.lookup x=some .local):PG X (.Name x pos) (qqW i):=by
 intro pins s σ H v u Q I r h;exact wpAny_assign_Name (qdV I hN hi hx r (fun s' I'=>⟨_,H,I',h⟩) hf)
def qAI:TGs:=fun vs σ H Q=>vs= []/\Q σ H
def qtT(t:TG)(u:TGs):TGs:=fun vs σ H Q=>∃ v r,vs=v::r/\t v σ H fun σ' H'=>u r σ' H' Q
theorem qk0:PGs X [] qAI:=by
 intro pins s σ H vs us Q I r h;obtain⟨e,h⟩:=h;subst e;cases r;exact assignInOrder_nil ⟨σ,H,I,h⟩
theorem qi1{e:Expr}{es:LEx}{t:TG}{u:TGs}(h1:PG X e t)(h2:PGs X es u)
 (hs:(assignEach (e::es) X.env).map (·.2)=assign e X.env::(assignEach es X.env).map (·.2):=by rfl):PGs X (e::es) (qtT t u):=by
 intro pins s σ H vs us Q I r h;obtain⟨v,vr,e1,h⟩:=h;subst e1;cases r with
 |cons r rr=>
  rw[hs];refine assignInOrder_cons (thn (h1 pins s σ H _ _ _ I r h) fun _ s1 zz=>?_);obtain⟨σ1,H1,I1,q1⟩:=zz
  exact h2 pins s1 σ1 H1 _ _ Q I1 rr q1
def qAH(K:Frg)(n:Nat)(t:TGs):TG:=fun v σ H Q=>∃ a xs,v= .ref a/\SqT K H a xs/\xs.length=n/\t xs σ H Q
theorem qoC{es:LEx}{k:Nat}{t:TGs}{n:Nat}(hc:X.calm=true)(h:PGs X es t)
 (hn:(assignEach es X.env).length=n:=by rfl) (hst:(assignEach es X.env).findIdx? (·.1)=none:=by rfl):PG X (.Tuple es k pos) (qAH X.K n t):=by
 intro pins s σ H v u Q I r hw;obtain⟨a,xs,e1,hq,hl,hw⟩:=hw;subst e1;cases r;obtain⟨its,rv,ht,hz⟩:=I.tuple hq;refine assign_Tuple_tuple (I.ok.hd hc) ht (by simp[hn,<-hl,rv.length]) hst fun h' hx=>?_
 have I1:Inv X pins σ H { s with heap:=h' }:=I.kept (t':=s.toks) fun b o e=>hx b o (waq (wai e)) e
 exact h pins _ σ H xs _ Q I1 (by simpa using rv) hw
def qD2(to ti:TE)(t:qvf):TG:=fun v σ H Q=>to σ H fun o H1=>ti σ H1 fun i H2=>t o i v H2 fun H3=>Q σ H3
theorem qsN{o i:Expr}{to ti:TE}{t:qvf}(ho:PE X o to)(hi:PE X i ti)(hs:qvg X t)
 (ha:∀ v,assign (.Subscript o i pos) X.env v=(do
  let ov<-holding [v] (eval o X.env)
  let iv<-holding [v,ov] (eval i X.env)
  standAt pos
  holding [v,ov,iv] (setItem ov iv v)
  release [v,ov,iv] []):=by intro _;rfl):PG X (.Subscript o i pos) (qD2 to ti t):=by
 intro pins s σ H v u Q I r h;rw[ha];refine waa (wa0 (thn (ho pins s σ H _ I h) fun ov s1 zz=>?_));obtain⟨x,H1,I1,r1,q1⟩:=zz
 refine waa (wa0 (thn (hi pins s1 σ H1 _ I1 q1) fun iv s2 zz=>?_));obtain⟨y,H2,I2,r2,q2⟩:=zz
 refine waa (wpAny_standAt (waa (wa0 (thn (hs pins s2 σ H2 x y v ov iv u _ I2 r1 r2 r q2) fun _ s3 zz=>?_))));obtain⟨H3,I3,q3⟩:=zz
 exact wpAny_release ⟨σ,H3,I3,q3⟩
def qz3(te:TE)(g:TG):TS:=fun D σ H=>te σ H fun x H1=>g x σ H1 D.nx
theorem qsL{tg e:Expr}{te:TE}{g:TG}(he:PE X e te)(hg:PG X tg g)(hs:swapsWithSole [tg] e pos.line X.env=pure false:=by rfl)(hw:swappedStores [tg] e X.env=pure none:=by rfl)
 (h1:(assignEach [tg] X.env).map (·.2)= [assign tg X.env]:=by rfl):PS X (.Assign [tg] e pos) (qz3 te g):=by
 intro pins s σ H D I h;refine wpAny_Assign_stores (thn (he pins s σ H _ I h) fun v s1 zz=>?_) hs hw;obtain⟨x,H1,I1,r1,q1⟩:=zz
 rw[h1];exact thn (hg pins s1 σ H1 x v _ I1 r1 q1) fun _ s2 q=>q
theorem qsG{i:Nat}{x:Str}{e:Expr}{te:TE}{pos':Pos}(hN:X.N.Nodup)(hi:X.N[i]? =some x)(hx:Loc X.env.scope x)(he:PE X e te)(hs:swapsWith e (some (.Name x pos')) pos.line X.env=pure false:=by rfl)(hf:X.fn x=true∨X.env.scope.names.lookup x=some .local):
 PS X (.Assign [.Name x pos'] e pos) (qz3 te (qqW i)):=by
 intro pins s σ H D I h;refine wpAny_Assign_Name (thn (he pins s σ H _ I h) fun v s1 zz=>?_) hs;obtain⟨y,H1,I1,r1,q1⟩:=zz
 exact qdV I1 hN hi hx r1 (fun s2 I2=>⟨_,H1,I2,q1⟩) hf
def qCM(i j:Nat)(ta:TA):TS:=fun D σ H=>ta σ H fun vs H1=>∃ v w,vs= [v,w]/\D.nx ((σ.set i (some v)).set j (some w)) H1
theorem qsI{i j:Nat}{x y:Str}{a b:Expr}{ta:TA}{px py pt:Pos}{kt k2 pt2}(hc:X.calm=true)(hN:X.N.Nodup)(hi:X.N[i]? =some x)(hj:X.N[j]? =some y)(hij:i≠j)
 (hx:X.env.scope.names.lookup x=some .local) (hy:X.env.scope.names.lookup y=some .local) (ha:PA X [a,b] ta)
 (hw:swappedStores [.Tuple [.Name x px,.Name y py] kt pt] (.Tuple [a,b] k2 pt2) X.env=pure (some [x,y]))
 (hs:swapsWithSole [.Tuple [.Name x px,.Name y py] kt pt] (.Tuple [a,b] k2 pt2) pos.line X.env=pure false:=by rfl):
 PS X (.Assign [.Tuple [.Name x px,.Name y py] kt pt] (.Tuple [a,b] k2 pt2) pos) (qCM i j ta):=by
 intro pins s σ H D I h;rw[exec_Assign_arm];refine waa (wpAny_standAt ?_);rw[hs];refine waa (wae ?_);rw[wad (by decide)]
 refine waa (Tuple_ (thn (ha _ pins s σ H _ I h) fun us s1 zz=>?_));obtain⟨vs,H1,I1,r1,q1⟩:=zz
 obtain⟨v,w,e1,q1⟩:=q1;subst e1;obtain⟨u1,u2,rfl,rv,rw'⟩:∃ u1 u2,us= [u1,u2]/\RelV v u1/\RelV w u2:=by
  cases r1 with
  |cons p q=>
   cases q with
   |cons p' q'=>
    cases q';exact⟨_,_,rfl,p,p'⟩
 refine waP ?_ (by show 2<=sizeLine;decide)
 have I2:Inv X pins σ H1 { s1 with heap:=s1.heap.push { cls:=.type "tuple",data:=.seq [u1,u2].toArray } }:=I1.kept (t':=s1.toks) fun b o e=>wab _ e
 rw[hw];refine waa (wae ?_);show wpAny (model X.prog X.w) X.A (do rule "assign.swapped-stores";let items<-unpackItems (.ref s1.heap.objs.size) 2 none;assignInOrder [fun v=>bindName X.env y v,fun v=>bindName X.env x v] items.reverse;pure Flow.next) _ _ _
 refine waa (wpAny_rule (waa (unpackItems_tuple (items:=#[u1,u2]) (I.ok.hd hc) (IsTup.new s1.heap _) fun h' hx'=>?_)))
 have I3:=I2.kept (h':=h') (t':=s1.toks) fun b o e=>hx' b o (waq (wai e)) e
 show wpAny _ _ (assignInOrder [fun v=>bindName X.env y v,fun v=>bindName X.env x v] [u2,u1] >>= fun _=>pure Flow.next) _ _ _
 refine waa (assignInOrder_cons (wpAny_bindName (qdV I3 hN hj (.inl hy) rw' (fun s2 I4=>?_) (.inr hy))))
 refine assignInOrder_cons (wpAny_bindName (qdV I4 hN hi (.inl hx) rv (fun s3 I5=>assignInOrder_nil (wae ?_)) (.inr hx)))
 rw[List.set_comm _ _ (wa4 hij)]at I5;exact⟨_,H1,I5,q1⟩
end
structure It where
 go:Nat->Hp->Prop
 yld:Nat->Hp->V->Hp->Prop
 stop:Nat->Hp->Prop
def qoj(X:Cx)(pins:LAO)(H:Hp)(b:Addr):Prop:=
 H b=none/\b≠X.env.locals/\b∉X.fs/\(b∈X.ex∨X.s₀.heap.objs.size<=b)/\(∀ x c,X.env.cells.lookup x=some c->c≠b)/\∀ p∈X.pn++pins,p.1≠b
theorem Inv.fpOk{X:Cx}{pins:LAO}{σ:St}{H H':Hp}{s:Shared}{b:Addr}(I:Inv X pins σ H s)(hb:s.heap.objs.size<=b)(hn:H' b=none):qoj X pins H' b:=by
 refine⟨hn,Nat.ne_of_gt (wam I.lt hb),I.nofs hb,.inr (was I.sz hb),fun x c e z=>?_,fun p hp z=>?_⟩
 · obtain⟨v,q⟩:=I.cell x c e
   exact waI (wam q.lt (by rw[z];exact hb)) (wa6 _)
 · exact waI (wam (wai (I.pin p hp).1) (by rw[z];exact hb)) (wa6 _)
structure Turn(P:Program)(w:World)(K:Frg)(tg:Expr)(J:It)(fp:List Addr)(it:Addr)(tn:Nat->Heap->Prop):Prop where
 mem:it∈fp
 obj:∀ i h,tn i h->∀ b∈fp,∃ o,h.get? b=some o/\∀ v,o.data≠.cell v
 keep:∀ i h h',tn i h->(∀ b∈fp,∀ o,h.get? b=some o->h'.get? b=some o)->tn i h'
 item:∀ (X:Cx),X.prog=P->X.w=w->X.K=K->X.calm=true->∀ (i:Nat) (pins:LAO) (s:Shared) (σ:St) (H:Hp) (E:VSP),Inv X pins σ H s->(∀ b∈fp,qoj X pins H b)->tn i s.heap->J.go i H->
  wpAny (model P w) X.A (pyNext (.ref it)) (fun r s1=>∃ u,r=some u/\
   wpAny (model P w) X.A (letOwnedTupleGo tg (.ref it) u) (fun _ s2=>∃ x H',Inv X pins σ H' s2/\RelV x u/\J.yld i H x H'/\tn (i+1) s2.heap/\∀ b∈fp,H' b=none) E s1) E s
 done:∀ (X:Cx),X.prog=P->X.w=w->X.K=K->X.calm=true->∀ (i:Nat) (pins:LAO) (s:Shared) (σ:St) (H:Hp) (E:VSP),Inv X pins σ H s->(∀ b∈fp,qoj X pins H b)->tn i s.heap->J.stop i H->
  wpAny (model P w) X.A (pyNext (.ref it)) (fun r s1=>r=none/\Inv X pins σ H s1) E s
 self:∀ (A:Around) (i:Nat) (s:Shared) (Q:VSP) (E:VSP),tn i s.heap->Q (.ref it) s->wpAny (model P w) A (pyIter (.ref it)) Q E s
abbrev TI:=St->Hp->(It->Hp->Prop)->Prop
def PIE(X:Cx)(pins:LAO)(σ:St)(tg:Expr)(R:It->Hp->Prop)(itv:Value)(s2:Shared):Prop:=
 ∃ (it:Addr) (fp:List Addr) (tn:Nat->Heap->Prop) (J:It) (H':Hp),itv= .ref it/\Inv X pins σ H' s2/\Turn X.prog X.w X.K tg J fp it tn/\tn 0 s2.heap/\(∀ b∈fp,qoj X pins H' b)/\R J H'
def PI(X:Cx)(tg iter:Expr)(wi:TI):Prop:=
 ∀ (pins:LAO) (s:Shared) (σ:St) (H:Hp) (R:It->Hp->Prop),Inv X pins σ H s->wi σ H R->
  wpAny (model X.prog X.w) X.A (eval iter X.env) (fun v s1=>wpAny (model X.prog X.w) X.A (pyIter v) (PIE X pins σ tg R) X.xe s1) X.xe s
theorem qlX{M:Model}{A:Around}{E:VSP}{s:Shared}{tg:Expr}{it:Addr}{u:Value}{o:Obj}{n:String}{vs:Array Value}{Q:Unit->Shared->Prop}(ho:s.heap.get? it=some o)(hc:o.cls= .type n)(hd:o.data= .fields vs)
 (hn:["enumerate","zip","dict_itemiterator","dict_reverseitemiterator","odict_iterator","itertools.zip_longest","itertools.pairwise"].contains n=false) (hQ:Q () s):wpAny M A (letOwnedTupleGo tg (.ref it) u) Q E s:=by
 unfold letOwnedTupleGo;cases tg<;>first
  |exact wae hQ
  |(cases u<;>first
   |exact wae hQ
   |(refine waa (wpAny_load ho ?_)
     rw[hc,hd];show wpAny M A (if(["enumerate","zip","dict_itemiterator","dict_reverseitemiterator","odict_iterator","itertools.zip_longest","itertools.pairwise"].contains n&&vs[0]? ==some (rawInt _))=true then _ else _) Q E s
     rw[wad (by intro h;rw[hn,Bool.false_and]at h;cases h)]
     exact wae hQ))
noncomputable def Itl (K:Frg)(a:Addr):It:=
 ⟨fun i H=>∃ xs x,SqL K H a xs/\xs[i]? =some x,fun i H x H'=>H'=H/\∀ xs,SqL K H a xs->xs[i]? =some x,fun i H=>∃ xs,SqL K H a xs/\xs.length<=i⟩
noncomputable def Itt (K:Frg)(a:Addr):It:=
 ⟨fun i H=>∃ xs x,SqT K H a xs/\xs[i]? =some x,fun i H x H'=>H'=H/\∀ xs,SqT K H a xs->xs[i]? =some x,fun i H=>∃ xs,SqT K H a xs/\xs.length<=i⟩
def Itr(lo:Int)(n:Nat):It:=⟨fun i _=>i<n,fun i H x H'=>H'=H/\x= .int (lo+i),fun i _=>n<=i⟩
theorem qkk{P:Program}{w:World}{K:Frg}{tg:Expr}(a it:Addr):Turn P w K tg (Itl K a) [it] it (fun i h=>h.IsListIter it a i) where
 mem:=by simp
 obj:=fun i h st b hb=>by
  have e:b=it:=by simpa using hb
  subst e;obtain⟨o,e,c,d⟩:=st;exact⟨o,e,fun v z=>by rw[d]at z;cases z⟩
 keep:=fun i h h' st k=>st.at fun o e=>k it (by simp) o e
 item:=by
  intro X hP hw hK hc i pins s σ H E I hf st hg;subst hP hw hK;obtain⟨xs,x,hq,hx⟩:=hg;obtain⟨its,rv,p,hz⟩:=I.list hq;obtain⟨u,hu,ru⟩:=rv.get hx;obtain⟨f0,f1,f2,f3,f4,f5⟩:=hf it (by simp)
  refine wpAny_pyNext_list_item st p.isList (x:=u) (by simpa using hu) fun h' st' sb=>?_
  have I1:Inv X pins σ H { s with heap:=h' }:=I.turned (t':=s.toks) (fun b o hb e=>(sb.2 b hb).trans e) f0 f1 f3 f4 f5
  obtain⟨o,e,c,d⟩:=id st';exact⟨u,rfl,qlX (s:={ s with heap:=h' }) e c d (by decide) ⟨x,H,I1,ru,⟨rfl,fun ys hy=>by rw[I.list_inj hy hq];exact hx⟩,st',fun b hb=>(hf b hb).1⟩⟩
 done:=by
  intro X hP hw hK hc i pins s σ H E I hf st hg;subst hP hw hK;obtain⟨xs,hq,hx⟩:=hg;obtain⟨its,rv,p,hz⟩:=I.list hq;obtain⟨f0,f1,f2,f3,f4,f5⟩:=hf it (by simp)
  have hl:=rv.length;exact wpAny_pyNext_list_end (I.ok.hd hc) st p.isList (by simp;omega) fun h' eb=>⟨rfl,I.turned (t':=s.toks) (fun b o hb e=>eb b o hb e) f0 f1 f3 f4 f5⟩
 self:=fun _ _ _ _ _ st h=>wpAny_pyIter_listiter st h
theorem qjq{P:Program}{w:World}{K:Frg}{tg:Expr}(a it:Addr):Turn P w K tg (Itt K a) [it] it (fun i h=>h.IsTupleIter it a i) where
 mem:=by simp
 obj:=fun i h st b hb=>by
  have e:b=it:=by simpa using hb
  subst e;obtain⟨o,e,c,d⟩:=st;exact⟨o,e,fun v z=>by rw[d]at z;cases z⟩
 keep:=fun i h h' st k=>st.at fun o e=>k it (by simp) o e
 item:=by
  intro X hP hw hK hc i pins s σ H E I hf st hg;subst hP hw hK;obtain⟨xs,x,hq,hx⟩:=hg;obtain⟨its,rv,p,hz⟩:=I.tuple hq;obtain⟨u,hu,ru⟩:=rv.get hx;obtain⟨f0,f1,f2,f3,f4,f5⟩:=hf it (by simp)
  refine wpAny_pyNext_tuple_item st (show s.heap.IsTuple a its.toArray from p) (x:=u) (by simpa using hu) fun h' st' sb=>?_
  have I1:Inv X pins σ H { s with heap:=h' }:=I.turned (t':=s.toks) (fun b o hb e=>(sb.2 b hb).trans e) f0 f1 f3 f4 f5
  obtain⟨o,e,c,d⟩:=id st';exact⟨u,rfl,qlX (s:={ s with heap:=h' }) e c d (by decide) ⟨x,H,I1,ru,⟨rfl,fun ys hy=>by rw[I.tuple_inj hy hq];exact hx⟩,st',fun b hb=>(hf b hb).1⟩⟩
 done:=by
  intro X hP hw hK hc i pins s σ H E I hf st hg;subst hP hw hK;obtain⟨xs,hq,hx⟩:=hg;obtain⟨its,rv,p,hz⟩:=I.tuple hq;obtain⟨f0,f1,f2,f3,f4,f5⟩:=hf it (by simp)
  have hl:=rv.length;exact wpAny_pyNext_tuple_end (I.ok.hd hc) st (show s.heap.IsTuple a its.toArray from p) (by simp;omega) fun h' eb=>⟨rfl,I.turned (t':=s.toks) (fun b o hb e=>eb b o hb e) f0 f1 f3 f4 f5⟩
 self:=fun _ _ _ _ _ st h=>wpAny_pyIter_tupleiter st h
theorem qjr{P:Program}{w:World}{K:Frg}{tg:Expr}(it:Addr)(lo:Int)(n:Nat):Turn P w K tg (Itr lo n) [it] it (fun i h=>IsRangeIter h it (lo+(i:Nat)*1) ((n:Int)-(i:Nat)) 1) where
 mem:=by simp
 obj:=fun i h st b hb=>by
  have e:b=it:=by simpa using hb
  subst e;exact⟨_,st,fun v z=>by
   have z':Data.fields _=Data.cell v:=z;cases z'⟩
 keep:=fun i h h' st k=>k it (by simp) _ st
 item:=by
  intro X hP hw hK hc i pins s σ H E I hf st hg;subst hP hw hK;obtain⟨f0,f1,f2,f3,f4,f5⟩:=hf it (by simp)
  have W:=Walks.range (prog:=X.prog) (w:=X.w) (I.ok.hd hc) it lo 1 n;refine W.item i s _ _ hg st fun v h' tk hv st' kk=>?_
  obtain⟨t,rfl⟩:=hv;have I1:Inv X pins σ H { s with heap:=h',toks:=tk }:=I.turned (fun b o hb e=>kk b o (by simpa using hb) e) f0 f1 f3 f4 f5
  refine⟨_,rfl,qlX (s:={ s with heap:=h',toks:=tk }) (n:="range_iterator") st' rfl rfl (by decide) ⟨.int (lo+i),H,I1,⟨t,?_⟩,⟨rfl,rfl⟩,st',fun b hb=>(hf b hb).1⟩⟩
  rw[Int.mul_one]
 done:=by
  intro X hP hw hK hc i pins s σ H E I hf st hg;subst hP hw hK;obtain⟨f0,f1,f2,f3,f4,f5⟩:=hf it (by simp)
  exact wpAny_pyNext_range_end (I.ok.hd hc) st (by have:n<=i:=hg;omega) fun h' eb=>⟨rfl,I.turned (t':=s.toks) (fun b o hb e=>eb b o hb e) f0 f1 f3 f4 f5⟩
 self:=fun _ _ _ _ _ st h=>wpAny_pyIter_rangeiter st h
section
variable {X:Cx}{tg:Expr}
theorem qm3{pins:LAO}{σ:St}{H:Hp}{s:Shared}{R:It->Hp->Prop}{E:VSP}{lo hi:Int}{t u v:Tok}{tk:Nat}(I:Inv X pins σ H s)(h1:-(2 ^ 62)<=lo)(h2:lo<2 ^ 62)(h3:-(2 ^ 62)<=hi)(h4:hi<2 ^ 62)
 (q:R (Itr lo (hi-lo).toNat) H):wpAny (model X.prog X.w) X.A (pyIter (.ref s.heap.objs.size)) (PIE X pins σ tg R) E { s with heap:=s.heap.push { cls:=.type "range",data:=.fields #[.int lo t,.int hi u,.int 1 v] },toks:=tk }:=by
 refine wpAny_pyIter_range (IsRange.new ..) (small_one h1 h2 h3 h4) ?_;have I1:Inv X pins σ H { s with heap:=s.heap.push { cls:=.type "range",data:=.fields #[.int lo t,.int hi u,.int 1 v] },toks:=tk }:=I.kept fun b o e=>wab _ e
 refine⟨(s.heap.push { cls:=.type "range",data:=.fields #[.int lo t,.int hi u,.int 1 v] }).objs.size,[(s.heap.push { cls:=.type "range",data:=.fields #[.int lo t,.int hi u,.int 1 v] }).objs.size],_,_,H,rfl,
  I1.kept (t':=tk) fun b o e=>wab _ e,qjr _ lo (hi-lo).toNat,?_,fun b hb=>?_,q⟩
 · have e1:lo+((0:Nat):Int)*1=lo:=by simp
   have e2:(((hi-lo).toNat:Nat):Int)-((0:Nat):Int)=Builtin.Range.rangeSize lo hi 1:=by rw[rangeSize_one];split<;>omega
   show IsRangeIter _ _ (lo+((0:Nat):Int)*1) ((((hi-lo).toNat:Nat):Int)-((0:Nat):Int)) 1;rw[e1,e2];exact wah _ rfl
 · have e:b=(s.heap.push { cls:=.type "range",data:=.fields #[.int lo t,.int hi u,.int 1 v] }).objs.size:=by simpa using hb
   subst e;exact I1.fpOk (waf _) (I1.hok.fresh (waf _))
def qxe(ta:TA):TI:=fun σ H R=>ta σ H fun vs H1=>∃ j:Int,vs= [.int j]/\-(2 ^ 62)<=j/\j<2 ^ 62/\R (Itr 0 j.toNat) H1
theorem qkZ{a:Expr}{ta:TA}{p pos:Pos}(hg:Gl X "range")(hm:X.mg "range" =none)(ha:PA X [a] ta)(hs:starEach [a] X.env= [(false,eval a X.env)]:=by rfl):PI X tg (.Call (.Name "range" p) [a] [] pos) (qxe ta):=by
 intro pins s σ H R I h;refine Call_ (qds I hg hm boot_range (waT (thn (ha pos pins s σ H _ I h) fun us s1 zz=>?_) hs rfl));obtain⟨vs,H1,I1,r1,q1⟩:=zz
 obtain⟨j,e,q1,q2,q⟩:=q1;subst e;cases r1 with
 |cons r rr=>
  cases rr;obtain⟨t,rfl⟩:=r;exact call_range_1 (qm3 I1 (by omega) (by omega) q1 q2 (by simpa using q))
noncomputable def qCR (wi:TI)(g:TG)(tb:TS):TS:=fun D σ H=>wi σ H fun J H1=>∃ W:Nat->Nat->St->Hp->Prop,(∃ m,W 0 m σ H1)/\∀ i m σ H,W i m σ H->
 (J.stop i H/\D.nx σ H)∨(J.go i H/\∃ N:St->Hp->Prop,(∀ σ' H',N σ' H'->∃ m',m'<m/\W (i+1) m' σ' H')/\∀ x H',J.yld i H x H'->g x σ H' fun σ2 H2=>tb { D with nx:=N,ct:=N,bk:=D.nx } σ2 H2)
def qdq(fp:List Addr)(h:Heap):LAO:=fp.filterMap fun b=>(h.get? b).map fun o=>(b,o)
theorem qdd{fp:List Addr}{h:Heap}{b:Addr}{o:Obj}(hb:b∈fp)(e:h.get? b=some o):(b,o)∈qdq fp h:=wbk.mpr ⟨b,hb,by rw[e];rfl⟩
theorem qgV{fp:List Addr}{h:Heap}{p:Addr×Obj}(hp:p∈qdq fp h):p.1∈fp/\h.get? p.1=some p.2:=by
 obtain⟨b,hb,e⟩:=wbk.mp hp;cases q:h.get? b with
 |none=>rw[q]at e;cases e
 |some o=>
  rw[q]at e;have e':(b,o)=p:=wao e;subst e';exact⟨hb,q⟩
theorem Inv.pinned{pins:LAO}{σ:St}{H:Hp}{s:Shared}{fp:List Addr}(I:Inv X pins σ H s)(hf:∀ b∈fp,qoj X pins H b)(ho:∀ b∈fp,∃ o,s.heap.get? b=some o/\∀ v,o.data≠.cell v):Inv X (pins++qdq fp s.heap) σ H s:=
 I.pins_of fun p hp=>(wa1.mp hp).elim (fun z=>I.pin p (waw _ z)) fun z=>by
  obtain⟨hb,e⟩:=qgV z;obtain⟨f0,f1,f2,_⟩:=hf p.1 hb;obtain⟨o,e',d⟩:=ho p.1 hb;rw[e]at e';cases e';exact⟨e,f0,f1,f2,d⟩
theorem Inv.unpinned{pins pl:LAO}{σ:St}{H:Hp}{s:Shared}(I:Inv X (pins++pl) σ H s):Inv X pins σ H s:=I.pins_of fun p hp=>I.pin p (waw _ (wbs _ hp))
theorem qsJ{iter:Expr}{body:List Stmt}{wi:TI}{g:TG}{tb:TS}{pos:Pos}(hp:PassesOwn (model X.prog X.w) X.A X.env X.xe)(hc:X.calm=true)(hi:PI X tg iter wi)(hg:PG X tg g)(hb:PSs X body tb)
 (hs:∀ x,foldedSetIterable iter X.env x=pure x:=by intro _;rfl):PS X (.For tg iter body [] pos) (qCR wi g tb):=by
 intro pins s σ H D I h;refine wpAny_For (thn (hi pins s σ H _ I h) fun v s1 h1=>thn h1 fun itv s2 h2=>?_) hs
 obtain⟨it,fp,tn,J,H2,e,I2,T,st2,f2,W,⟨m0,w0⟩,turn⟩:=h2;subst e;have stat:∀ {H':Hp},(∀ b∈fp,H' b=none)->∀ b∈fp,qoj X pins H' b:=fun hn b hb=>⟨hn b hb,(f2 b hb).2⟩
 refine codeAny_forLoop_any (fun n s'=>∃ i σ' H',Inv X pins σ' H' s'/\tn i s'.heap/\(∀ b∈fp,H' b=none)/\W i n σ' H') ?_ m0 ⟨0,σ,H2,I2,st2,fun b hb=>(f2 b hb).1,w0⟩
 rintro n s3 ⟨i,σ3,H3,I3,st3,fr3,w3⟩;rcases turn i n σ3 H3 w3 with⟨stop,qn⟩|⟨go,N,hN,step⟩
 · refine wpAny_passesOwn hp (thn (T.done X rfl rfl rfl hc i pins s3 σ3 H3 X.xe I3 (stat fr3) st3 stop) fun r s4 zz=>?_);obtain⟨hr,I4⟩:=zz
   subst hr;exact wpAny_execs_nil ⟨σ3,H3,I4,qn⟩
 · refine wpAny_passesOwn hp (thn (T.item X rfl rfl rfl hc i pins s3 σ3 H3 X.xe I3 (stat fr3) st3 go) fun r s4 zz=>?_);obtain⟨u,hr,h4⟩:=zz
   subst hr;refine wpAny_passesOwn hp (thn h4 fun _ s5 zz=>?_);obtain⟨x,H5,I5,r5,y5,st5,fr5⟩:=zz
   have I5':=I5.pinned (stat fr5) (T.obj _ _ st5);refine wpAny_passesOwn hp (thn (hg _ s5 σ3 H5 x u _ I5' r5 (step x H5 y5)) fun _ s6 zz=>?_);obtain⟨σ6,H6,I6,q6⟩:=zz
   refine wpAny_passesOwn hp (thn (hb _ s6 σ6 H6 _ I6 q6) fun f s7 q7=>?_)
   have again:∀ {σ7:St} {H7:Hp},Inv X (pins++qdq fp s5.heap) σ7 H7 s7->N σ7 H7->∃ m,m<n/\∃ i σ' H',Inv X pins σ' H' s7/\tn i s7.heap/\(∀ b∈fp,H' b=none)/\W i m σ' H':=fun {σ7 H7} I7 n7=>by
    obtain⟨m',hm,w7⟩:=hN σ7 H7 n7;refine⟨m',hm,i+1,σ7,H7,I7.unpinned,T.keep _ _ _ st5 fun b hb o e=>(I7.pin (b,o) (waw _ (waw _ (qdd hb e)))).1,fun b hb=>?_,w7⟩
    obtain⟨o,e,d⟩:=T.obj _ _ st5 b hb;exact(I7.pin (b,o) (waw _ (waw _ (qdd hb e)))).2.1
   cases f with
   |next=>obtain⟨σ7,H7,I7,n7⟩:=q7;exact again I7 n7
   |cont=>obtain⟨σ7,H7,I7,n7⟩:=q7;exact again I7 n7
   |brk=>obtain⟨σ7,H7,I7,q7⟩:=q7;exact⟨σ7,H7,I7.unpinned,q7⟩
   |ret v=>obtain⟨x7,σ7,H7,I7,r7,q7⟩:=q7;exact⟨x7,σ7,H7,I7.unpinned,r7,q7⟩
end
abbrev R2:=V->V->Hp->VK->Prop
def OpR(X:Cx)(f:Value->Value->Sem Value)(r:R2):Prop:=
 ∀ (pins:LAO) (s:Shared) (σ:St) (H:Hp) (x y:V) (v u:Value) (Q:VK),Inv X pins σ H s->RelV x v->RelV y u->r x y H Q->
  wpAny (model X.prog X.w) X.A (f v u) (EP X pins σ Q) X.xe s
def UnR(X:Cx)(f:Value->Sem Value)(r:V->Hp->VK->Prop):Prop:=
 ∀ (pins:LAO) (s:Shared) (σ:St) (H:Hp) (x:V) (v:Value) (Q:VK),Inv X pins σ H s->RelV x v->r x H Q->
  wpAny (model X.prog X.w) X.A (f v) (EP X pins σ Q) X.xe s
def qaQ(X:Cx)(f:Value)(r:LV->Hp->VK->Prop):Prop:=
 ∀ (pins:LAO) (s:Shared) (σ:St) (H:Hp) (xs:LV) (us:LVl) (Q:VK),Inv X pins σ H s->Vals xs us->r xs H Q->
  wpAny (model X.prog X.w) X.A (call f us) (EP X pins σ Q) X.xe s
def tOp(r:R2)(ta tb:TE):TE:=fun σ H Q=>ta σ H fun x H1=>tb σ H1 fun y H2=>r x y H2 Q
def tUn(r:V->Hp->VK->Prop)(ta:TE):TE:=fun σ H Q=>ta σ H fun x H1=>r x H1 Q
def rI(C:Int->Int->Prop)(g:Int->Int->V):R2:=fun x y H Q=>∃ i j,x= .int i/\y= .int j/\C i j/\Q (g i j) H
def rI0(g:Int->Int->V):R2:=fun x y H Q=>∃ i j,x= .int i/\y= .int j/\Q (g i j) H
section
variable {X:Cx}{a b c:Expr}{ta tb tc:TE}{pos:Pos}
theorem qxP(ha:PE X a ta)(hb:PE X b tb){pins:LAO}{s:Shared}{σ:St}{H:Hp}{R:V->V->Hp->Prop}(I:Inv X pins σ H s)
 (h:ta σ H fun x H1=>tb σ H1 fun y H2=>R x y H2) {Q:VSP} {f:Value->Value->Sem Value}
 (hf:∀ v u s2 x y H2,Inv X pins σ H2 s2->RelV x v->RelV y u->R x y H2->wpAny (model X.prog X.w) X.A (f v u) Q X.xe s2):
 wpAny (model X.prog X.w) X.A (eval a X.env) (fun v s₁=>wpAny (model X.prog X.w) X.A (eval b X.env) (fun u s₂=>wpAny (model X.prog X.w) X.A (f v u) Q X.xe s₂) X.xe s₁) X.xe s:=by
 refine thn (ha pins s σ H _ I h) fun v s1 zz=>?_;obtain⟨x,H1,I1,r1,q1⟩:=zz
 refine thn (hb pins s1 σ H1 _ I1 q1) fun u s2 zz=>?_;obtain⟨y,H2,I2,r2,q2⟩:=zz
 exact hf v u s2 x y H2 I2 r1 r2 q2
theorem qwH{op:Operator}{r:R2}(ho:OpR X (binaryOp op) r)(ha:PE X a ta)(hb:PE X b tb):PE X (.BinOp a op b pos) (tOp r ta tb):=by
 intro pins s σ H Q I h;exact wpAny_BinOp (qxP ha hb I h fun v u s2 x y H2 I2 rx ry q=>ho pins s2 σ H2 x y v u Q I2 rx ry q)
theorem qwF{op:UnaryOp}{r:V->Hp->VK->Prop}(ho:UnR X (unaryOp op) r)(ha:PE X a ta):PE X (.UnaryOp op a pos) (tUn r ta):=by
 intro pins s σ H Q I h;exact UnaryOp_ (thn (ha pins s σ H _ I h) fun v s1 ⟨x,H1,I1,r1,q1⟩=>ho pins s1 σ H1 x v Q I1 r1 q1)
theorem opI{f:Value->Value->Sem Value}{C:Int->Int->Prop}{g:Int->Int->Int}
 (rule:∀ (i j:Int) (t u:Tok) (s:Shared) (Q:VSP) (E:VSP),C i j->Q (.int (g i j) s.toks) { s with toks:=s.toks+1 }->wpAny (model X.prog X.w) X.A (f (.int i t) (.int j u)) Q E s):
 OpR X f (rI C fun i j=>.int (g i j)):=by
 intro pins s σ H x y v u Q I rx ry h;obtain⟨i,j,rfl,rfl,hc,q⟩:=h;obtain⟨t,rfl⟩:=rx;obtain⟨t',rfl⟩:=ry;exact rule i j t t' s _ _ hc ⟨.int (g i j),H,I.tok _,⟨_,rfl⟩,q⟩
theorem qAx{f:Value->Value->Sem Value}{g:Int->Int->Int}
 (rule:∀ (i j:Int) (t u:Tok) (s:Shared) (Q:VSP) (E:VSP),Q (.int (g i j) s.toks) { s with toks:=s.toks+1 }->wpAny (model X.prog X.w) X.A (f (.int i t) (.int j u)) Q E s):
 OpR X f (rI0 fun i j=>.int (g i j)):=by
 intro pins s σ H x y v u Q I rx ry h;obtain⟨i,j,rfl,rfl,q⟩:=h;obtain⟨t,rfl⟩:=rx;obtain⟨t',rfl⟩:=ry;exact rule i j t t' s _ _ ⟨.int (g i j),H,I.tok _,⟨_,rfl⟩,q⟩
theorem qu4{f:Value->Value->Sem Value}{g:Int->Int->Bool}
 (rule:∀ (i j:Int) (t u:Tok) (s:Shared) (Q:VSP) (E:VSP),Q (.bool (g i j)) s->wpAny (model X.prog X.w) X.A (f (.int i t) (.int j u)) Q E s):
 OpR X f (rI0 fun i j=>.bl (g i j)):=by
 intro pins s σ H x y v u Q I rx ry h;obtain⟨i,j,rfl,rfl,q⟩:=h;obtain⟨t,rfl⟩:=rx;obtain⟨t',rfl⟩:=ry;exact rule i j t t' s _ _ ⟨.bl (g i j),H,I,rfl,q⟩
def qEJ(i j:Int):Prop:=0<j/\j<1073741824
def qEI(i j:Int):Prop:=0<=j/\j<=1000000/\i.natAbs<2 ^ 64
def CMul(i j:Int):Prop:=(-(2 ^ 64)<i/\i<2 ^ 64)∨(-(2 ^ 64)<j/\j<2 ^ 64)
theorem CMul.ok{i j:Int}(h:CMul i j):IntMulOk i j:=by
 rcases h with⟨h1,h2⟩|⟨h1,h2⟩
 · exact .of_left (intBits_le_64 h1 h2)
 · exact .of_right (intBits_le_64 h1 h2)
theorem qs6:OpR X (binaryOp .Add) (rI0 fun i j=>.int (i+j)):=qAx fun _ _ _ _ _ _ _ q=>add_int q
theorem qs0:OpR X (binaryOp .Sub) (rI0 fun i j=>.int (i-j)):=qAx fun _ _ _ _ _ _ _ q=>sub_int q
theorem qs3:OpR X (binaryOp .Mult) (rI CMul fun i j=>.int (i*j)):=opI fun _ _ _ _ _ _ _ hc q=>mul_int q hc.ok
theorem qqg:OpR X (binaryOp .FloorDiv) (rI qEJ fun i j=>.int (i / j)):=opI fun i j _ _ _ _ _ hc q=>by
 have h1:(0:Int)<j:=hc.1;have h2:j<1073741824:=hc.2;exact floordiv_int (by omega) (by rw[Int.fdiv_eq_ediv_of_nonneg i (by omega)];exact q) (.inl (PyProof.noPylong_small (by omega)))
theorem qs4:OpR X (binaryOp .Mod) (rI (fun _ j=>0<j) fun i j=>.int (i % j)):=opI fun i j _ _ _ _ _ hc q=>by
 have h1:(0:Int)<j:=hc;exact mod_int' (by omega) (by rw[Int.fmod_eq_emod_of_nonneg i (by omega)];exact q)
theorem qs2:OpR X (binaryOp .Pow) (rI qEI fun i j=>.int (i ^ j.toNat)):=opI fun _ _ _ _ _ _ _ hc q=>pow_int_small hc.1 hc.2.1 hc.2.2 q
theorem qo4{pins:LAO}{σ:St}{H:Hp}{s:Shared}{Q:VK}{k k':Bool}(I:Inv X pins σ H s)(q:Q (.bl k) H)(e:k=k'):EP X pins σ Q (.bool k') s:=by
 subst e;exact⟨.bl k,H,I,rfl,q⟩
theorem qwM:OpR X (compareOp .Lt) (rI0 fun i j=>.bl (decide (i<j))):=qu4 fun _ _ _ _ _ _ _ q=>lt_int q
theorem qwN:OpR X (compareOp .LtE) (rI0 fun i j=>.bl (decide (i<=j))):=qu4 fun _ _ _ _ _ _ _ q=>le_int q
theorem qwO:OpR X (compareOp .Gt) (rI0 fun i j=>.bl (decide (j<i))):=qu4 fun _ _ _ _ _ _ _ q=>gt_int q
theorem qwP:OpR X (compareOp .GtE) (rI0 fun i j=>.bl (decide (j<=i))):=qu4 fun _ _ _ _ _ _ _ q=>ge_int q
theorem qs5:OpR X (compareOp .Is) (fun x y H Q=>y= .non/\Q (.bl (decide (x= .non))) H):=by
 intro pins s σ H x y v u Q I rx ry h;obtain⟨rfl,q⟩:=h;cases ry;refine is_none_gen (qo4 I q ?_);cases x<;>first
  |(cases rx;rfl)
  |(obtain⟨t,rfl⟩:=rx;rfl)
theorem qqf:OpR X (compareOp .IsNot) (fun x y H Q=>y= .non/\Q (.bl (!decide (x= .non))) H):=by
 intro pins s σ H x y v u Q I rx ry h;obtain⟨rfl,q⟩:=h;cases ry;refine isnot_none_gen (qo4 I q ?_);cases x<;>first
  |(cases rx;rfl)
  |(obtain⟨t,rfl⟩:=rx;rfl)
theorem qoH(b:Expr){op:CmpOp}(h:op≠.In:=by decide)(h2:op≠.NotIn:=by decide):behindInMarks op b=false:=by
 have e1:(op==CmpOp.In)=false:=by cases op<;>first|rfl|exact waI rfl h
 have e2:(op==CmpOp.NotIn)=false:=by cases op<;>first|rfl|exact waI rfl h2
 cases b<;>simp[behindInMarks,e1,e2]
theorem qk1{op:CmpOp}{r:R2}(ho:OpR X (compareOp op) r)(ha:PE X a ta)(hb:PE X b tb)(hm:behindInMarks op b=false):PE X (.Compare a [op] [b] pos) (tOp r ta tb):=by
 intro pins s σ H Q I h;exact wpAny_Compare1 (qxP ha hb I h fun v u s2 x y H2 I2 rx ry q=>ho pins s2 σ H2 x y v u Q I2 rx ry q) hm
def qrR(t:TE):TT:=fun σ H Q=>t σ H fun x H'=>∃ k,x= .bl k/\Q k H'
theorem qkV{op:CmpOp}{r:R2}(ho:OpR X (compareOp op) r)(ha:PE X a ta)(hb:PE X b tb)(hm:behindInMarks op b=false):PT X (.Compare a [op] [b] pos) (qrR (tOp r ta tb)):=by
 intro pins s σ H Q I h;refine wpAny_isTrue_Compare1 (thn (ha pins s σ H _ I h) fun v s1 ⟨x,H1,I1,r1,q1⟩=>thn (hb pins s1 σ H1 _ I1 q1) fun u s2 ⟨y,H2,I2,r2,q2⟩=>
  thn (ho pins s2 σ H2 x y v u _ I2 r1 r2 q2) fun c s3 ⟨z,H3,I3,r3,k,e,q3⟩=>?_) hm
 subst e;cases r3;exact waJ ⟨H3,I3,q3⟩
noncomputable def qkp (r r':R2)(ta tb tc:TE):TE:=fun σ H Q=>ta σ H fun x H1=>tb σ H1 fun y H2=>r x y H2 fun z H3=>∃ k,z= .bl k/\
 (if k=true then tc σ H3 fun w' H4=>r' y w' H4 Q else Q (.bl false) H3)
theorem qnq{op op':CmpOp}{r r':R2}(ho:OpR X (compareOp op) r)(ho':OpR X (compareOp op') r')(ha:PE X a ta)(hb:PE X b tb)(hc:PE X c tc)
 (hm:lastMarks [op,op'] [b,c]=false:=by with_unfolding_all rfl):PE X (.Compare a [op,op'] [b,c] pos) (qkp r r' ta tb tc):=by
 intro pins s σ H Q I h;refine Compare_chain (thn (ha pins s σ H _ I h) fun v s1 ⟨x,H1,I1,r1,q1⟩=>chain_link (thn (hb pins s1 σ H1 _ I1 q1) fun u s2 ⟨y,H2,I2,r2,q2⟩=>
  thn (ho pins s2 σ H2 x y v u _ I2 r1 r2 q2) fun d s3 ⟨z,H3,I3,r3,k,e,q3⟩=>?_)) hm
 subst e;cases r3;refine waJ ?_;cases k with
 |false=>exact ite_ff ⟨.bl false,H3,I3,rfl,q3⟩
 |true=>exact ite_tt (chain_last (thn (hc pins s3 σ H3 _ I3 q3) fun w' s4 ⟨z',H4,I4,r4,q4⟩=>ho' pins s4 σ H4 y z' u w' Q I4 r2 r4 q4))
theorem qne{op op':CmpOp}{r r':R2}(ho:OpR X (compareOp op) r)(ho':OpR X (compareOp op') r')(ha:PE X a ta)(hb:PE X b tb)(hc:PE X c tc)
 (hm:lastMarks [op,op'] [b,c]=false:=by with_unfolding_all rfl):PT X (.Compare a [op,op'] [b,c] pos) (qrR (qkp r r' ta tb tc)):=by
 intro pins s σ H Q I h;refine isTrue_chain (thn (ha pins s σ H _ I h) fun v s1 ⟨x,H1,I1,r1,q1⟩=>test_link (thn (hb pins s1 σ H1 _ I1 q1) fun u s2 ⟨y,H2,I2,r2,q2⟩=>
  thn (ho pins s2 σ H2 x y v u _ I2 r1 r2 q2) fun d s3 ⟨z,H3,I3,r3,k,e,q3⟩=>?_)) hm
 subst e;cases r3;refine waJ ?_;cases k with
 |false=>
  obtain⟨k',e',q'⟩:=q3;cases e';exact ite_ff ⟨H3,I3,q'⟩
 |true=>
  refine ite_tt (test_last (thn (hc pins s3 σ H3 _ I3 q3) fun w' s4 ⟨z',H4,I4,r4,q4⟩=>thn (ho' pins s4 σ H4 y z' u w' _ I4 r2 r4 q4) fun d' s5 zz=>?_));obtain⟨z2,H5,I5,r5,k2,e2,q5⟩:=zz
  subst e2;cases r5;exact waJ ⟨H5,I5,q5⟩
theorem qfn:(sizeLine:Nat)<2 ^ 63:=by rw[sizeLine_eq];decide
theorem qjF:OpR X (binaryOp .Add) (fun x y H Q=>∃ i j,x= .str i/\y= .str j/\i.length+j.length<=sizeLine/\Q (.str (i++j)) H):=by
 intro pins s σ H x y v u Q I rx ry h;obtain⟨i,j,rfl,rfl,hz,q⟩:=h;obtain⟨t,rfl⟩:=rx;obtain⟨t',rfl⟩:=ry;exact add_str (fun t' tk=>⟨.str (i++j),H,I.tok _,⟨_,rfl⟩,q⟩) hz
theorem vals1{x:V}{us:LVl}(r:Vals [x] us):∃ u,us= [u]/\RelV x u:=by
 cases r with
 |cons r1 r2=>cases r2;exact⟨_,rfl,r1⟩
theorem vals2{x y:V}{us:LVl}(r:Vals [x,y] us):∃ u w',us= [u,w']/\RelV x u/\RelV y w':=by
 cases r with
 |cons r1 r2=>
  cases r2 with
  |cons r3 r4=>cases r4;exact⟨_,_,rfl,r1,r3⟩
theorem qmo(hc:X.calm=true):qaQ X (.builtin "max") (fun xs H Q=>∃ i j,xs= [.int i,.int j]/\Q (.int (if j > i then j else i)) H):=by
 intro pins s σ H xs us Q I r h;obtain⟨i,j,rfl,q⟩:=h;obtain⟨u,w',rfl,⟨t,rfl⟩,⟨t',rfl⟩⟩:=vals2 r;refine max_two_ints (I.ok.hd hc) fun h' tk k=>⟨_,H,I.kept k,?_,q⟩
 by_cases hj:j > i
 · rw[wag hj,wag hj];exact⟨_,rfl⟩
 · rw[wad hj,wad hj];exact⟨_,rfl⟩
theorem qn7:qaQ X (.builtin "ord") (fun xs H Q=>∃ x,xs= [.str x]/\x.length=1/\Q (.int (x.cps.getD 0 0:Nat)) H):=by
 intro pins s σ H xs us Q I r h;obtain⟨x,rfl,hz,q⟩:=h;obtain⟨u,rfl,t,rfl⟩:=vals1 r;exact ord_of_one hz ⟨.int _,H,I.tok _,⟨_,rfl⟩,q⟩
end
structure ObjM(h:Heap)(x dx C:Addr)(mA:SOV):Prop where
 obj:h.get? x=some (wbc C dx)
 ns:h.Ns1 dx mA
 ne:dx≠x
theorem qlh{h:Heap}{dx:Addr}{mA:SOV}(n:h.Ns1 dx mA):∃ od,h.get? dx=some od/\∀ name,PySem.W.lookIn name od=some (mA name):=by
 obtain⟨o,es,ep,ho,hd,hk,_,hm⟩:=n;refine⟨o,ho,fun name=>?_⟩
 have e:=hm name;unfold nsFind findBy at e;rw[<-Array.find?_toList]at e;unfold PySem.W.lookIn;rw[hd];dsimp only;split
 · rename_i y q
   rw[q]at e;exact congrArg some e
 · rename_i q
   rw[q]at e;have a:es.toList.any (·.refKey)=false:=by
    rw[List.any_eq_false];intro y hy;obtain⟨z,t,hkey⟩:=hk y (Array.mem_toList_iff.mp hy);simp[DictEntry.refKey,hkey]
   have a':¬es.toList.any (·.refKey)=true:=by rw[a];exact waA
   rw[wad a'];exact congrArg some e
theorem ObjM.look{h:Heap}{x dx C:Addr}{mA:SOV}(I:ObjM h x dx C mA):∃ od,PySem.W.InstAt h x (wbc C dx) C (some od)/\∀ name,PySem.W.lookIn name od=some (mA name):=
 let⟨od,ho,hl⟩:=qlh I.ns
 ⟨od,⟨I.obj,rfl,rfl,ho⟩,hl⟩
section
variable {prog:Program}{w:World}{A:Around}{E:VSP}{s:Shared}{K:Frg}{x dx C f:Addr}{mA:SOV}{name:Str}{v:Value}
theorem get_map{expr:Bool}{Q:VSP}(X:K.In s.heap)(I:ObjM s.heap x dx C mA)(hg:wbt K C name=true)(hh:wbx K C=true)
 (ha:PySem.W.findIn K (.ref C) name=some none) (hv:mA name=some v) (hv':PySem.W.handedIn v=true) (h:Q v { s with toks:=s.toks+1 }):
 wpAny (model prog w) A (getAttr (.ref x) name expr) Q E s:=by
 obtain⟨od,J,hl⟩:=I.look;exact PySem.W.get_value X J (PySem.W.plainGet_of hg).1 (PySem.W.findObj_own hh ha rfl (by rw[hl,hv])) hv' h
theorem qnS{pl:Sem Bool}{Q:Value×LVl->Shared->Prop}(X:K.In s.heap)(I:ObjM s.heap x dx C mA)(hg:wbt K C name=true)
 (hf:PySem.W.findIn K (.ref C) name=some (some (.ref f))) (ht:PySem.W.isFn K (.ref f)=true) (hv:mA name=none) (h:Q (.ref f,[.ref x]) s):
 wpAny (model prog w) A (getMethod (.ref x) name pl) Q E s:=by
 obtain⟨od,J,hl⟩:=I.look;exact PySem.W.method_fn X J (PySem.W.plainGet_of hg).1 (PySem.W.plainGet_of hg).2 hf (waM.mp ht) (by show(PySem.W.lookIn name od).map (·.isSome)=some false;rw[hl,hv];rfl) h
theorem qpz{ns:LSt}{Q:Unit->Shared->Prop}(X:K.In s.heap)(I:ObjM s.heap x dx C mA)
 (hs:PySem.W.findIn K (.ref C) "__setattr__" =some (some (.builtin "object.__setattr__"))) (hp:PySem.W.plainOver K C=true) (ht:PySem.W.takerIn K C name=some none) (hh:wbx K C=true)
 (hw:PySem.Within mA ns) (hsz:ns.length<=sizeLine)
 (h:∀ h',ObjM h' x dx C (fun y=>if y=name then some v else mA y)->Heap.SameBut dx s.heap h'->Q () { s with heap:=h',toks:=s.toks+2 }):
 wpAny (model prog w) A (setAttr (.ref x) name v) Q E s:=by
 obtain⟨od,J,hl⟩:=I.look;refine PySem.W.set_plain X J hs (PySem.W.osa_open (s:={ s with toks:=s.toks+1 }) (r:=none) X J hp ht fun b=>?_)
 obtain⟨cd,hc,hd'⟩:=PySem.W.any_some hh;have hx:s.heap.get? x=some ⟨.ref C,some dx,.plain,#[]⟩:=I.obj;refine waa (wae (waa (waa (wpAny_loadPart hx (waa (PySem.W.Looks.here (s:={ s with toks:=s.toks+1 }) (PySem.W.looks_clsIn X hc) ?_))))))
 rw[hd'];refine wae (a:=some dx) (waa (wae (waa ?_)));refine wpAny_nsSet1 (s:={ s with toks:=s.toks+1 }) I.ns fun h' hn2 hs2=>?_
 obtain⟨oD,esD,epD,hoD,hdD,hcD⟩:=hn2.count (PySem.Within.cons name v hw);refine waa (wpAny_lookBehind hoD (by rw[hdD];exact pastItsLine_dict (was hcD (by rw[wal];omega))) ?_)
 exact wae (h _ ⟨(hs2.2 _ (wa4 I.ne)).trans I.obj,hn2,I.ne⟩ hs2)
theorem qnD{R:Result->Shared->Prop}{vs:LVl}{kw:List (Str×Value)}(X:K.In s.heap)(hm:PySem.W.makesIn K C=true)
 (hi:PySem.W.findIn K (.ref C) "__init__" =some (some (.ref f))) (hf:PySem.W.typeIn K (.ref f)=some (.type "function"))
 (h:codeAny (model prog w) (A.under (.builtin "type.__call__" ⟨.ref C::vs,kw⟩)) (.call (.ref f) ⟨.ref (s.heap.objs.size+1)::vs,kw⟩) (PySem.W.InitBack (s.heap.objs.size+1) R)
  { s with heap:=(s.heap.push waS).push (wbc C s.heap.objs.size) }):
 codeAny (model prog w) A (.call (.ref C) ⟨vs,kw⟩) R s:=by
 obtain⟨hh,g,d,t,os⟩:=s;exact PySem.W.make_core (PySem.W.makes_of X hm) (PySem.W.looks_findIn X hi) (fun self=>PySem.W.bind_fn X self hf) (.inl rfl) h
end
def qe1(f:Str)(v:V):List (Str×V)->List (Str×V)
 | []=>[(f,v)]
 |(g,x)::r=>if g=f then(g,v)::r else(g,x)::qe1 f v r
theorem qet(f g:Str)(v:V):∀ fs:List (Str×V),(qe1 f v fs).lookup g=if g=f then some v else fs.lookup g
 | []=>by
  show List.lookup g [(f,v)]=_
  by_cases h:g=f
  · have hb:(g==f)=true:=waM.mpr h
    simp only[List.lookup,hb,wag h]
  · have hb:(g==f)=false:=waR.mpr h
    simp only[List.lookup,hb,wad h]
 |(k,x)::r=>by
  have ih:=qet f g v r;rw[show qe1 f v ((k,x)::r)=(if k=f then(k,v)::r else(k,x)::qe1 f v r)from rfl]
  by_cases hk:k=f
  · rw[wag hk]
    by_cases h:g=k
    · have hb:(g==k)=true:=waM.mpr h
      simp only[List.lookup,hb,wag (h.trans hk)]
    · have hb:(g==k)=false:=waR.mpr h
      simp only[List.lookup,hb,wad (fun e:g=f=>h (e.trans hk.symm))]
  · rw[wad hk]
    by_cases h:g=k
    · have hb:(g==k)=true:=waM.mpr h
      simp only[List.lookup,hb,wad (fun e:g=f=>hk (h.symm.trans e))]
    · have hb:(g==k)=false:=waR.mpr h
      simp only[List.lookup,hb];exact ih
theorem qeA(f:Str)(v:V):∀ fs:List (Str×V),f∈(qe1 f v fs).map (·.1)/\∀ g,g∈fs.map (·.1)->g∈(qe1 f v fs).map (·.1)
 | []=>⟨by simp[qe1],fun g h=>by simp at h⟩
 |(k,x)::r=>by
  obtain⟨i1,i2⟩:=qeA f v r;rw[show qe1 f v ((k,x)::r)=(if k=f then(k,v)::r else(k,x)::qe1 f v r)from rfl]
  by_cases hk:k=f
  · rw[wag hk]
    subst hk;exact⟨by simp,fun g h=>by simpa using h⟩
  · rw[wad hk]
    refine⟨?_,fun g h=>?_⟩
    · rw[wan]
      exact wat _ i1
    · rw[wan]at h ⊢
      rcases waH.mp h with e|e
      · exact waH.mpr (.inl e)
      · exact wat _ (i2 g e)
theorem qeu(f:Str)(v:V):∀ fs:List (Str×V),(qe1 f v fs).length<=fs.length+1
 | []=>by simp[qe1]
 |(k,x)::r=>by
  have ih:=qeu f v r;rw[show qe1 f v ((k,x)::r)=(if k=f then(k,v)::r else(k,x)::qe1 f v r)from rfl]
  by_cases hk:k=f
  · rw[wag hk,wal,wal];omega
  · rw[wad hk,wal,wal];omega
theorem RelO.some_of{v:V}{o:OVl}(r:RelO (some v) o):∃ u,o=some u/\RelV v u:=by
 cases o with
 |none=>exact(show False from r).elim
 |some u=>exact⟨u,rfl,r⟩
theorem RelO.none_of{o:OVl}(r:RelO none o):o=none:=by
 cases o with
 |none=>rfl
 |some u=>exact(show False from r).elim
theorem qlW{v:V}{u:Value}(r:RelV v u):PySem.W.handedIn u=true:=by
 cases v with
 |non=>cases(show u=Value.none from r);rfl
 |bl b=>cases(show u=Value.bool b from r);rfl
 |int i=>obtain⟨t,e⟩:=(show ∃ t,u=Value.int i t from r);cases e;rfl
 |str x=>obtain⟨t,e⟩:=(show ∃ t,u=Value.str x t from r);cases e;rfl
 |byt b=>obtain⟨t,e⟩:=(show ∃ t,u=Value.bytes b t from r);cases e;rfl
 |flt b=>obtain⟨t,e⟩:=(show ∃ t,u=Value.float b t from r);cases e;rfl
 |ref a=>cases(show u=Value.ref a from r);rfl
 |ty n=>cases(show u=Value.type n from r);rfl
section
variable {P:Program}{w:World}{H H':Hp}{h h':Heap}{a C dx:Addr}{fs fs':List (Str×V)}
theorem qf3(hok:HOk P w H h)(e:H a=some (.ins C dx fs)):∃ mA,ObjM h a dx C mA/\(∀ f,RelO (fs.lookup f) (mA f))/\PySem.Within mA (fs.map (·.1))/\fs.length<=1000/\H dx=some (.own a):=by
 obtain⟨d,z,ne,ob,mA,n,r,q⟩:=(show ObjOk P w H h a (.ins C dx fs)from hok a _ e)
 exact⟨mA,⟨ob,n,ne⟩,r,q,z,d⟩
end
structure Cls(K:Frg)(C:Addr):Prop where
 pg:wbt K C Str.empty=true
 hd:wbx K C=true
 po:PySem.W.plainOver K C=true
 sa:PySem.W.findIn K (.ref C) "__setattr__" =some (some (.builtin "object.__setattr__"))
theorem Cls.get{K:Frg}{C:Addr}(c:Cls K C)(f:Str):wbt K C f=true:=c.pg
def NoAttr(K:Frg)(C:Addr)(f:Str):Prop:=PySem.W.findIn K (.ref C) f=some none
theorem NoAttr.taker{K:Frg}{C:Addr}{f:Str}(n:NoAttr K C f):PySem.W.takerIn K C f=some none:=by
 unfold PySem.W.takerIn;rw[show PySem.W.findIn K (.ref C) f=some none from n]
 rfl
structure Con(K:Frg)(C:Addr)(f:Str)(v:V)(u:Value):Prop where
 at_:PySem.W.findIn K (.ref C) f=some (some u)
 rel:RelV v u
 get:PySem.W.specialIn K u "__get__" =some none
 cp:PySem.W.copiedNames.contains f=false
structure Meth(K:Frg)(C:Addr)(m:Str)(f:Addr):Prop where
 at_:PySem.W.findIn K (.ref C) m=some (some (.ref f))
 fn:PySem.W.isFn K (.ref f)=true
 kp:PySem.W.keepIn K (.ref f)=true
section
variable {X:Cx}{pins:LAO}{σ:St}{H:Hp}{s:Shared}{a C dx:Addr}{fs:List (Str×V)}{f:Str}{v:V}{A:Around}{E:VSP}
theorem qfr{b:Bool}{Q:VSP}(I:Inv X pins σ H s)(e:H a=some (.ins C dx fs))(c:Cls X.K C)(n:NoAttr X.K C f)(l:fs.lookup f=some v)
 (h:∀ u s',Inv X pins σ H s'->RelV v u->Q u s'):wpAny (model X.prog X.w) A (getAttr (.ref a) f b) Q E s:=by
 obtain⟨mA,O,r,_,_,_⟩:=qf3 I.hok e;obtain⟨u,hu,ru⟩:=RelO.some_of (v:=v) (o:=mA f) (by rw[<-l];exact r f)
 exact get_map I.kIn O (c.get f) c.hd n hu (qlW ru) (h u _ (I.tok _) ru)
theorem qfq{m:Str}{g:Addr}{pl:Sem Bool}{Q:Value×LVl->Shared->Prop}(I:Inv X pins σ H s)(e:H a=some (.ins C dx fs))(c:Cls X.K C)(k:Meth X.K C m g)(l:fs.lookup m=none)
 (h:Q (.ref g,[.ref a]) s):wpAny (model X.prog X.w) A (getMethod (.ref a) m pl) Q E s:=by
 obtain⟨mA,O,r,_,_,_⟩:=qf3 I.hok e;have hn:mA m=none:=RelO.none_of (by rw[<-l];exact r m)
 exact qnS I.kIn O (c.get m) k.at_ k.fn hn h
theorem qfg{y:V}{u:Value}{Q:Unit->Shared->Prop}(I:Inv X pins σ H s)(e:H a=some (.ins C dx fs))(c:Cls X.K C)(n:NoAttr X.K C f)(hl:fs.length<1000)(ry:RelV y u)
 (h:∀ s',Inv X pins σ (upd H a (.ins C dx (qe1 f y fs))) s'->Q () s'):wpAny (model X.prog X.w) A (setAttr (.ref a) f u) Q E s:=by
 obtain⟨mA,O,r,wi,_,ho⟩:=qf3 I.hok e;have hz:(fs.map (·.1)).length<=sizeLine:=by rw[waj,sizeLine_eq];omega
 refine qpz I.kIn O c.sa c.po n.taker c.hd wi hz fun h' O' sb=>h _ ?_
 have hd:∃ o,h'.get? dx=some o:=let⟨o,_,_,e',_⟩:=O'.ns;⟨o,e'⟩;refine I.write (x:=a) (e:=dx) (by rw[e];exact True.intro) (.inr ho) (fun b q hb z=>(sb.2 b hb).trans z) hd ?_
 refine⟨by rw[qaa O.ne];exact ho,?_,O.ne,O'.obj,_,O'.ns,fun g=>?_,fun g hg=>?_⟩
 · have:=qeu f y fs;omega
 · show RelO ((qe1 f y fs).lookup g) (if g=f then some u else mA g)
   rw[qet]
   by_cases q:g=f
   · rw[wag q,wag q];exact ry
   · rw[wad q,wad q];exact r g
 · by_cases q:g=f
   · rw[q];exact(qeA f y fs).1
   · refine(qeA f y fs).2 g (wi g fun z=>hg ?_)
     show(if g=f then some u else mA g)=none
     rw[wad q];exact z
theorem Inv.made(I:Inv X pins σ H s):Inv X pins σ (upd (upd H s.heap.objs.size (.own (s.heap.objs.size+1))) (s.heap.objs.size+1) (.ins C s.heap.objs.size []))
 { s with heap:=(s.heap.push waS).push (wbc C s.heap.objs.size) }:=by
 have e1:(s.heap.push waS).get? s.heap.objs.size=some waS:=wah s.heap rfl;have e2:((s.heap.push waS).push (wbc C s.heap.objs.size)).get? (s.heap.objs.size+1)=some (wbc C s.heap.objs.size):=by
  have:=wah (s.heap.push waS) (o:=wbc C s.heap.objs.size) rfl
  rwa [Heap.size_push]at this
 have e3:(s.heap.push waS).Ns s.heap.objs.size (fun _=>none):=⟨waS,#[],_,e1,rfl,(fun e he=>waI he (by simp)),fun _=>rfl⟩
 have I1:=I.laid (a:=s.heap.objs.size) (o:=.own (s.heap.objs.size+1)) (h':=s.heap.push waS) (t':=s.toks) (fun b u q=>wab _ q) (waf _) ⟨_,e1⟩
 refine I1.laid (a:=s.heap.objs.size+1) (o:=.ins C s.heap.objs.size []) (t':=s.toks) (fun b u q=>wab _ q) (Nat.le_of_eq (Heap.size_push _ _)) ?_
 have ne:s.heap.objs.size≠s.heap.objs.size+1:=waq (Nat.lt_succ_self _);refine⟨by rw[qaa ne,qag],wbi _,ne,e2,fun _=>none,(Heap.Ns1.of_empty e3).at fun o q=>wab _ q,fun _=>True.intro,fun y hy=>waI rfl hy⟩
theorem qmt{prog:Program}{w:World}{env:Env}{e:Expr}{f:Str}{pos:Pos}{s:Shared}{Q:VSP}(hb:attributeBase e f env (eval e env)=eval e env)
 (h:wpAny (model prog w) A (eval e env) (fun o s₁=>wpAny (model prog w) A (getAttr o f true) Q E s₁) E s):wpAny (model prog w) A (eval (.Attribute e f pos) env) Q E s:=
 Attribute_any_ h (by rw[arm_eval_Attribute,hb])
end
noncomputable def qCS (K:Frg)(ta:TE)(f:Str):TE:=fun σ H Q=>ta σ H fun x H1=>∃ a C dx fs v,x= .ref a/\H1 a=some (.ins C dx fs)/\Cls K C/\NoAttr K C f/\fs.lookup f=some v/\Q v H1
noncomputable def qDe (K:Frg)(ta tv:TE)(f:Str):TS:=fun D σ H=>tv σ H fun y H1=>ta σ H1 fun x H2=>∃ a C dx fs,x= .ref a/\H2 a=some (.ins C dx fs)/\Cls K C/\NoAttr K C f/\fs.length<1000/\
 D.nx σ (upd H2 a (.ins C dx (qe1 f y fs)))
def qBm(X:Cx)(op:Operator)(rd:V->V->Hp->VK->Prop):Prop:=
 ∀ (pins:LAO) (s:Shared) (σ:St) (H:Hp) (x y:V) (u v:Value) (Q:VK),Inv X pins σ H s->RelV x u->RelV y v->rd x y H Q->wpAny (model X.prog X.w) X.A (inplaceOp op u v) (EP X pins σ Q) X.xe s
noncomputable def qpB (K:Frg)(ta tv:TE)(rd:V->V->Hp->VK->Prop)(f:Str):TS:=fun D σ H=>ta σ H fun x H1=>∃ a C dx fs v,x= .ref a/\H1 a=some (.ins C dx fs)/\Cls K C/\NoAttr K C f/\fs.lookup f=some v/\
 tv σ H1 fun y H2=>rd v y H2 fun z H3=>∃ dx' fs',H3 a=some (.ins C dx' fs')/\fs'.length<1000/\D.nx σ (upd H3 a (.ins C dx' (qe1 f z fs')))
section
variable {X:Cx}{o e value:Expr}{f:Str}{pos pos' tpos:Pos}{ta tv:TE}
theorem qsU(he:PE X e ta)(hb:attributeBase e f X.env (eval e X.env)=eval e X.env):PE X (.Attribute e f pos) (qCS X.K ta f):=by
 intro pins s σ H Q I h;refine qmt hb (thn (he pins s σ H _ I h) fun u s1 zz=>?_);obtain⟨x,H1,I1,rx,a,C,dx,fs,v,ex,ea,c,n,l,q⟩:=zz
 subst ex;obtain rfl:u=Value.ref a:=rx;exact qfr I1 ea c n l fun u' s2 I2 ru=>⟨v,H1,I2,ru,q⟩
theorem qsK(ha:PE X o ta)(hv:PE X value tv)(hs:swapsWith value (some (.Attribute o f pos')) pos.line X.env=pure false):PS X (.Assign [.Attribute o f pos'] value pos) (qDe X.K ta tv f):=by
 intro pins s σ H D I h;refine plainObj_wpAny_Assign_Attribute (thn (hv pins s σ H _ I h) fun u s1 ⟨y,H1,I1,ry,q⟩=>thn (ha pins s1 σ H1 _ I1 q) fun ov s2 zz=>?_) hs;obtain⟨x,H2,I2,rx,a,C,dx,fs,ex,ea,c,n,l,q2⟩:=zz
 subst ex;obtain rfl:ov=Value.ref a:=rx;exact qfg I2 ea c n l ry fun s3 I3=>⟨σ,_,I3,q2⟩
theorem qkX{op:Operator}{rd:V->V->Hp->VK->Prop}(ha:PE X o ta)(hv:PE X value tv)(hop:qBm X op rd):PS X (.AugAssign (.Attribute o f tpos) op value pos) (qpB X.K ta tv rd f):=by
 intro pins s σ H D I h;refine wpAny_AugAssign_AttributeAny (thn (ha pins s σ H _ I h) fun ov s1 zz=>?_);obtain⟨x,H1,I1,rx,a,C,dx,fs,v,ex,ea,c,n,l,q⟩:=zz
 subst ex;obtain rfl:ov=Value.ref a:=rx;refine qfr I1 ea c n l fun u s2 I2 ru=>thn (hv pins s2 σ H1 _ I2 q) fun w3 s3 ⟨y,H2,I3,ry,q3⟩=>thn (hop pins s3 σ H2 v y u w3 _ I3 ru ry q3) fun w4 s4 zz=>?_;obtain⟨z,H3,I4,rz,dx',fs',ea',l',q4⟩:=zz
 exact qfg I4 ea' c n l' rz fun s5 I5=>⟨σ,_,I5,q4⟩
def qu2:V->V->Hp->VK->Prop:=fun x y H Q=>∃ i j,x= .int i/\y= .int j/\Q (.int (i+j)) H
theorem qtN:qBm X .Add qu2:=by
 rintro pins s σ H x y u v Q I rx ry ⟨i,j,rfl,rfl,q⟩;obtain⟨t,rfl⟩:=(show ∃ t,u=Value.int i t from rx)
 obtain⟨t',rfl⟩:=(show ∃ t',v=Value.int j t' from ry)
 exact PyProof.Rows.iadd_int ⟨.int (i+j),H,I.tok _,⟨_,rfl⟩,q⟩
end
section
variable {X:Cx}{pins:LAO}{σ:St}{H:Hp}{s:Shared}{A:Around}{E:VSP}{Q:VSP}{c:Value}{b:Bool}
inductive qmG(K:Frg)(H:Hp):V->Value->Prop where
 |non:qmG K H .non (.type "NoneType")
 |bl (x:Bool):qmG K H (.bl x) (.type "bool")
 |int (i:Int):qmG K H (.int i) (.type "int")
 |str (x:Str):qmG K H (.str x) (.type "str")
 |flt (x:UInt64):qmG K H (.flt x) (.type "float")
 |lst {a:Addr} {xs:LV} (e:H a=some (.lst xs)):qmG K H (.ref a) (.type "list")
 |frz {a:Addr} {o:Obj} {xs:LV} (e:H a=some (.frz o (.lst xs))):qmG K H (.ref a) (.type "list")
 |tup {a:Addr} {xs:LV} (e:H a=some (.tup xs)):qmG K H (.ref a) (.type "tuple")
 |dK {a:Addr} {kvs:List (Key×V)} (e:H a=some (.dK kvs)):qmG K H (.ref a) (.type "dict")
 |dT {a:Addr} {kvs:List (List qbE×V)} (e:H a=some (.dT kvs)):qmG K H (.ref a) (.type "dict")
 |ins {a C dx:Addr} {fs:List (Str×V)} (e:H a=some (.ins C dx fs)) (cl:Cls K C) (ha:PySem.W.findIn K (.ref C) "__class__" =some (some (.builtin "object.__class__")))
  (hn:PySem.W.specialIn K (.builtin "object.__class__") "__get__" =some (some (.builtin "getset_descriptor.__get__"))) (htk:PySem.W.takesIn K (.builtin "object.__class__")=some true)
  (hm:PySem.W.mroIn K C (.type "object")=some true):qmG K H (.ref a) (.ref C)
end
structure Room(k:Nat)(A:Around):Prop where
 hd:A.handled=none
 dp:A.depth+3*k+5<recursionLimit
 un:A.units+16*k+200<cLine
theorem Room.mono{j k:Nat}{A:Around}(r:Room k A)(h:j<=k):Room j A:=⟨r.hd,by have:=r.dp;omega,by have:=r.un;omega⟩
theorem Room.deeper{k:Nat}{A:Around}(r:Room (k+1) A)(env:Env):Room k (A.deeper env):=
 ⟨r.hd,by have:=r.dp;show A.depth+1+3*k+5<_;omega,by have:=r.un;show A.units+3+16*k+200<_;omega⟩
theorem qjK{A:Around}{C:Addr}{us:LVl}{kw:List (Str×Value)}:(A.under (.builtin "type.__call__" ⟨.ref C::us,kw⟩)).depth=A.depth+1:=by
 first|rfl|simp[Around.under,Code.weight,Code.isCreation,Code.isGuard,Code.isCaller,Code.frames,Code.isFrame,guardIds]
theorem qjJ{A:Around}{C:Addr}{us:LVl}{kw:List (Str×Value)}:(A.under (.builtin "type.__call__" ⟨.ref C::us,kw⟩)).units=A.units+1:=by
 first|rfl|simp[Around.under,Code.cUnits,Code.frames,Code.isFrame]
theorem Room.make{k:Nat}{A:Around}(r:Room (k+1) A)(C:Addr)(us:LVl)(kw:List (Str×Value)):Room k (A.under (.builtin "type.__call__" ⟨.ref C::us,kw⟩)):=
 ⟨r.hd,by have:=r.dp;rw[qjK];omega,by have:=r.un;rw[qjJ];omega⟩
theorem Room.depth{k:Nat}{A:Around}(r:Room k A):A.depth<recursionLimit:=by have:=r.dp;omega
theorem Room.units{k:Nat}{A:Around}(r:Room k A):A.units+64<cLine:=by have:=r.un;omega
def quT:TA:=fun _ H Q=>Q [] H
def qvG(ta:TE)(tr:TA):TA:=fun σ H Q=>ta σ H fun x H1=>tr σ H1 fun xs H2=>Q (x::xs) H2
section
variable {X:Cx}{e:Expr}{es:LEx}{te:TE}{t:TA}{pos:Pos}
theorem qsX:PA X [] quT:=fun _ _ _ _ H Q I h=>Calls.spliced_nil ⟨[],H,I,.nil,h⟩
theorem qqd(ha:PE X e te)(hr:PA X es t)(hs:starEach (e::es) X.env=(false,eval e X.env)::starEach es X.env:=by rfl):PA X (e::es) (qvG te t):=by
 intro pos pins s σ H Q I h;rw[hs];show wpAny _ _ (spliced ((false,eval e X.env)::backTo pos (starEach es X.env))) _ _ s;refine Calls.spliced_cons (thn (ha pins s σ H _ I h) fun u s1 zz=>?_);obtain⟨x,H1,I1,r1,q1⟩:=zz
 exact thn (hr pos pins s1 σ H1 _ I1 q1) fun us s2 ⟨xs,H2,I2,r2,q2⟩=>⟨x::xs,H2,I2,.cons r1 r2,q2⟩
def qCJ(t:TA):TE:=fun σ H Q=>t σ H fun xs H1=>xs.length<=sizeLine/\∀ p,H1 p=none->Q (.ref p) (upd H1 p (.tup xs))
def qCP(t:TA):TE:=fun σ H Q=>t σ H fun xs H1=>xs.length<=sizeLine/\∀ p,H1 p=none->Q (.ref p) (upd H1 p (.lst xs))
theorem qsP{x1}(h:PA X es t):PE X (.Tuple es x1 pos) (qCJ t):=by
 intro pins s σ H Q I hq;refine wpAny_Tuple_spliced (thn (h pos pins s σ H _ I hq) fun us s1 ⟨xs,H1,I1,r,z,q⟩=>⟨by rw[<-r.length];exact z,?_⟩)
 have hf:H1 s1.heap.objs.size=none:=I1.hok.fresh (waf _);refine⟨.ref s1.heap.objs.size,upd H1 s1.heap.objs.size (.tup xs),I1.laid (t':=s1.toks) (fun b u e=>wab _ e) (waf _) ?_,rfl,q _ hf⟩
 exact⟨z,us,r,⟨_,wah _ rfl,rfl,_,rfl⟩⟩
theorem qoE(h:PA X es t):PE X (.List es pos) (qCP t):=by
 intro pins s σ H Q I hq;refine wpAny_List_spliced (thn (h pos pins s σ H _ I hq) fun us s1 ⟨xs,H1,I1,r,z,q⟩=>⟨by rw[<-r.length];exact z,?_⟩)
 have hf:H1 s1.heap.objs.size=none:=I1.hok.fresh (waf _);refine⟨.ref s1.heap.objs.size,upd H1 s1.heap.objs.size (.lst xs),I1.laid (t':=s1.toks) (fun b u e=>wab _ e) (waf _) ?_,rfl,q _ hf⟩
 exact⟨z,us,0,r,wah _ rfl⟩
end
abbrev Sp:=LV->Hp->VK->XK->Prop
abbrev CXT:=List Env->Hp->Shared->XK->VSP
structure Env0(P:Program)(w:World)(K:Frg)(mg:SOV)(base:Heap)(A:Around)(outer:List Env)(s:Shared)(H:Hp):Prop where
 frames:A.frames=some outer
 mod:Mod K mg base
 bs:∀ b o,base.get? b=some o->s.heap.get? b=some o/\H b=none
 bsz:base.objs.size<=s.heap.objs.size
 funs:s.heap.FunFrames base outer
 frf:∀ b∈frs outer,H b=none
 hok:HOk P w H s.heap
 bare:AllBare s.gens
def CE(outer:List Env)(P:Program)(w:World)(H:Hp)(s:Shared)(Q:VK)(u:Value)(s':Shared):Prop:=
 ∃ v H',s'.os=s.os/\AllBare s'.gens/\Un (frs outer) [] H H' s.heap s'.heap/\HOk P w H' s'.heap/\RelV v u/\Q v H'
def CR(CX:CXT)(outer:List Env)(P:Program)(w:World)(H:Hp)(s:Shared)(Q:VK)(E:XK)(r:Result)(s':Shared):Prop:=
 match r with
 | .ok (.ret u)=>CE outer P w H s Q u s'
 | .ok _=>False
 | .error e=>CX outer H s E e s'
structure qc4(P:Program)(w:World)(K:Frg)(mg:SOV)(base:Heap)(CX:CXT)(k:Nat)(f:Addr)(fd:FuncData)(ps:LSt)(sp:Sp):Prop where
 len:∀ vs H Q E,sp vs H Q E->vs.length=ps.length
 run:∀ (A:Around) (outer:List Env) (s:Shared) (H:Hp) (args:Args) (us:LVl) (vs:LV) (Q:VK) (E:XK),Room k A->Env0 P w K mg base A outer s H->BindsTo s fd args (ps.zip us)->Vals vs us->sp vs H Q E->
  codeAny (model P w) A (.call (.ref f) args) (CR CX outer P w H s Q E) s
theorem Env0.make{P:Program}{w:World}{K:Frg}{mg:SOV}{base:Heap}{A:Around}{outer:List Env}{s:Shared}{H:Hp}(e:Env0 P w K mg base A outer s H)(C:Addr)(us:LVl)(kw:List (Str×Value)):
 Env0 P w K mg base (A.under (.builtin "type.__call__" ⟨.ref C::us,kw⟩)) outer s H:=⟨by first|exact e.frames|(simpa[Around.under,Code.envs,Code.isFrame,pushEnvs]using e.frames),e.mod,e.bs,e.bsz,e.funs,e.frf,e.hok,e.bare⟩
section
variable {X:Cx}{pins:LAO}{σ:St}{H:Hp}{s s':Shared}
theorem Inv.env0(I:Inv X pins σ H s):Env0 X.prog X.w X.K X.mg X.base X.A X.stack s H:=
 ⟨I.ok.frames,I.ok.mod,I.bs,was I.ok.bsz I.sz,I.stack,I.stkFree,I.hok,I.bare⟩
theorem Inv.after{Q:VK}{u:Value}(I:Inv X pins σ H s)(h:CE X.stack X.prog X.w H s Q u s'):EP X pins σ Q u s':=by
 obtain⟨v,H',os,bare,un,hok,r,q⟩:=h;obtain⟨hh,g,d,t,os'⟩:=s';obtain rfl:os'=s.os:=os;exact⟨v,H',I.call (h':=hh) (g':=g) (d':=d) (t':=t) (ch:=[]) un hok bare (fun b z=>waI z (by simp)),r,q⟩
end
def qrZ(sp:Sp)(dvs:LV)(E:XK)(t:TA):TE:=fun σ H Q=>t σ H fun vs H1=>sp (vs++dvs) H1 Q E
noncomputable def qpt (C:Addr)(m:Str)(sp:Sp)(dvs:LV)(E:XK)(ta:TE)(t:TA):TE:=fun σ H Q=>ta σ H fun x H1=>∃ a dx fs,x= .ref a/\H1 a=some (.ins C dx fs)/\fs.lookup m=none/\
 t σ H1 fun vs H2=>sp (x::(vs++dvs)) H2 Q E
noncomputable def qrU (C:Addr)(sp:Sp)(dvs:LV)(E:XK)(t:TA):TE:=fun σ H Q=>t σ H fun vs H1=>∀ x dx,H1 x=none->H1 dx=none->dx≠x->
 sp (.ref x::(vs++dvs)) (upd (upd H1 dx (.own x)) x (.ins C dx [])) (fun v H2=>v= .non/\Q (.ref x) H2) E
def Binds(K:Frg)(fd:FuncData)(ps:LSt)(ds:LVl):Prop:=
 ∀ (s:Shared) (us:LVl),K.In s.heap->(us++ds).length=ps.length->BindsTo s fd ⟨us,[]⟩ (ps.zip (us++ds))
theorem Binds.all{K:Frg}{fd:FuncData}{ps:LSt}(h:∀ us:LVl,us.length=ps.length->bindArgs fd ⟨us,[]⟩=pure (ps.zip us)):Binds K fd ps []:=fun s us _ hl=>by
 rw[wbn]at hl ⊢;exact .of_eq (h us hl)
def Passes(CX:CXT)(X:Cx)(E:XK):Prop:=∀ (pins:LAO) (σ:St) (H:Hp) (s:Shared) (e:Value) (s':Shared),Inv X pins σ H s->CX X.stack H s E e s'->X.xe e s'
section
variable {X:Cx}{CX:CXT}{k:Nat}{f C:Addr}{fd:FuncData}{ps:LSt}{sp:Sp}{dvs:LV}{ds:LVl}{E:XK}{x m:Str}{p pos apos:Pos}{e o:Expr}{es:LEx}{ta:TE}{t:TA}
theorem qgK{pins:LAO}{σ:St}{H:Hp}{s:Shared}{Q:VK}{us:LVl}{vs:LV}(F:qc4 X.prog X.w X.K X.mg X.base CX k f fd ps sp)(hr:Room k X.A)(hb:Binds X.K fd ps ds)(hd:Vals dvs ds)(hx:Passes CX X E)
 (I:Inv X pins σ H s) (r:Vals vs us) (h:sp (vs++dvs) H Q E):wpAny (model X.prog X.w) X.A (call (.ref f) us) (EP X pins σ Q) X.xe s:=by
 have r2:Vals (vs++dvs) (us++ds):=r.append hd;have hl:(us++ds).length=ps.length:=by rw[<-r2.length];exact F.len _ _ _ _ h
 refine wpAny_call (codeAny_mono (F.run X.A X.stack s H ⟨us,[]⟩ (us++ds) (vs++dvs) Q E hr I.env0 (hb s us I.kIn hl) r2 h) fun r s' hq=>?_)
 cases r with
 |error e=>exact hx pins σ H s e s' I hq
 |ok fl=>
  cases fl with
  |ret u=>exact I.after hq
  |next=>exact False.elim hq
  |brk=>exact False.elim hq
  |cont=>exact False.elim hq
theorem qqb(F:qc4 X.prog X.w X.K X.mg X.base CX k f fd ps sp)(hr:Room k X.A)(hg:Gl X x)(hm:X.mg x=some (.ref f))(hk:PySem.W.keepIn X.K (.ref f)=true)(hb:Binds X.K fd ps ds)(hd:Vals dvs ds)(hx:Passes CX X E)
 (ha:PA X (e::es) t) (hdb:(x==("__debug__":Str))=false:=by decide) (he:starEach (e::es) X.env=(false,eval e X.env)::starEach es X.env:=by rfl) (hpl:(backTo pos (starEach es X.env)).any (·.1)=false:=by rfl):
 PE X (.Call (.Name x p) (e::es) [] pos) (qrZ sp dvs E t):=by
 intro pins s σ H Q I h;refine wpAny_Call_Name_kw (qb8 I hg hm ?_ hdb);refine wbv (h₀:=X.base) I.ok.mod.kin hk (thn (ha pos pins s σ H _ I h) fun us s1 ⟨vs,H1,I1,r,q⟩=>⟨I1.kIn,?_⟩) he hpl
 exact qgK F hr hb hd hx I1 r q
theorem qns(F:qc4 X.prog X.w X.K X.mg X.base CX k f fd ps sp)(hr:Room k X.A)(hg:Gl X x)(hm:X.mg x=some (.ref f))(hk:PySem.W.keepIn X.K (.ref f)=true)(hb:Binds X.K fd ps ds)(hd:Vals dvs ds)(hx:Passes CX X E)
 (hdb:(x==("__debug__":Str))=false:=by decide):PE X (.Call (.Name x p) [] [] pos) (qrZ sp dvs E quT):=by
 intro pins s σ H Q I h;refine wpAny_Call_Name_kw (qb8 I hg hm ?_ hdb);exact PySem.W.callWith_K0 I.kIn hk (qgK (us:=[]) F hr hb hd hx I .nil h)
theorem qp6{pl:Sem Bool}(he:PE X o ta)(c:Cls X.K C)(hm:Meth X.K C m f)(F:qc4 X.prog X.w X.K X.mg X.base CX k f fd ps sp)(hr:Room k X.A)(hb:Binds X.K fd ps ds)(hd:Vals dvs ds)(hx:Passes CX X E)(ha:PA X (e::es) t)
 (hst:starEach (e::es) X.env=(false,eval e X.env)::starEach es X.env:=by rfl) (hpl:(backTo pos (starEach es X.env)).any (·.1)=false:=by rfl)
 (ht:eval (.Call (.Attribute o m apos) (e::es) [] pos) X.env=(do
  let ov<-eval o X.env
  standAt apos.atName
  let(f,first) <-holding [ov] (getMethod ov m pl)
  callWith pos f first (backTo pos (starEach (e::es) X.env)) (backToKw pos (keywordEach [] X.env))):=by rfl):
 PE X (.Call (.Attribute o m apos) (e::es) [] pos) (qpt C m sp dvs E ta t):=by
 intro pins s σ H Q I h;refine PySem.W.methodCall_KW (pl:=pl) (thn (he pins s σ H _ I h) fun u s1 zz=>?_) ht;obtain⟨x,H1,I1,rx,a,dx,fs,ex,ea,l,q⟩:=zz
 subst ex;obtain rfl:u=Value.ref a:=rx;refine qfq I1 ea c hm l ?_;refine wbv (first:=[.ref a]) (h₀:=X.base) I.ok.mod.kin hm.kp (thn (ha pos pins s1 σ H1 _ I1 q) fun us s2 ⟨vs,H2,I2,r,q2⟩=>⟨I2.kIn,?_⟩) hst hpl
 exact qgK (us:=.ref a::us) (vs:=.ref a::vs) F hr hb hd hx I2 (.cons rfl r) q2
theorem qnj{pl:Sem Bool}(he:PE X o ta)(c:Cls X.K C)(hm:Meth X.K C m f)(F:qc4 X.prog X.w X.K X.mg X.base CX k f fd ps sp)(hr:Room k X.A)(hb:Binds X.K fd ps ds)(hd:Vals dvs ds)(hx:Passes CX X E)
 (ht:eval (.Call (.Attribute o m apos) [] [] pos) X.env=(do
  let ov<-eval o X.env
  standAt apos.atName
  let(f,first) <-holding [ov] (getMethod ov m pl)
  callWith pos f first (backTo pos (starEach [] X.env)) (backToKw pos (keywordEach [] X.env))):=by rfl):
 PE X (.Call (.Attribute o m apos) [] [] pos) (qpt C m sp dvs E ta quT):=by
 intro pins s σ H Q I h;refine PySem.W.methodCall_KW (pl:=pl) (thn (he pins s σ H _ I h) fun u s1 zz=>?_) ht;obtain⟨x,H1,I1,rx,a,dx,fs,ex,ea,l,q⟩:=zz
 subst ex;obtain rfl:u=Value.ref a:=rx;refine qfq I1 ea c hm l ?_;exact PySem.W.callWith_K0 (first:=[.ref a]) I1.kIn hm.kp (qgK (us:=[.ref a]) (vs:=[.ref a]) F hr hb hd hx I1 (.cons rfl .nil) q)
structure Mk(K:Frg)(C f:Addr):Prop where
 makes:PySem.W.makesIn K C=true
 init:PySem.W.findIn K (.ref C) "__init__" =some (some (.ref f))
 fn:PySem.W.isFn K (.ref f)=true
 kp:PySem.W.keepIn K (.ref C)=true
theorem qiU{pins:LAO}{σ:St}{H:Hp}{s:Shared}{Q:VK}{us:LVl}{vs:LV}(M:Mk X.K C f)(F:qc4 X.prog X.w X.K X.mg X.base CX k f fd ps sp)(hr:Room (k+1) X.A)(hb:Binds X.K fd ps ds)(hd:Vals dvs ds)
 (hx:Passes CX X E) (I:Inv X pins σ H s) (r:Vals vs us)
 (h:∀ x dx,H x=none->H dx=none->dx≠x->sp (.ref x::(vs++dvs)) (upd (upd H dx (.own x)) x (.ins C dx [])) (fun v H2=>v= .non/\Q (.ref x) H2) E):
 wpAny (model X.prog X.w) X.A (call (.ref C) us) (EP X pins σ Q) X.xe s:=by
 have hq:=h (s.heap.objs.size+1) s.heap.objs.size (I.hok.fresh (Nat.le_succ _)) (I.hok.fresh (waf _)) (waq (Nat.lt_succ_self _));have I2:=Inv.made (C:=C) I;have r2:Vals (V.ref (s.heap.objs.size+1)::(vs++dvs)) (Value.ref (s.heap.objs.size+1)::(us++ds)):=.cons rfl (r.append hd);have hl:(Value.ref (s.heap.objs.size+1)::us++ds).length=ps.length:=by
  have e:=r2.length;rw[F.len _ _ _ _ hq]at e;exact e.symm
 refine wpAny_call (qnD (f:=f) I.kIn M.makes M.init (waM.mp M.fn) (codeAny_mono (F.run _ X.stack _ _ ⟨Value.ref (s.heap.objs.size+1)::us,[]⟩ (Value.ref (s.heap.objs.size+1)::(us++ds)) _ _ E (hr.make C us [])
  (I2.env0.make C us []) (hb _ (Value.ref (s.heap.objs.size+1)::us) I2.kIn hl) r2 hq) fun r s' hq'=>?_))
 cases r with
 |error e=>exact hx pins σ _ _ e s' I2 hq'
 |ok fl=>
  cases fl with
  |ret u=>
   obtain⟨v,H',I3,rv,ev,q3⟩:=I2.after hq';subst ev;exact⟨rv,⟨V.ref (s.heap.objs.size+1),H',I3,rfl,q3⟩⟩
  |next=>exact False.elim hq'
  |brk=>exact False.elim hq'
  |cont=>exact False.elim hq'
theorem qp7(M:Mk X.K C f)(F:qc4 X.prog X.w X.K X.mg X.base CX k f fd ps sp)(hr:Room (k+1) X.A)(hg:Gl X x)(hm:X.mg x=some (.ref C))(hb:Binds X.K fd ps ds)(hd:Vals dvs ds)(hx:Passes CX X E)
 (ha:PA X (e::es) t) (hdb:(x==("__debug__":Str))=false:=by decide) (he:starEach (e::es) X.env=(false,eval e X.env)::starEach es X.env:=by rfl) (hpl:(backTo pos (starEach es X.env)).any (·.1)=false:=by rfl):
 PE X (.Call (.Name x p) (e::es) [] pos) (qrU C sp dvs E t):=by
 intro pins s σ H Q I h;refine wpAny_Call_Name_kw (qb8 I hg hm ?_ hdb);refine wbv (h₀:=X.base) I.ok.mod.kin M.kp (thn (ha pos pins s σ H _ I h) fun us s1 ⟨vs,H1,I1,r,q⟩=>⟨I1.kIn,?_⟩) he hpl
 exact qiU M F hr hb hd hx I1 r q
theorem qnk(M:Mk X.K C f)(F:qc4 X.prog X.w X.K X.mg X.base CX k f fd ps sp)(hr:Room (k+1) X.A)(hg:Gl X x)(hm:X.mg x=some (.ref C))(hb:Binds X.K fd ps ds)(hd:Vals dvs ds)(hx:Passes CX X E)
 (hdb:(x==("__debug__":Str))=false:=by decide):PE X (.Call (.Name x p) [] [] pos) (qrU C sp dvs E quT):=by
 intro pins s σ H Q I h;refine wpAny_Call_Name_kw (qb8 I hg hm ?_ hdb);exact PySem.W.callWith_K0 I.kIn M.kp (qiU (us:=[]) M F hr hb hd hx I .nil h)
end
section
variable {X:Cx}{CX:CXT}{k:Nat}{f C:Addr}{fd:FuncData}{ps ks:LSt}{sp:Sp}{E:XK}{x m:Str}{p pos apos kpos:Pos}{e o:Expr}{es:LEx}{kws:List Keyword}{te ta:TE}{t tk:TA}{nm:Option Str}
structure qBl(K:Frg)(fd:FuncData)(ps ks:LSt)(g:LVl->LVl->LVl)(gV:LV->LV->LV):Prop where
 to:∀ (s:Shared) (us ws:LVl),K.In s.heap->(g us ws).length=ps.length->BindsTo s fd ⟨us,ks.zip ws⟩ (ps.zip (g us ws))
 rel:∀ {vs:LV} {us:LVl} {zs:LV} {ws:LVl},Vals vs us->Vals zs ws->Vals (gV vs zs) (g us ws)
variable {g:LVl->LVl->LVl}{gV:LV->LV->LV}
end
structure qdn(N P:LSt)(sc:Scope):Prop where
 kind:sc.kind= .function
 co:sc.isCoroutine=false
 gen:sc.isGenerator=false
 nd:N.Nodup
 pre:N.take P.length=P
 par:∀ x∈P,sc.names.lookup x=some .local∨sc.names.lookup x=some .cell
 nofree:∀ y∈sc.names,y.2≠.free
theorem qhC{kindOf:Str->Option NameKind}{x:Str}:∀ {binds:List (Str×Value)} {m:SOV},(∀ v,(x,v)∉binds)->bindL kindOf binds m x=m x
 | [],_,_=>rfl
 |(n,v)::r,m,h=>by
  unfold bindL;rw[qhC fun w hw=>h w (wat _ hw)]
  split
  · have:x≠n:=by rintro rfl;exact h v waz
    simp[this]
  · rfl
theorem qhE{kindOf:Str->Option NameKind}{x:Str}:∀ {binds:List (Str×Value)} {m:SOV},(∀ v,(x,v)∉binds)->bindC kindOf binds m x=m x
 | [],_,_=>rfl
 |(n,v)::r,m,h=>by
  unfold bindC;rw[qhE fun w hw=>h w (wat _ hw)]
  split
  · rfl
  · have:x≠n:=by rintro rfl;exact h v waz
    simp[this]
theorem qhD{kindOf:Str->Option NameKind}{x:Str}{v:Value}:∀ {P:LSt} {vs:LVl} {i:Nat} {m:SOV},P.Nodup->P[i]? =some x->vs[i]? =some v->kindOf x=some .local->
 bindL kindOf (P.zip vs) m x=some v
 | [],_,_,_,_,h,_,_=>by simp at h
 |_::_,[],_,_,_,_,h,_=>by simp at h
 |p::P,w::vs,0,m,nd,h1,h2,hk=>by
  simp at h1 h2;subst h1;subst h2;show bindL kindOf ((p,w)::P.zip vs) m p=_;unfold bindL;rw[qhC fun v hv=>(waU.mp nd).1 (List.of_mem_zip hv).1,wag hk]
  simp
 |p::P,w::vs,i+1,m,nd,h1,h2,hk=>by
  show bindL kindOf ((p,w)::P.zip vs) m x=_;unfold bindL;exact qhD (i:=i) (waU.mp nd).2 (by simpa using h1) (by simpa using h2) hk
theorem qhF{kindOf:Str->Option NameKind}{x:Str}{v:Value}:∀ {P:LSt} {vs:LVl} {i:Nat} {m:SOV},P.Nodup->P[i]? =some x->vs[i]? =some v->kindOf x≠some .local->
 bindC kindOf (P.zip vs) m x=some v
 | [],_,_,_,_,h,_,_=>by simp at h
 |_::_,[],_,_,_,_,h,_=>by simp at h
 |p::P,w::vs,0,m,nd,h1,h2,hk=>by
  simp at h1 h2;subst h1;subst h2;show bindC kindOf ((p,w)::P.zip vs) m p=_;unfold bindC;rw[qhE fun v hv=>(waU.mp nd).1 (List.of_mem_zip hv).1,wad hk]
  simp
 |p::P,w::vs,i+1,m,nd,h1,h2,hk=>by
  show bindC kindOf ((p,w)::P.zip vs) m x=_;unfold bindC;exact qhF (i:=i) (waU.mp nd).2 (by simpa using h1) (by simpa using h2) hk
def start(N:LSt)(vs:LV):St:=vs.map some++List.replicate (N.length-vs.length) none
noncomputable def qo7 (CX:CXT)(P:Program)(w:World)(K:Frg)(mg:SOV)(base:Heap)(N:LSt)(qual:Str)(scope:Scope)(f:Addr)(cd:Value)(A:Around)(outer:List Env)(s:Shared)(H:Hp)(E:XK):Cx where
 prog:=P
 w:=w
 K:=K
 mg:=mg
 base:=base
 A:=A.deeper (envOfC qual scope s.heap.objs.size f cd)
 N:=N
 s₀:=s
 H₀:=H
 env:=envOfC qual scope s.heap.objs.size f cd
 outer:=outer
 stack:=envOfC qual scope s.heap.objs.size f cd::outer
 ex:=[]
 calm:=true
 fn:=fun _=>true
 pn:=[]
 xe:=fun e s'=>wpAny (model P w) (A.deeper (envOfC qual scope s.heap.objs.size f cd)) (leaving (envOfC qual scope s.heap.objs.size f cd) e) (fun _ s''=>CX outer H s E e s'') (fun e' s''=>CX outer H s E e' s'') s'
theorem qjl{sc:Scope}{n:Nat}{x:Str}(h:sc.names.lookup x=some .cell):∃ c,(cellsFrom n sc.names []).lookup x=some c:=by
 have q:=PySem.W.cellsFrom_some sc.names n [] (.inl h);exact wbe.mp q
theorem qlE{CX:CXT}{P:Program}{w:World}{K:Frg}{mg:SOV}{base:Heap}{N ps:LSt}{qual:Str}{scope:Scope}{f:Addr}{cd:Value}{A:Around}{outer:List Env}{s s1:Shared}{H:Hp}{E:XK}{us:LVl}{vs:LV}
 (S:qdn N ps scope) (hd:A.handled=none) (e0:Env0 P w K mg base A outer s H) (hl:vs.length=ps.length) (r:Vals vs us)
 (x:InCallC s s.heap.objs.size (bindL (envOfC qual scope s.heap.objs.size f cd).kindOf (ps.zip us) fun _=>none) (cellsFrom (s.heap.objs.size+1) scope.names []) (bindC (envOfC qual scope s.heap.objs.size f cd).kindOf (ps.zip us) fun _=>none) s1):
 Inv (qo7 CX P w K mg base N qual scope f cd A outer s H E) [] (start N vs) H s1:=by
 have hpl:ps.length<=N.length:=by have:=congrArg List.length S.pre;rw[List.length_take]at this;omega
 obtain⟨h1,tk,rfl,hk⟩:=x.done;have noA:∀ b:Addr,b∉(qo7 CX P w K mg base N qual scope f cd A outer s H E).ex:=fun b z=>waI (show b∈([]:List Addr)from z) (by simp)
 refine⟨⟨e0.mod,S.kind,rfl,rfl,waf _,fun y z c h1 h2=>?_,fun y hy=>?_,fun y c _ h=>?_,fun _=>hd,Around.frames_deeper e0.frames,.inr ⟨rfl,rfl⟩,fun b z=>waI z (noA b),e0.bs,e0.bsz,fun b _ _=>noA b,fun b z=>waI z (noA b),e0.funs,e0.frf⟩,
  rfl,e0.bare,Un.kept hk,⟨_,x.toInCall.ns,fun i y v h1 h2 h3=>?_⟩,fun y c h=>⟨_,x.cell y c h⟩,e0.hok.fresh (waf _),fun y c h=>?_,fun p hp=>waI (show p∈([]:LAO)from hp) (by simp),e0.hok.kept hk,?_⟩
 · exact name_of_addr x.apart (PySem.mem_of_lookup h1) (PySem.mem_of_lookup h2)
 · have hy:scope.names.lookup y=some .cell∨scope.names.lookup y=some .free:=hy
   rcases hy with hy|hy
   · exact qjl hy
   · exact waI rfl (S.nofree _ (PySem.mem_of_lookup hy))
 · exact wbm (x.above y c (PySem.mem_of_lookup h))
 · have hi:i<vs.length:=by
    unfold start at h2
    by_cases hi:i<vs.length
    · exact hi
    · rw[List.getElem?_append_right (by simpa using hi)]at h2
      rw[List.getElem?_replicate]at h2;split at h2<;>cases h2
   have ha:vs[i]? =some v:=by
    unfold start at h2;rw[waK (by simpa using hi),wau]at h2
    cases e:vs[i]? with
    |none=>rw[e]at h2;cases h2
    |some a=>rw[e]at h2;cases h2;rfl
   obtain⟨u,hu,rv⟩:=r.get ha;have hp:ps[i]? =some y:=by
    rw[<-S.pre,List.getElem?_take_of_lt (by omega)];exact h1
   have ndP:ps.Nodup:=by rw[<-S.pre];exact S.nd.sublist (List.take_sublist _ _)
   refine⟨u,rv,?_⟩;rcases S.par y (waF hp)with k|k
   · exact .inl ⟨k,qhD ndP hp hu k⟩
   · obtain⟨c,e⟩:=qjl (n:=s.heap.objs.size+1) k
     refine .inr ⟨.inl k,c,e,?_⟩;have q:=x.cell y c e;rw[qhF ndP hp hu (by show scope.names.lookup y≠_;rw[k];decide)]at q
     exact q
 · exact e0.hok.fresh (wbm (x.above y c (PySem.mem_of_lookup h)))
 · unfold start
   show _=N.length;rw[waC,waj,wbo];omega
theorem qxo{CX:CXT}{P:Program}{w:World}{K:Frg}{mg:SOV}{base:Heap}{k:Nat}{f:Addr}{name qual:Str}{params:Arguments}{body:List Stmt}{scope:Scope}{dV kV doc pm cdv ct oc:Value}{an od:Option Addr}
 {osl:Array (OVl)} {N ps:LSt} {sp:Sp} (lk:K.lookup f=some ⟨oc,od,.func (PySem.W.fnOf name qual params body scope dV kV doc pm an cdv ct),osl⟩) (hcd:PySem.W.codeIn K cdv qual=true) (S:qdn N ps scope)
 (len:∀ vs H Q E,sp vs H Q E->vs.length=ps.length)
 (hbody:∀ (A:Around) (outer:List Env) (s:Shared) (H:Hp) (vs:LV) (Q:VK) (E:XK),Room k (A.deeper (envOfC qual scope s.heap.objs.size f cdv))->sp vs H Q E->
  ∃ t,PSs (qo7 CX P w K mg base N qual scope f cdv A outer s H E) body t/\t { nx:=fun _ H'=>Q .non H',rt:=Q } (start N vs) H):
 qc4 P w K mg base CX (k+1) f (PySem.W.fnOf name qual params body scope dV kV doc pm an cdv ct) ps sp:=by
 refine⟨len,fun A outer s H args us vs Q E hr e0 hb r hsp=>?_⟩
 have hl:=len _ _ _ _ hsp;have KX:K.In s.heap:=e0.mod.kin.keeps fun b o e=>(e0.bs b o e).1
 have lim:s.heap.NoLimit:=e0.mod.nolimit.keeps fun b o e=>(e0.bs b o e).1
 have hkind:∀ y∈ps.zip us,scope.names.lookup y.1=some .local∨(scope.names.lookup y.1=some .cell/\((cellsFrom (s.heap.objs.size+1) scope.names []).lookup y.1).isSome=true):=fun⟨n,v⟩ hy=>by
  rcases S.par n (List.of_mem_zip hy).1 with q|q
  · exact .inl q
  · exact .inr ⟨q,PySem.W.cellsFrom_some _ _ _ (.inl q)⟩
 refine codeAny_call_function hr.depth (KX _ _ lk) rfl S.co S.gen rfl (PySem.W.codeRec_of KX hcd) (hb _ _ _ _ ?_);refine wpAny_newFunctionEnv_cells S.kind hkind fun env he s1 x=>?_
 subst he;refine⟨lim.keeps x.toInCall.keep,codeAny_func ?_⟩;obtain⟨t,ht,hq⟩:=hbody A outer s H vs Q E (hr.deeper _) hsp;have I:Inv (qo7 CX P w K mg base N qual scope f cdv A outer s H E) [] (start N vs) H s1:=qlE S hr.hd e0 hl r x;refine wa3 (ht [] s1 (start N vs) H _ I hq) (fun fl s' hs=>?_) fun e s' hs=>hs
 have fin:∀ {σ':St} {H':Hp} {v:V} {u:Value},Inv (qo7 CX P w K mg base N qual scope f cdv A outer s H E) [] σ' H' s'->RelV v u->Q v H'->CE outer P w H s Q u s':=
  fun {σ' H' v u} J rv q=>⟨v,H',J.os,J.bare,J.base,J.hok,rv,q⟩
 cases fl with
 |ret u=>
  obtain⟨v,σ',H',J,rv,q⟩:=hs;exact fin J rv q
 |next=>
  obtain⟨σ',H',J,q⟩:=hs;exact fin (v:=V.non) (u:=Value.none) J rfl q
 |brk=>
  obtain⟨_,_,_,q⟩:=hs;exact False.elim q
 |cont=>
  obtain⟨_,_,_,q⟩:=hs;exact False.elim q
section
variable {X:Cx}{x:Str}{p pos:Pos}{e:Expr}{es:LEx}{t:TA}{id T:String}{r:LV->Hp->VK->Prop}
def tCB(r:LV->Hp->VK->Prop)(t:TA):TE:=fun σ H Q=>t σ H fun vs H1=>r vs H1 Q
theorem qnr(hc:qaQ X (.builtin id) r)(hg:Gl X x)(hm:X.mg x=none)(hv:bootBuiltins x=some (.builtin id))(ha:PA X (e::es) t)(hn:x≠"__name__":=by decide)(hdb:(x==("__debug__":Str))=false:=by decide)
 (he:starEach (e::es) X.env=(false,eval e X.env)::starEach es X.env:=by rfl) (hpl:(backTo pos (starEach es X.env)).any (·.1)=false:=by rfl):PE X (.Call (.Name x p) (e::es) [] pos) (tCB r t):=by
 intro pins s σ H Q I h;refine wpAny_Call_Name_kw (qds I hg hm hv ?_ hn hdb);exact PyProof.Rows.callWith_builtin1 (thn (ha pos pins s σ H _ I h) fun us s1 ⟨vs,H1,I1,r1,q1⟩=>hc pins s1 σ H1 vs us Q I1 r1 q1) he hpl
theorem qk2(hc:qaQ X (.type T) r)(hg:Gl X x)(hm:X.mg x=none)(hv:bootBuiltins x=some (.type T))(ha:PA X (e::es) t)(hn:x≠"__name__":=by decide)(hdb:(x==("__debug__":Str))=false:=by decide)
 (he:starEach (e::es) X.env=(false,eval e X.env)::starEach es X.env:=by rfl) (hpl:(backTo pos (starEach es X.env)).any (·.1)=false:=by rfl):PE X (.Call (.Name x p) (e::es) [] pos) (tCB r t):=by
 intro pins s σ H Q I h;refine wpAny_Call_Name_kw (qds I hg hm hv ?_ hn hdb);exact waT (thn (ha pos pins s σ H _ I h) fun us s1 ⟨vs,H1,I1,r1,q1⟩=>hc pins s1 σ H1 vs us Q I1 r1 q1) he hpl
end
end L2
namespace HT
open PySem PyProof.Rows
section
variable {prog:Program}{w:World}{A:Around}{E:VSP}{s:Shared}
theorem cat_tup{t b:Addr}{vs ws:LVl}{Q:VSP}(ht:IsTup s.heap t vs.toArray)(hb:IsTup s.heap b ws.toArray)(hv:vs≠[])
 (h1:ws= []->Q (.ref t) s) (h2:ws≠[]->Q (.ref s.heap.objs.size) { s with heap:=s.heap.push { cls:=.type "tuple",data:=.seq (vs++ws).toArray } })
 (hsz:vs.length+ws.length<=sizeLine):wpAny (model prog w) A (binaryOp .Add (.ref t) (.ref b)) Q E s:=by
 obtain⟨⟨cls,dd,data,sl⟩,ho,hc,n,hd⟩:=id ht;obtain⟨⟨cls2,dd2,data2,sl2⟩,ho2,hc2,n2,hd2⟩:=id hb;simp only at hc hd hc2 hd2;subst hc hd hc2 hd2;have e:vs.toArray++ws.toArray=(vs++ws).toArray:=by simp
 by_cases hw:ws= []
 · exact concat_meets ⟨_,ho,rfl⟩ ⟨_,ho2,rfl⟩ noFill_tuple_add seq_tuple_add PySem.F.slot_tuple_add PySem.F.entry_tuple_add (PySem.F.args_tuple_add_2 _ _)
    (tuple_addW1 t b vs.toArray ws.toArray n n2 dd dd2 sl sl2 (by simpa using hv) (by simp[hw])) ⟨ho,ho2,h1 hw⟩
 · refine concat_meets ⟨_,ho,rfl⟩ ⟨_,ho2,rfl⟩ noFill_tuple_add seq_tuple_add PySem.F.slot_tuple_add PySem.F.entry_tuple_add (PySem.F.args_tuple_add_2 _ _)
    (tuple_addW2 t b vs.toArray ws.toArray n n2 dd dd2 sl sl2 (by simpa using hv) (by simpa using hw) (by rw[wak,wak];exact hsz)) ⟨ho,ho2,?_⟩
   rw[e];exact h2 hw
def sIx(n d:Nat):Option Int->Nat
 |none=>d
 |some v=>if v<0 then(v+(n:Int)).toNat else min v.toNat n
theorem sIx_none(n d:Nat):sIx n d none=d:=rfl
theorem sIx_nat(n d k:Nat):sIx n d (some (k:Int))=min k n:=by
 show(if(k:Int)<0 then((k:Int)+(n:Int)).toNat else min (k:Int).toNat n)=min k n
 rw[wad (by omega),Int.toNat_natCast]
theorem qr5(n d:Nat)(hd:d<=n)(o:Option Int):sIx n d o<=n:=by
 cases o with
 |none=>exact hd
 |some v=>
  show(if v<0 then(v+(n:Int)).toNat else min v.toNat n)<=n
  by_cases hv:v<0
  · rw[wag hv];omega
  · rw[wad hv];exact Nat.min_le_right _ _
theorem qml(v:Int)(n d:Nat):(if v<0 then max (v+(n:Int)) 0 else min v (n:Int))=((sIx n d (some v):Nat):Int):=by
 show(if v<0 then max (v+(n:Int)) 0 else min v (n:Int))=(((if v<0 then(v+(n:Int)).toNat else min v.toNat n):Nat):Int)
 by_cases hv:v<0
 · simp only[wag hv];omega
 · simp only[wad hv];omega
theorem qkd(lo hi:Option Int)(n:Nat):Builtin.Slice.sliceAdjust lo hi 1 (n:Int)=(((sIx n 0 lo:Nat):Int),((sIx n n hi:Nat):Int)):=by
 have h1:¬((1:Int)<0):=by omega
 unfold Builtin.Slice.sliceAdjust;simp only[h1,if_false];refine Prod.ext ?_ ?_
 · cases lo with
   |none=>rfl
   |some v=>exact qml v n 0
 · cases hi with
   |none=>rfl
   |some v=>exact qml v n n
theorem qjD(i j:Nat):Builtin.Slice.slicePlaces (i:Int) (j:Int) 1=j-i:=by
 unfold Builtin.Slice.slicePlaces;have h1:(1:Int) > 0:=by omega
 simp only[h1,if_true,Int.ediv_one];split<;>omega
theorem qff{v:Value}{o:Option Int}{Q:Option Int->Shared->Prop}(p:IsPart v o)(h:Q o s):wpAny (model prog w) A (Builtin.Slice.slicePartIndex v) Q E s:=by
 cases p with
 |none=>exact slicePart_none h
 |int i t=>exact slicePart_int h
theorem qbX{sl:Addr}{vl vu:Value}{lo hi:Option Int}{n:Nat}{Q:Int×Int×Nat->Shared->Prop}(hs:s.heap.IsSliceOf sl vl vu .none)(pl:IsPart vl lo)(pu:IsPart vu hi)
 (h:Q (((sIx n 0 lo:Nat):Int),1,sIx n n hi-sIx n 0 lo) s):wpAny (model prog w) A (Builtin.Slice.sliceApplied (.ref sl) (pure (n:Int))) Q E s:=by
 obtain⟨os,hos,hcs,hds⟩:=id hs;unfold Builtin.Slice.sliceApplied Builtin.Slice.sliceFields;refine waa (waa (wpAny_field hos hds (x:=vl) rfl (waa (wpAny_field hos hds (x:=vu) rfl (waa (wpAny_field hos hds (x:=.none) rfl (wae ?_)))))));refine waa (slicePart_none ?_);show wpAny _ _ (if((1:Int)==0)=true then _ else _) _ _ s
 rw[wad (by decide)]
 refine waa (qff pl (waa (qff pu (waa (wae ?_)))));show wpAny _ _ (match Builtin.Slice.sliceAdjust lo hi 1 (n:Int)with|(lo,hi)=>pure (lo,(1:Int),Builtin.Slice.slicePlaces lo hi 1)) _ _ s
 rw[qkd lo hi n];show wpAny _ _ (pure (((sIx n 0 lo:Nat):Int),(1:Int),Builtin.Slice.slicePlaces ((sIx n 0 lo:Nat):Int) ((sIx n n hi:Nat):Int) 1)) _ _ s;rw[qjD];exact wae h
theorem qnh(xs:Array Value)(i k:Nat):((List.range k).filterMap fun(m:Nat)=>xs[((i:Int)+(m:Int)*1).toNat]?).toArray=((xs.toList.drop i).take k).toArray:=by
 have e:(fun(m:Nat)=>xs[((i:Int)+(m:Int)*1).toNat]?)=fun m=>xs[i+m]?:=by
  funext m;have:((i:Int)+(m:Int)*1).toNat=i+m:=by omega
  rw[this]
 rw[e];have:=pick_run xs i k;rw[List.filterMap_map]at this;have e2:((fun x=>xs[x]?) ∘ fun x=>i+x)=fun m=>xs[i+m]?:=rfl
 rw[e2]at this;rw[this]
theorem getItem_tuple_cut{t sl:Addr}{items:Array Value}{vl vu:Value}{lo hi:Option Int}{Q:VSP}(ht:IsTup s.heap t items)(hs:s.heap.IsSliceOf sl vl vu .none)(pl:IsPart vl lo)(pu:IsPart vu hi)
 (hw:¬(sIx items.size 0 lo=0/\sIx items.size items.size hi=items.size))
 (h:Q (.ref s.heap.objs.size) { s with heap:=s.heap.push { cls:=.type "tuple",data:=.seq ((items.toList.drop (sIx items.size 0 lo)).take (sIx items.size items.size hi-sIx items.size 0 lo)).toArray } })
 (hsz:items.size<=sizeLine):wpAny (model prog w) A (getItem (.ref t) (.ref sl)) Q E s:=by
 have htake:sizeOk (.seq ((items.toList.drop (sIx items.size 0 lo)).take (sIx items.size items.size hi-sIx items.size 0 lo)).toArray):=by
  show((items.toList.drop (sIx items.size 0 lo)).take (sIx items.size items.size hi-sIx items.size 0 lo)).toArray.size<=sizeLine;rw[wak,List.length_take,List.length_drop,Array.length_toList];omega
 have hj:sIx items.size items.size hi<=items.size:=qr5 _ _ (waf _) hi;obtain⟨os,hos,hcs,hds⟩:=id hs;have hTs:s.TypeIs (.ref sl) "slice":=⟨os,hos,hcs⟩;unfold getItem
 try with_reducible refine wa0 ?_
 first|refine waa (wae ?_)|skip
 refine waa (wpAny_sequenceKey ht.typeIs (by decide) ?_)
 refine waa (wpAny_callSpecial?_slot (name:=Str.ofString "__getitem__") ht.typeIs waX
  (waO waX ht.typeIs entry_tuple_getitem ?_ (args_tuple_getitem _ _)))
 show wpAny _ _ (Builtin.Tuple.tupleItemsOf (.ref t) >>= _) _ _ s;refine waa (tupleItemsOf_ ht ?_);refine waa (wpAny_typeOf hTs ?_);rw[wag (by decide)]
 refine waa (qbX hs pl pu ?_);have hno:¬((((sIx items.size 0 lo:Nat):Int)==0&&(1:Int)==1&&(sIx items.size items.size hi-sIx items.size 0 lo)==items.size)=true):=by
  intro q;rw[wac,wac]at q;have q1:((sIx items.size 0 lo:Nat):Int)=0:=wa2 q.1.1;have q2:sIx items.size items.size hi-sIx items.size 0 lo=items.size:=wa2 q.2;exact hw ⟨by omega,by omega⟩
 show wpAny _ _ (if(((sIx items.size 0 lo:Nat):Int)==0&&(1:Int)==1&&(sIx items.size items.size hi-sIx items.size 0 lo)==items.size)=true then _ else _) _ _ s
 rw[wad hno,qnh]
 first
  |exact waa (m:=Builtin.Tuple.tupleExact _) (waP (wae ⟨_,rfl,wae h⟩) htake)
  |exact waa (m:=Builtin.Tuple.tupleExact _) (waP (waa (wae (wae ⟨_,rfl,wae h⟩))) htake)
  |exact waa (waa (m:=Builtin.Tuple.tupleExact _) (waP (wae (wae ⟨_,rfl,wae h⟩)) htake))
  |exact waa (waa (m:=Builtin.Tuple.tupleExact _) (waP (wae ⟨_,rfl,wae h⟩) htake))
end
end HT
namespace L2
open PySem PySem.Spec PyProof.Rows
abbrev TO:=St->Hp->(Option Int->Hp->Prop)->Prop
def PO(X:Cx)(e:Option Expr)(t:TO):Prop:=
 ∀ (pins:LAO) (s:Shared) (σ:St) (H:Hp) (Q:Option Int->Hp->Prop),Inv X pins σ H s->t σ H Q->
  wpAny (model X.prog X.w) X.A (evalPart e X.env) (fun u s'=>∃ o H',Inv X pins σ H' s'/\IsPart u o/\Q o H') X.xe s
def qps:TO:=fun _ H Q=>Q none H
def qvw(t:TE):TO:=fun σ H Q=>t σ H fun x H1=>∃ i,x= .int i/\Q (some i) H1
section
variable {X:Cx}{e:Expr}{te:TE}{lo hi:Option Expr}{tl th:TO}{pos p2:Pos}
theorem qp2:PO X none qps:=by
 intro pins s σ H Q I h;rw[evalPart_none];exact wae ⟨none,H,I,.none,h⟩
theorem qp1(h:PE X e te):PO X (some e) (qvw te):=by
 intro pins s σ H Q I hw;rw[evalPart_some];refine thn (h pins s σ H _ I hw) fun u s1 zz=>?_;obtain⟨x,H1,I1,r1,q1⟩:=zz
 obtain⟨i,rfl,q⟩:=q1;obtain⟨t,rfl⟩:=r1;exact⟨some i,H1,I1,.int i t,q⟩
def SlR(X:Cx)(r:V->Option Int->Option Int->Hp->VK->Prop):Prop:=
 ∀ (pins:LAO) (s:Shared) (σ:St) (H:Hp) (x:V) (v vl vu:Value) (lo hi:Option Int) (sl:Addr) (Q:VK),Inv X pins σ H s->RelV x v->s.heap.IsSliceOf sl vl vu .none->IsPart vl lo->IsPart vu hi->r x lo hi H Q->
  ∃ T id,typeLookup (.type T) "__getitem__" =pure (some (.builtin id))/\s.TypeIs v T/\wpAny (model X.prog X.w) X.A (getItem v (.ref sl)) (EP X pins σ Q) X.xe s
noncomputable def tSl (r:V->Option Int->Option Int->Hp->VK->Prop)(te:TE)(tl th:TO):TE:=fun σ H Q=>te σ H fun x H1=>tl σ H1 fun l H2=>th σ H2 fun u H3=>r x l u H3 Q
theorem qni{r:V->Option Int->Option Int->Hp->VK->Prop}(hr:SlR X r)(he:PE X e te)(hl:PO X lo tl)(hu:PO X hi th):PE X (.Subscript e (.Slice lo hi none p2) pos) (tSl r te tl th):=by
 intro pins s σ H Q I h;refine Subscript_ (thn (he pins s σ H _ I h) fun v s1 zz=>?_);obtain⟨x,H1,I1,r1,q1⟩:=zz
 refine wpAny_Slice (thn (hl pins s1 σ H1 _ I1 q1) fun vl s2 ⟨l,H2,I2,pl,q2⟩=>thn (hu pins s2 σ H2 _ I2 q2) fun vu s3 zz=>?_);obtain⟨u,H3,I3,pu,q3⟩:=zz
 rw[evalPart_none];refine wae ?_;have I4:Inv X pins σ H3 { s3 with heap:=s3.heap.push { cls:=.type "slice",data:=.fields #[vl,vu,.none] } }:=I3.kept (t':=s3.toks) fun b ob q=>wab _ q
 obtain⟨T,id,hT,ht,hg⟩:=hr pins { s3 with heap:=s3.heap.push { cls:=.type "slice",data:=.fields #[vl,vu,.none] } } σ H3 x v vl vu l u s3.heap.objs.size Q I4 r1 (Heap.IsSliceOf.new ..) pl pu q3
 show wpAny (model X.prog X.w) X.A (subscriptTail e (.Slice lo hi none p2) v (.ref s3.heap.objs.size)) (EP X pins σ Q) X.xe { s3 with heap:=s3.heap.push { cls:=.type "slice",data:=.fields #[vl,vu,.none] } }
 exact tail_any (ops:=[.ref s3.heap.objs.size,v]) ht hT hg (by with_unfolding_all rfl)
def qo8(xs:LV)(lo hi:Option Int):LV:=(xs.drop (HT.sIx xs.length 0 lo)).take (HT.sIx xs.length xs.length hi-HT.sIx xs.length 0 lo)
theorem qeQ(xs:LV)(lo hi:Option Int):(qo8 xs lo hi).length<=xs.length:=by
 unfold qo8;rw[List.length_take,List.length_drop];omega
noncomputable def qDx (K:Frg):V->Option Int->Option Int->Hp->VK->Prop:=fun x lo hi H Q=>∃ a xs,x= .ref a/\SqT K H a xs/\
 ¬(HT.sIx xs.length 0 lo=0/\HT.sIx xs.length xs.length hi=xs.length)/\∀ p,H p=none->Q (.ref p) (upd H p (.tup (qo8 xs lo hi)))
theorem qr2:SlR X (qDx X.K):=by
 intro pins s σ H x v vl vu lo hi sl Q I rx hs pl pu h;obtain⟨a,xs,rfl,hx,hw,q⟩:=h;cases rx;obtain⟨its,r,ht,hz⟩:=I.tuple hx;have hlen:its.toArray.size=xs.length:=by rw[wak];exact r.length.symm
 refine⟨"tuple",_,PyProof.Rows.slot_tuple_getitem.lookup,ht.typeIs,?_⟩;refine HT.getItem_tuple_cut ht hs pl pu (by rw[hlen];exact hw) ?_ (by rw[hlen];exact hz)
 rw[hlen];refine⟨.ref s.heap.objs.size,_,I.laid (t':=s.toks) (o:=.tup (qo8 xs lo hi)) (fun b ob q=>wab _ q) (waf _) ?_,rfl,q _ (I.hok.fresh (waf _))⟩
 exact⟨was (qeQ xs lo hi) hz,_,(r.drop (HT.sIx xs.length 0 lo)).take (HT.sIx xs.length xs.length hi-HT.sIx xs.length 0 lo),IsTup.new _ _⟩
noncomputable def qwv (K:Frg):R2:=fun x y H Q=>∃ a b xs ys,x= .ref a/\y= .ref b/\SqT K H a xs/\SqT K H b ys/\xs≠[]/\xs.length+ys.length<=sizeLine/\
 (ys= []->Q (.ref a) H)/\(ys≠[]->∀ p,H p=none->Q (.ref p) (upd H p (.tup (xs++ys))))
theorem Vals.nil_iff{xs:LV}{us:LVl}(r:Vals xs us):us= []↔xs= []:=by
 cases r with
 |nil=>simp
 |cons _ _=>simp
theorem qqh:OpR X (binaryOp .Add) (qwv X.K):=by
 intro pins s σ H x y v u Q I rx ry h;obtain⟨a,b,xs,ys,rfl,rfl,ha,hb,hx,hz,q1,q2⟩:=h;cases rx;cases ry;obtain⟨its,r1,p1,_⟩:=I.tuple ha;obtain⟨its2,r2,p2,_⟩:=I.tuple hb;refine HT.cat_tup p1 p2 (fun z=>hx (r1.nil_iff.mp z)) (fun z=>⟨.ref a,H,I,rfl,q1 (r2.nil_iff.mp z)⟩) (fun z=>?_) (by rw[<-r1.length,<-r2.length];exact hz)
 refine⟨.ref s.heap.objs.size,_,I.laid (t':=s.toks) (o:=.tup (xs++ys)) (fun b ob q=>wab _ q) (waf _) ?_,rfl,q2 (fun w=>z (r2.nil_iff.mpr w)) _ (I.hok.fresh (waf _))⟩
 exact⟨by rw[waC];exact hz,_,r1.append r2,IsTup.new _ _⟩
end
def ixN(n:Nat)(i:Int):Option Nat:=if 0<=i then(if i<n then some i.toNat else none)else if -(n:Int)<=i then some (i+n).toNat else none
def atI{α:Type}(xs:List α)(i:Int):Option α:=(ixN xs.length i).bind fun j=>xs[j]?
theorem qly{n:Nat}{i:Int}{j:Nat}(h:ixN n i=some j):seqIndex? i n=some j/\j<n/\-(n:Int)<=i/\i<n:=by
 unfold ixN at h
 by_cases h0:0<=i
 · rw[wag h0]at h
   by_cases h1:i<n
   · rw[wag h1]at h
     have e:i.toNat=j:=wao h;exact⟨by rw[seqIndex_of h0 h1,e],by omega,by omega,h1⟩
   · rw[wad h1]at h;cases h
 · rw[wad h0]at h
   by_cases h1:-(n:Int)<=i
   · rw[wag h1]at h
     have e:(i+n).toNat=j:=wao h;exact⟨by rw[seqIndex_neg (by omega) h1,e],by omega,h1,by omega⟩
   · rw[wad h1]at h;cases h
theorem qiH{α:Type}{xs:List α}{i:Int}{v:α}(h:atI xs i=some v):∃ j,seqIndex? i xs.length=some j/\xs[j]? =some v/\j<xs.length/\-(xs.length:Int)<=i/\i<xs.length:=by
 unfold atI at h;cases e:ixN xs.length i with
 |none=>rw[e]at h;cases h
 |some j=>
  rw[e]at h;obtain⟨h1,h2,h3,h4⟩:=qly e;exact⟨j,h1,h,h2,h3,h4⟩
def qmH(b:Expr):Prop:=∀ o i,subscripted b false o i=operate [o,i] (getItem o i)
def IxR(X:Cx)(r:R2):Prop:=
 ∀ (value slice:Expr) (pins:LAO) (s:Shared) (σ:St) (H:Hp) (x y:V) (v u:Value) (Q:VK),Inv X pins σ H s->RelV x v->RelV y u->r x y H Q->
  subscripted slice false v u=operate [v,u] (getItem v u)->wpAny (model X.prog X.w) X.A (subscriptTail value slice v u) (EP X pins σ Q) X.xe s
def MtR(X:Cx)(id:String)(r:V->LV->Hp->VK->Prop):Prop:=
 ∀ (pins:LAO) (s:Shared) (σ:St) (H:Hp) (x:V) (xs:LV) (v:Value) (us:LVl) (Q:VK),Inv X pins σ H s->RelV x v->Vals xs us->r x xs H Q->
  wpAny (model X.prog X.w) X.A (call (.builtin id) (v::us)) (EP X pins σ Q) X.xe s
section
variable {X:Cx}{a b:Expr}{ta tb:TE}{pos:Pos}
theorem qwI{r:R2}(hr:IxR X r)(ha:PE X a ta)(hb:PE X b tb)(hs:qmH b):PE X (.Subscript a b pos) (tOp r ta tb):=by
 intro pins s σ H Q I h;exact Subscript_ (qxP ha hb I h fun v u s2 x y H2 I2 rx ry q=>hr a b pins s2 σ H2 x y v u Q I2 rx ry q (hs _ _))
def qDC(K:Frg):R2:=fun x y H Q=>∃ p xs i v,x= .ref p/\y= .int i/\SqL K H p xs/\atI xs i=some v/\Q v H
def qDA(K:Frg):R2:=fun x y H Q=>∃ p xs i v,x= .ref p/\y= .int i/\SqT K H p xs/\atI xs i=some v/\Q v H
def qDB:R2:=fun x y H Q=>∃ z i c,x= .str z/\y= .int i/\z.length<=sizeLine/\atI z.cps.toList i=some c/\Q (.str ⟨#[c]⟩) H
theorem qlx:IxR X (qDC X.K):=by
 intro value slice pins s σ H x y v u Q I rx ry h hs;obtain⟨p,xs,i,z,rfl,rfl,hq,he,q⟩:=h;cases rx;obtain⟨t,rfl⟩:=ry;obtain⟨its,r,pl,hz⟩:=I.list hq;obtain⟨j,h1,h2,h3,h4,h5⟩:=qiH he;obtain⟨w,ew,rw'⟩:=r.get h2;have hl:=r.length;have hn:=qfn;have fin:EP X pins σ Q w s:=⟨z,H,I,rw',q⟩
 by_cases h0:0<=i
 · have hj:i.toNat=j:=by
    rw[seqIndex_of h0 h5]at h1;exact wao h1
   exact item_listR pl.isList h0 (by omega) (by rw[hj];simpa using ew) fin hs
 · have hj:(i+(its.toArray.size:Int)).toNat=j:=by
    rw[seqIndex_neg (by omega) h4]at h1
    rw[wak,<-hl];exact wao h1
   exact subscriptTail_builtinR (x:=w) pl.isList.typeIs slot_list_getitem.lookup
    (wpAny_getItem_list_neg (Q:=fun r s'=>r=w/\EP X pins σ Q r s') pl.isList (by omega) (by rw[wak]<;>omega) (by omega) (by rw[hj];simpa using ew) ⟨rfl,fin⟩) hs
theorem qtF:IxR X (qDA X.K):=by
 intro value slice pins s σ H x y v u Q I rx ry h hs;obtain⟨p,xs,i,z,rfl,rfl,hq,he,q⟩:=h;cases rx;obtain⟨t,rfl⟩:=ry;obtain⟨its,r,pl,hz⟩:=I.tuple hq;obtain⟨j,h1,h2,h3,h4,h5⟩:=qiH he;obtain⟨w,ew,rw'⟩:=r.get h2;have hl:=r.length;have hn:=qfn;have fin:EP X pins σ Q w s:=⟨z,H,I,rw',q⟩;exact subscriptTail_builtinR (x:=w) pl.typeIs slot_tuple_getitem.lookup
  (getItem_tuple (j:=j) (Q:=fun r s'=>r=w/\EP X pins σ Q r s') pl (by omega) (by omega) (by rw[wak,<-hl];exact h1) (by simpa using ew) ⟨rfl,fin⟩) hs
theorem qtG:IxR X qDB:=by
 intro value slice pins s σ H x y v u Q I rx ry h hs;obtain⟨z,i,c,rfl,rfl,hz,he,q⟩:=h;obtain⟨t,rfl⟩:=rx;obtain⟨t',rfl⟩:=ry;obtain⟨j,h1,h2,h3,h4,h5⟩:=qiH he;have hl:z.cps.toList.length=z.length:=by simp[Str.length]
 rw[hl]at h1 h4 h5;have hn:=qfn;exact tail_any (typeIs_str s z t) slot_str_getitem.lookup (getItem_str (c:=c) (by
  have e1:decide (i< -(2 ^ 63:Int))=false:=waB (by omega)
  have e2:decide (i ≥ 2 ^ 63)=false:=waB (by omega)
  rw[e1,e2,Bool.or_false]) (by rw[h1];simpa using h2) ⟨.str ⟨#[c]⟩,H,I.tok _,⟨_,rfl⟩,q⟩) hs
theorem qjI(its:LVl)(n j:Nat)(u:Value):Obj.mapSeq (·.setIfInBounds j u) { cls:=.type "list",data:=.seq its.toArray n }= { cls:=.type "list",data:=.seq (its.set j u).toArray n }:=by
 simp[Obj.mapSeq]
theorem Inv.lst{pins:LAO}{σ:St}{H:Hp}{s:Shared}{p:Addr}{xs:LV}(I:Inv X pins σ H s)(h:H p=some (.lst xs)):
 ∃ (its:LVl) (n:Nat),Vals xs its/\s.heap.get? p=some { cls:=.type "list",data:=.seq its.toArray n }/\xs.length<=sizeLine:=by
 obtain⟨z,its,n,r,e⟩:=I.hok p _ h;exact⟨its,n,r,e,z⟩
theorem Inv.lstUpd{pins:LAO}{σ:St}{H:Hp}{s:Shared}{p:Addr}{xs ys:LV}{its its':LVl}{n n':Nat}{f:Obj->Obj}(I:Inv X pins σ H s)(h:H p=some (.lst xs))
 (ho:s.heap.get? p=some { cls:=.type "list",data:=.seq its.toArray n }) (hf:f { cls:=.type "list",data:=.seq its.toArray n }= { cls:=.type "list",data:=.seq its'.toArray n' }) (r:Vals ys its') (hz:ys.length<=sizeLine) (t:Nat):
 Inv X pins σ (upd H p (.lst ys)) { s with heap:=s.heap.update p f,toks:=t }:=by
 have e:(s.heap.update p f).get? p=some { cls:=.type "list",data:=.seq its'.toArray n' }:=by
  rw[Heap.get?_update_self f ho (by rw[hf]<;>rfl),hf]
 refine I.write (x:=p) (e:=p) (by rw[h];trivial) (.inl rfl) (fun b u hb q=>(Heap.get?_update_other _ _ (wa4 hb)).trans q) ⟨_,e⟩ ?_
 exact⟨hz,its',n',r,e⟩
noncomputable def qh5:V->V->V->Hp->(Hp->Prop)->Prop:=fun o i v H Q=>∃ p xs k j,o= .ref p/\i= .int k/\H p=some (.lst xs)/\ixN xs.length k=some j/\Q (upd H p (.lst (xs.set j v)))
theorem set_list:qvg X qh5:=by
 intro pins s σ H o i v ov iv u Q I ro ri rv h;obtain⟨p,xs,k,j,rfl,rfl,hp,hj,q⟩:=h;cases ro;obtain⟨t,rfl⟩:=ri;obtain⟨its,n,r,ho,hz⟩:=I.lst hp;obtain⟨h1,h2,h3,h4⟩:=qly hj;have hl:=r.length;have hn:=qfn;have I':Inv X pins σ (upd H p (.lst (xs.set j v))) { s with heap:=s.heap.update p (Obj.mapSeq (·.setIfInBounds j u)) }:=
  I.lstUpd hp ho (qjI its n j u) (r.set rv j) (by rw[List.length_set];exact hz) s.toks
 by_cases h0:0<=k
 · have hk:k.toNat=j:=by
    rw[seqIndex_of h0 h4]at h1;exact wao h1
   exact PySem.W.ki_setAt ho h0 (by omega) (by rw[wak,<-hl];exact h4) (by rw[hk];exact⟨_,I',q⟩)
 · have hk:(k+(its.toArray.size:Int)).toNat=j:=by
    rw[seqIndex_neg (by omega) h3]at h1
    rw[wak,<-hl];exact wao h1
   exact PySem.W.ki_setBack ho (by omega) (by rw[wak,<-hl];exact h3) (by omega) (by rw[hk];exact⟨_,I',q⟩)
theorem qgG(lo hi:Option Int)(n:Nat):(sliceBounds lo hi none n).1=((HT.sIx n 0 lo:Nat):Int)/\(sliceBounds lo hi none n).2.1=((HT.sIx n n hi:Nat):Int)/\(sliceBounds lo hi none n).2.2=1:=by
 refine⟨?_,?_,rfl⟩
 · cases lo with
   |none=>simp[sliceBounds,HT.sIx]
   |some i=>
    simp only[sliceBounds,HT.sIx,Option.getD_none,show(1:Int) > 0 by decide,if_true]
    by_cases h:i<0
    · simp only[h,if_true]<;>omega
    · simp only[h,if_false]<;>omega
 · cases hi with
   |none=>simp[sliceBounds,HT.sIx]
   |some i=>
    simp only[sliceBounds,HT.sIx,Option.getD_none,show(1:Int) > 0 by decide,if_true]
    by_cases h:i<0
    · simp only[h,if_true]<;>omega
    · simp only[h,if_false]<;>omega
theorem qfF(its:LVl)(lo hi:Option Int):slicePick its.toArray lo hi none=((its.drop (HT.sIx its.length 0 lo)).take (HT.sIx its.length its.length hi-HT.sIx its.length 0 lo)).toArray:=by
 obtain⟨h1,h2,h3⟩:=qgG lo hi its.toArray.size;unfold slicePick;rw[h1,h2,h3];simp only[sliceRange_one,pick_run,wak]<;>rfl
noncomputable def qDy (K:Frg):V->Option Int->Option Int->Hp->VK->Prop:=fun x lo hi H Q=>∃ a xs,x= .ref a/\SqL K H a xs/\∀ p,H p=none->Q (.ref p) (upd H p (.lst (qo8 xs lo hi)))
theorem qpw:SlR X (qDy X.K):=by
 intro pins s σ H x v vl vu lo hi sl Q I rx hs pl pu h;obtain⟨a,xs,rfl,hx,q⟩:=h;cases rx;obtain⟨its,r,ht,hz⟩:=I.list hx;have hlen:=r.length;refine⟨"list",_,slot_list_getitem.lookup,ht.isList.typeIs,?_⟩;refine wpAny_getItem_list_slice ht.isList hs pl pu .none (by simp) ?_ (by rw[wak]<;>omega)
 rw[qfF,<-hlen];refine⟨.ref s.heap.objs.size,_,I.laid (t':=s.toks) (o:=.lst (qo8 xs lo hi)) (fun b ob q=>wab _ q) (waf _) ?_,rfl,q _ (I.hok.fresh (waf _))⟩
 exact⟨was (qeQ xs lo hi) hz,_,0,(r.drop (HT.sIx xs.length 0 lo)).take (HT.sIx xs.length xs.length hi-HT.sIx xs.length 0 lo),wah _ rfl⟩
theorem qce:qaQ X (.builtin "len") (fun xs H Q=>∃ p ys,xs= [.ref p]/\(SqL X.K H p ys∨SqT X.K H p ys)/\Q (.int ys.length) H):=by
 intro pins s σ H xs us Q I r h;obtain⟨p,ys,rfl,hq,q⟩:=h;obtain⟨u,rfl,rx⟩:=vals1 r;cases rx;have hn:=qfn;rcases hq with hq|hq
 · obtain⟨its,r',pl,hz⟩:=I.list hq
   have hlen:=r'.length;exact Calls.call_len_list pl.isList (by simp only[wak]<;>omega) ⟨.int ys.length,H,I.tok _,⟨s.toks+1,by rw[wak,hlen]⟩,q⟩
 · obtain⟨its,r',pl,hz⟩:=I.tuple hq
   have hlen:=r'.length;exact len_tuple pl (by simp only[wak]<;>omega) ⟨.int ys.length,H,I.tok _,⟨s.toks+1,by rw[wak,hlen]⟩,q⟩
theorem qhz:qaQ X (.builtin "len") (fun xs H Q=>∃ z,xs= [.str z]/\z.length<=sizeLine/\Q (.int z.length) H):=by
 intro pins s σ H xs us Q I r h;obtain⟨z,rfl,hz,q⟩:=h;obtain⟨u,rfl,t,rfl⟩:=vals1 r;have hn:=qfn;exact len_str (by omega) ⟨.int z.length,H,I.tok _,⟨_,rfl⟩,q⟩
theorem qhy:qaQ X (.type "list") (fun xs H Q=>∃ p ys,xs= [.ref p]/\(SqL X.K H p ys∨SqT X.K H p ys)/\∀ l,H l=none->Q (.ref l) (upd H l (.lst ys))):=by
 intro pins s σ H xs us Q I r h;obtain⟨p,ys,rfl,hq,q⟩:=h;obtain⟨u,rfl,rx⟩:=vals1 r;cases rx;have fin:∀ (its:LVl),Vals ys its->ys.length<=sizeLine->∀ (h':Heap) (c':Nat),(∀ b o',s.heap.get? b=some o'->h'.get? b=some o')->
  h'.get? s.heap.objs.size=some { cls:=.type "list",dict:=none,data:=.seq its.toArray c',slots:=#[] }->EP X pins σ Q (.ref s.heap.objs.size) { s with heap:=h' }:=fun its r' hz h' c' kp e=>
  ⟨.ref s.heap.objs.size,_,I.laid (t':=s.toks) kp (waf _) (show ObjOk X.prog X.w _ h' _ (.lst ys)from⟨hz,its,c',r',e⟩),rfl,q _ (I.hok.fresh (waf _))⟩
 rcases hq with hq|hq
 · obtain⟨its,r',pl,hz⟩:=I.list hq
   have hlen:=r'.length;obtain⟨o,ho,hc,n,hd⟩:=pl.isList;exact call_list_seq p (.inl rfl) ho hc hd (fun h' c' kp e=>fin its r' hz h' c' kp e) (by simp only[wak]<;>omega)
 · obtain⟨its,r',pl,hz⟩:=I.tuple hq
   have hlen:=r'.length;obtain⟨o,ho,hc,n,hd⟩:=pl;exact call_list_seq p (.inr rfl) ho hc hd (fun h' c' kp e=>fin its r' hz h' c' kp e) (by simp only[wak]<;>omega)
theorem qbV:qaQ X (.type "tuple") (fun xs H Q=>∃ p ys,xs= [.ref p]/\((SqL X.K H p ys/\∀ l,H l=none->Q (.ref l) (upd H l (.tup ys)))∨(SqT X.K H p ys/\Q (.ref p) H))):=by
 intro pins s σ H xs us Q I r h;obtain⟨p,ys,rfl,h⟩:=h;obtain⟨u,rfl,rx⟩:=vals1 r;cases rx;rcases h with⟨hq,q⟩|⟨hq,q⟩
 · obtain⟨its,r',pl,hz⟩:=I.list hq
   have hlen:=r'.length;refine call_tuple_list pl.isList (fun h' kp=>?_) (by simp only[wak]<;>omega)
   have I1:Inv X pins σ H { s with heap:=h' }:=I.kept (t':=s.toks) kp
   have I2:Inv X pins σ (upd H h'.objs.size (.tup ys)) { s with heap:=h'.push { cls:=.type "tuple",data:=.seq its.toArray } }:=
    I1.laid (t':=s.toks) (fun b o e=>wab _ e) (waf _) (show ObjOk X.prog X.w _ _ _ (.tup ys)from⟨hz,its,r',IsTup.new _ _⟩)
   exact⟨.ref h'.objs.size,_,I2,rfl,q _ (I1.hok.fresh (waf _))⟩
 · obtain⟨its,r',pl,hz⟩:=I.tuple hq
   exact call_tuple_same pl ⟨.ref p,H,I,rfl,q⟩
def tyV(K:Frg)(T:String)(x:V)(H:Hp):Prop:=match x with
 | .str _=>T= "str"
 | .int _=>T= "int"
 | .ref p=>(T= "list"/\∃ xs,SqL K H p xs)∨(T= "tuple"/\∃ o,K.lookup p=some o/\o.cls= .type "tuple"/\o.dict=none)∨
  (T= "dict"/\((∃ kvs,H p=some (.dK kvs))∨∃ kvs,H p=some (.dT kvs)))∨(T= "set"/\∃ S n,H p=some (.set S n))
 |_=>False
theorem qrK{pins:LAO}{σ:St}{H:Hp}{s:Shared}{T:String}{x:V}{v:Value}(I:Inv X pins σ H s)(r:RelV x v)(ty:tyV X.K T x H):
 s.TypeIs v T/\∀ a,v= .ref a->∃ ob,s.heap.get? a=some ob/\ob.dict=none:=by
 cases x with
 |str z=>
  obtain⟨t,rfl⟩:=r;cases(show T= "str" from ty)
  exact⟨typeIs_str s z t,fun _ e=>nomatch e⟩
 |int i=>
  obtain⟨t,rfl⟩:=r;cases(show T= "int" from ty)
  exact⟨typeIs_int s i t,fun _ e=>nomatch e⟩
 |ref p=>
  cases r;rcases ty with⟨rfl,xs,hq⟩|⟨rfl,o,hk,hc,hd⟩|⟨rfl,hk⟩|⟨rfl,S,n,hk⟩
  · obtain⟨its,_,pl,_⟩:=I.list hq
    refine⟨pl.isList.typeIs,fun a e=>?_⟩
    cases e;obtain⟨o,n,e,c,hd,_⟩:=pl;exact⟨o,e,hd⟩
  · refine⟨⟨o,I.kIn p o hk,hc⟩,fun a e=>?_⟩
    cases e;exact⟨o,I.kIn _ o hk,hd⟩
  · have z:∃ o,s.heap.get? p=some o/\o.ExactDict:=by
     rcases hk with⟨kvs,hk⟩|⟨kvs,hk⟩
     · obtain⟨_,_,_,_,o,_,_,e,ex,_⟩:=I.hok p _ hk
       exact⟨o,e,ex⟩
     · obtain⟨_,_,_,_,o,_,_,e,ex,_⟩:=I.hok p _ hk
       exact⟨o,e,ex⟩
    obtain⟨o,e,ex⟩:=z;refine⟨⟨o,e,ex.1⟩,fun a e2=>?_⟩
    cases e2;exact⟨o,e,ex.2.1⟩
  · obtain⟨o,_,_,_,e,ex,_⟩:=I.hok p _ hk
    refine⟨⟨o,e,ex.1⟩,fun a e2=>?_⟩
    cases e2;exact⟨o,e,ex.2.1⟩
 |_=>exact False.elim ty
noncomputable def tBM (K:Frg)(T:String)(r:V->LV->Hp->VK->Prop)(to:TE)(t:TA):TE:=fun σ H Q=>to σ H fun x H1=>tyV K T x H1/\t σ H1 fun xs H2=>r x xs H2 Q
variable {o e:Expr}{es:LEx}{to:TE}{t:TA}{name:Str}{apos cpos:Pos}{T id:String}{r:V->LV->Hp->VK->Prop}
theorem qsV(pa:PlainAttrs T)(slot:Slot T name id)(hty:typeOf (.builtin id)=pure (.type "method_descriptor"))(hm:MtR X id r)(ho:PE X o to)(ha:PA X (e::es) t)
 (hbase:attributeBase o name X.env (eval o X.env)=eval o X.env:=by rfl)
 (hfew:((backTo cpos (starEach (e::es) X.env)).all (fun x=>!x.1)&&(backToKw cpos (keywordEach [] X.env)).all (fun x=>x.1.isSome)
  &&decide ((e::es).length+([]:List Keyword).length+(if([]:List Keyword).isEmpty then 0 else 1)<30))=true:=by rfl)
 (hline:(apos.endLine==cpos.line)=true:=by rfl) (hs:starEach (e::es) X.env=(false,eval e X.env)::starEach es X.env:=by rfl) (hplain:(backTo cpos (starEach es X.env)).any (·.1)=false:=by rfl):
 PE X (.Call (.Attribute o name apos) (e::es) [] cpos) (tBM X.K T r to t):=by
 intro pins s σ H Q I h;refine wpAny_Call_method_late hbase hfew hline rfl (thn (ho pins s σ H _ I h) fun v s1 zz=>?_);obtain⟨x,H1,I1,r1,ty,q1⟩:=zz
 obtain⟨h1,h2⟩:=qrK I1 r1 ty;refine⟨T,id,pa,slot,hty,h1,h2,?_⟩;have hA:=ha cpos pins s1 σ H1 _ I1 q1;rw[hs]at hA ⊢;refine Calls.callWith_builtin (by show(false||(backTo cpos (starEach es X.env)).any (·.1))=false;rw[hplain]<;>rfl) (Calls.evalArgs_plain ?_)
 exact thn hA fun us s2 ⟨vs,H2,I2,r2,q2⟩=>hm pins s2 σ H2 x vs v us Q I2 r1 r2 q2
end
def MtM(X:Cx)(id:String)(r:V->LV->Hp->VK->Prop):Prop:=
 ∀ (pins:LAO) (s:Shared) (σ:St) (H:Hp) (x:V) (xs:LV) (v:Value) (us:LVl) (Q:VK),Inv X pins σ H s->RelV x v->Vals xs us->r x xs H Q->
  wpAny (model X.prog X.w) X.A (call (.builtin id) (v::us)) (EP X pins σ Q) X.xe s
theorem Vals.one:∀ {x:V} {us:LVl},Vals [x] us->∃ u,us= [u]/\RelV x u
 |_,_,.cons r .nil=>⟨_,rfl,r⟩
theorem Vals.rep{xs:LV}{us:LVl}(h:Vals xs us):∀ k:Nat,Vals (List.replicate k xs).flatten (List.replicate k us).flatten
 |0=>.nil
 |k+1=>by
  rw[waY,waY,wbf,wbf];exact Vals.append h (Vals.rep h k)
theorem foldl_rep(its:LVl):∀ (k:Nat) (acc:LVl),
 List.foldl (fun x1 x2=>x1++x2) acc.toArray (List.replicate k its.toArray)=(acc++(List.replicate k its).flatten).toArray
 |0,acc=>by simp
 |k+1,acc=>by
  have e:acc.toArray++its.toArray=(acc++its).toArray:=by simp
  have e2:(acc++its)++(List.replicate k its).flatten=acc++(List.replicate (k+1) its).flatten:=by
   rw[waY,wbf,List.append_assoc]
  rw[<-e2,<-foldl_rep its k (acc++its),<-e,waY,List.foldl_cons]
section
variable {X:Cx}{pins:LAO}{σ:St}{H:Hp}{s:Shared}{l b:Addr}{xs ys zs:LV}
theorem Inv.lset{its its':LVl}{n:Nat}{f:Array Value->Array Value}{t':Nat}(I:Inv X pins σ H s)(hH:H l=some (.lst xs))
 (e:s.heap.get? l=some { cls:=.type "list",data:=.seq its.toArray n }) (hf:f its.toArray=its'.toArray) (hv:Vals ys its') (hz:ys.length<=sizeLine):
 Inv X pins σ (upd H l (.lst ys)) { s with heap:=s.heap.update l (Obj.mapSeq f),toks:=t' }:=by
 have q:=PySem.IsL.update e f;rw[hf]at q;refine I.write (x:=l) (e:=l) (by rw[hH];exact trivial) (.inl rfl) (fun b' u hb hu=>(Heap.get?_update_other s.heap (Obj.mapSeq f) (wa4 hb)).trans hu) ⟨_,q⟩ ?_
 exact⟨hz,its',_,hv,q⟩
theorem Inv.lnew{its:LVl}{t':Nat}(I:Inv X pins σ H s)(hv:Vals ys its)(hz:ys.length<=sizeLine):
 Inv X pins σ (upd H s.heap.objs.size (.lst ys)) { s with heap:=s.heap.push { cls:=.type "list",data:=.seq its.toArray },toks:=t' }:=
 I.laid (fun _ _ q=>wab _ q) (waf _) ⟨hz,its,0,hv,wah _ rfl⟩
theorem Inv.fresh(I:Inv X pins σ H s):H s.heap.objs.size=none:=I.hok.fresh (waf _)
theorem Inv.lstM(I:Inv X pins σ H s)(hH:H l=some (.lst xs)):xs.length<=sizeLine/\∃ (its:LVl) (n:Nat),Vals xs its/\xs.length=its.length/\s.heap.get? l=some { cls:=.type "list",data:=.seq its.toArray n }:=by
 obtain⟨z,its,n,r,e⟩:=I.hok l _ hH;exact⟨z,its,n,r,r.length,e⟩
theorem qnz{n:Nat}(h:n<=sizeLine):Builtin.List.listTooLong n=false:=by
 unfold Builtin.List.listTooLong;exact waB (by omega)
end
section
variable {X:Cx}
noncomputable def qpU:V->LV->Hp->VK->Prop:=fun x vs H Q=>∃ l xs y,x= .ref l/\vs= [y]/\H l=some (.lst xs)/\xs.length<sizeLine/\Q .non (upd H l (.lst (xs++ [y])))
theorem qla:MtM X "list.append" qpU:=by
 intro pins s σ H x vs v us Q I rx rv h;obtain⟨l,xs,y,rfl,rfl,hH,hz,q⟩:=h;cases rx;obtain⟨u,rfl,ru⟩:=rv.one;obtain⟨z,its,n,r,hl,e⟩:=I.lstM hH;refine call_meets F.slot_list_append ⟨_,e,rfl⟩ F.entry_list_append (F.args_list_append_2 _ _) (PySem.list_append l its.toArray n u (by rw[wak];omega)) ⟨e,?_⟩
 refine⟨.non,_,I.lset (its':=its++ [u]) hH e (by simp) (r.append (.cons ru .nil)) ?_,rfl,q⟩
 rw[waC,List.length_singleton];omega
noncomputable def qDz:R2:=fun x y H Q=>∃ l k xs,x= .ref l/\y= .int k/\H l=some (.lst xs)/\-(2 ^ 63)<=k/\k<2 ^ 63/\xs.length*k.toNat<=sizeLine/\
 ∀ p,H p=none->Q (.ref p) (upd H p (.lst (List.replicate k.toNat xs).flatten))
theorem len_rep{α:Type}(xs:List α)(k:Nat):(List.replicate k xs).flatten.length=k*xs.length:=by
 induction k with
 |zero=>simp
 |succ k ih=>rw[waY,wbf,waC,ih,Nat.succ_mul,Nat.add_comm]
theorem qs1:OpR X (binaryOp .Mult) qDz:=by
 intro pins s σ H x y v u Q I rx ry h;obtain⟨l,k,xs,rfl,rfl,hH,h1,h2,hz,q⟩:=h;cases rx;obtain⟨t,rfl⟩:=ry;obtain⟨z,its,n,r,hl,e⟩:=I.lstM hH;have hlen:its.toArray.size*k.toNat<=sizeLine:=by rw[wak,<-hl];exact hz
 have hcap:¬its.toArray.size*k.toNat > (2 ^ 63-1) / 8:=by
  have:(sizeLine:Nat)<=(2 ^ 63-1) / 8:=by decide
  omega
 have hfit:¬(!Builtin.List.listFitsIndex k)=true:=by
  rw[fitsIndex_both h1 h2];exact waA
 have hlong:¬Builtin.List.listTooLong (its.toArray.size*k.toNat)=true:=by
  rw[qnz hlen];exact waA
 have hnew:List.foldl (fun x1 x2=>x1++x2) #[] (List.replicate (if its.toArray.isEmpty=true then 0 else k.toNat) its.toArray)=(List.replicate k.toNat its).flatten.toArray:=by
  have f0:∀ m:Nat,List.foldl (fun x1 x2=>x1++x2) #[] (List.replicate m its.toArray)=(List.replicate m its).flatten.toArray:=fun m=>by
   have:=foldl_rep its m [];rw[List.nil_append]at this;exact this
  rw[f0];cases its with
  |nil=>simp
  |cons a r'=>rw[wad (by simp)]
 refine wpAny_binaryOp_repeat_ref (T:="list") (U:="int") (by decide) ⟨_,e,rfl⟩ (fun s'=>typeIs_int s' k t) noFill_list_mul F.fills_int_mul F.slot_int_rmul repeat_list F.slot_int_index.lookup
  (call_meets F.slot_int_rmul (typeIs_int s k t) F.entry_int_rmul (F.args_int_rmul_2 _ _) (int___rmul___int_list k t l its.toArray n)
   ⟨e,rfl,⟨_,e,rfl⟩,call_meets F.slot_list_mul ⟨_,e,rfl⟩ F.entry_list_mul (F.args_list_mul_2 _ _) (AutoListH.list___mul___list_int_3 l its.toArray n k t hfit hcap hlong) ⟨e,?_⟩⟩)
 rw[hnew];exact⟨.ref _,_,I.lnew (t':=s.toks) (r.rep k.toNat) (by rw[len_rep,Nat.mul_comm];exact hz),rfl,q _ I.fresh⟩
end
section
variable {κ:Type}[DecidableEq κ]
def qeU(kvs:List (κ×V))(k:κ):Option V:=(kvs.find? fun kv=>decide (kv.1=k)).map (·.2)
noncomputable def putK (kvs:List (κ×V))(k:κ)(v:V):List (κ×V):=
 if(kvs.any fun kv=>decide (kv.1=k))=true then kvs.map (fun kv=>if kv.1=k then(kv.1,v)else kv)else kvs++ [(k,v)]
def qeN(kvs:List (κ×V))(k:κ):List (κ×V):=kvs.filter fun kv=>decide (kv.1≠k)
theorem qcz{p:κ×V}{r:List (κ×V)}{k:κ}(e:p.1=k):qeU (p::r) k=some p.2:=by simp[qeU,waN,e]
theorem qbM{p:κ×V}{r:List (κ×V)}{k:κ}(e:¬p.1=k):qeU (p::r) k=qeU r k:=by simp[qeU,waN,e]
theorem qdU(k:κ):∀ kvs:List (κ×V),(kvs.any fun kv=>decide (kv.1=k))=(qeU kvs k).isSome
 | []=>rfl
 |p::r=>by
  rw[wa7]
  by_cases e:p.1=k
  · simp only[qcz e,wba e,Bool.true_or,Option.isSome_some]
  · rw[qbM e,waB e,Bool.false_or];exact qdU k r
theorem qcv(kvs:List (κ×V))(k:κ)(v:V):(putK kvs k v).length<=kvs.length+1:=by
 unfold putK;split
 · rw[waj];omega
 · rw[waC,wal,List.length_nil];omega
theorem qnd{kvs:List (κ×V)}{k:κ}(v:V)(h:qeU kvs k=none):putK kvs k v=kvs++ [(k,v)]:=by
 unfold putK;rw[qdU,h];exact wad (by decide)
theorem RelO.isSome_eq{o:Option V}{u:OVl}(r:RelO o u):o.isSome=u.isSome:=by
 cases o with
 |none=>cases u with
  |none=>rfl
  |some _=>exact(show False from r).elim
 |some _=>cases u with
  |none=>exact(show False from r).elim
  |some _=>rfl
theorem RelO.getD{o:Option V}{u:OVl}{d:V}{d':Value}(r:RelO o u)(rd:RelV d d'):RelV (o.getD d) (u.getD d'):=by
 cases o with
 |none=>cases u with
  |none=>exact rd
  |some _=>exact(show False from r).elim
 |some _=>cases u with
  |none=>exact(show False from r).elim
  |some _=>exact r
theorem KV.val{kvs:List (κ×V)}{vs:List (κ×Value)}(r:KV kvs vs)(k:κ):RelO (qeU kvs k) (valueAt vs k):=by
 unfold KV at r
 induction r with
 |nil=>exact True.intro
 | @cons p q ps qs h t ih=>
  obtain⟨h1,h2⟩:=h
  by_cases e:p.1=k
  · have e':q.1=k:=h1.symm.trans e
    have b:valueAt (q::qs) k=some q.2:=by simp[valueAt,waN,e']
    rw[qcz e,b];exact h2
  · have e':¬q.1=k:=fun z=>e (h1.trans z)
    have b:valueAt (q::qs) k=valueAt qs k:=by simp[valueAt,waN,e']
    rw[qbM e,b];exact ih
theorem KV.any{kvs:List (κ×V)}{vs:List (κ×Value)}(r:KV kvs vs)(k:κ):(kvs.any fun kv=>decide (kv.1=k))=vs.any fun kv=>decide (kv.1=k):=by
 unfold KV at r
 induction r with
 |nil=>rfl
 |cons h t ih=>rw[wa7,wa7,ih,h.1]
theorem KV.repl{kvs:List (κ×V)}{vs:List (κ×Value)}(r:KV kvs vs)(k:κ){y:V}{u:Value}(ry:RelV y u):
 KV (kvs.map fun kv=>if kv.1=k then(kv.1,y)else kv) (vs.map fun kv=>if kv.1=k then(kv.1,u)else kv):=by
 unfold KV at r ⊢
 induction r with
 |nil=>exact .nil
 | @cons p q ps qs h t ih=>
  rw[wan,wan];refine .cons ?_ ih;obtain⟨h1,h2⟩:=h
  by_cases e:p.1=k
  · rw[wag e,wag (h1.symm.trans e)];exact⟨h1,ry⟩
  · rw[wad e,wad (fun z=>e (h1.trans z))];exact⟨h1,h2⟩
theorem KV.put{kvs:List (κ×V)}{vs:List (κ×Value)}(r:KV kvs vs)(k:κ){y:V}{u:Value}(ry:RelV y u):KV (putK kvs k y) (stored vs k u):=by
 unfold putK stored;rw[r.any k]
 by_cases e:(vs.any fun kv=>decide (kv.1=k))=true
 · rw[wag e,wag e];exact r.repl k ry
 · rw[wad e,wad e];exact Paired.snoc r ⟨rfl,ry⟩
theorem KV.drop{kvs:List (κ×V)}{vs:List (κ×Value)}(r:KV kvs vs)(k:κ):KV (qeN kvs k) (without vs k):=by
 unfold KV at r ⊢;unfold qeN without
 induction r with
 |nil=>exact .nil
 | @cons p q ps qs h t ih=>
  obtain⟨h1,h2⟩:=h;rw[waV,waV]
  by_cases e:p.1=k
  · have a:¬decide (p.1≠k)=true:=by simp[e]
    have b:¬decide (q.1≠k)=true:=by simp[h1.symm.trans e]
    rw[wad a,wad b];exact ih
  · have e':¬q.1=k:=fun z=>e (h1.trans z)
    have a:decide (p.1≠k)=true:=by simp[e]
    have b:decide (q.1≠k)=true:=by simp[e']
    rw[wag a,wag b];exact .cons ⟨h1,h2⟩ ih
theorem KV.length{kvs:List (κ×V)}{vs:List (κ×Value)}(r:KV kvs vs):kvs.length=vs.length:=Paired.length r
theorem qnY(kvs:List (κ×V))(k:κ):(qeN kvs k).length<=kvs.length:=wbp _ _
end
theorem qdk{P:Program}{w:World}{k:Key}{u:Value}(r:RelV (kV k) u):(qai P w).is k u=true:=by
 cases k with
 |inl i=>obtain⟨t,e⟩:=(show ∃ t,u=Value.int i t from r);subst e;exact qic P w i t
 |inr x=>obtain⟨t,e⟩:=(show ∃ t,u=Value.str x t from r);subst e;exact qep P w x t
theorem qwW{P:Program}{w:World}{k:qbE}{u:Value}(r:RelV (oV k) u):(optKind P w).is k u=true:=by
 cases k with
 |none=>cases(show u=Value.none from r);rfl
 |some j=>exact qdk (P:=P) (w:=w) r
theorem qhi{P:Program}{w:World}:∀ {ks:List qbE} {us:LVl},Vals (ks.map oV) us->ItemsAre (optKind P w) ks us
 | [],_,r=>by rw[wbh]at r;cases r;exact .nil
 |k::ks,_,r=>by
  rw[wan]at r;cases r with
  |cons h t=>exact .cons (qwW h) (qhi t)
abbrev KT(H:Hp):List (List qbE×V)->List (List qbE×Addr×Value)->Prop:=Paired fun p q=>p.1=q.1/\H q.2.1=some (.tup (p.1.map oV))/\RelV p.2 q.2.2
theorem KT.val{H:Hp}{kvs:List (List qbE×V)}{xs:List (List qbE×Addr×Value)}(r:KT H kvs xs)(k:List qbE):RelO (qeU kvs k) ((atKey xs k).map (·.2)):=by
 induction r with
 |nil=>exact True.intro
 | @cons p q ps qs h t ih=>
  obtain⟨h1,_,h2⟩:=h
  by_cases e:p.1=k
  · have e':q.1=k:=h1.symm.trans e
    have b:atKey (q::qs) k=some q.2:=by simp[atKey,waN,e']
    rw[qcz e,b];exact h2
  · have e':¬q.1=k:=fun z=>e (h1.trans z)
    have b:atKey (q::qs) k=atKey qs k:=by simp[atKey,waN,e']
    rw[qbM e,b];exact ih
theorem KT.repl{H:Hp}{kvs:List (List qbE×V)}{xs:List (List qbE×Addr×Value)}(r:KT H kvs xs)(k:List qbE){y:V}{u:Value}(ry:RelV y u):
 KT H (kvs.map fun kv=>if kv.1=k then(kv.1,y)else kv) (xs.map (putAt k u)):=by
 induction r with
 |nil=>exact .nil
 | @cons p q ps qs h t ih=>
  rw[wan,wan];refine .cons ?_ ih;obtain⟨h1,h2,h3⟩:=h;unfold putAt
  by_cases e:p.1=k
  · rw[wag e,wag (h1.symm.trans e)];exact⟨h1,h2,ry⟩
  · rw[wad e,wad (fun z=>e (h1.trans z))];exact⟨h1,h2,h3⟩
theorem KT.put{H:Hp}{kvs:List (List qbE×V)}{xs:List (List qbE×Addr×Value)}(r:KT H kvs xs)(k:List qbE){b:Addr}{y:V}{u:Value}(hb:H b=some (.tup (k.map oV)))(ry:RelV y u):
 KT H (putK kvs k y) (storedH xs k b u):=by
 have e:(kvs.any fun kv=>decide (kv.1=k))=(atKey xs k).isSome:=by
  rw[qdU,(r.val k).isSome_eq,wby]
 unfold putK storedH;rw[e]
 by_cases q:(atKey xs k).isSome=true
 · rw[wag q,wag q];exact r.repl k ry
 · rw[wad q,wad q];exact Paired.snoc r ⟨rfl,hb,ry⟩
theorem KT.keeps{H H':Hp}{kvs:List (List qbE×V)}{xs:List (List qbE×Addr×Value)}(r:KT H kvs xs)(ht:∀ b ys,H b=some (.tup ys)->H' b=some (.tup ys)):KT H' kvs xs:=
 Paired.mapP r fun _ _ z=>⟨z.1,ht _ _ z.2.1,z.2.2⟩
section
variable {P:Program}{w:World}{H:Hp}{h:Heap}{a:Addr}
theorem qsh{u:HO}(ok:HOk P w H h)(e:Rd H a u):ObjOk P w H h a u:=e.ok ok
theorem qgb{kvs:List (Key×V)}(ok:HOk P w H h)(e:Rd H a (.dK kvs)):kvs.length<=sizeLine/\(a==sysModules)=false/\∃ vs,KV kvs vs/\h.DictOf (qai P w) a vs:=
 show ObjOk P w H h a (.dK kvs)from qsh ok e
theorem qq3{kvs:List (Key×V)}(ok:HOk P w H h)(e:H a=some (.dK kvs)):kvs.length<=sizeLine/\(a==sysModules)=false/\∃ vs,KV kvs vs/\h.DictOf (qai P w) a vs:=qgb ok (.inl e)
theorem qdt{ks:List qbE}(ok:HOk P w H h)(e:H a=some (.tup (ks.map oV))):(tupleKind (optKind P w)).is h ks a:=by
 obtain⟨_,its,r,o,h1,h2,n,h3⟩:=(show ObjOk P w H h a (.tup (ks.map oV))from ok a _ e)
 exact⟨o,its.toArray,n,h1,h2,h3,by simpa using qhi r⟩
theorem qhr{kvs:List (List qbE×V)}(ok:HOk P w H h)(e:Rd H a (.dT kvs)):kvs.length<=sizeLine/\(a==sysModules)=false/\
 ∃ xs,KT H kvs xs/\h.DictOfH (tupleKind (optKind P w)) a xs:=by
 obtain⟨z,y,xs,r,o,es,ep,h1,h2,h3,h4,h5⟩:=(show ObjOk P w H h a (.dT kvs)from qsh ok e)
 refine⟨z,y,xs,r,o,es,ep,h1,h2,h3,h4,fun x hx=>?_,h5⟩
 have all:∀ {l:List (List qbE×V)} {m:List (List qbE×Addr×Value)},KT H l m->∀ x∈m,(tupleKind (optKind P w)).is h x.1 x.2.1:=by
  intro l m q
  induction q with
  |nil=>intro x hx;exact nomatch hx
  | @cons p q ps qs hq t ih=>
   intro x hx;rcases waH.mp hx with e|hx
   · subst e
     exact qdt ok (by rw[<-hq.1];exact hq.2.1)
   · exact ih x hx
 exact all r x hx
theorem qq2{kvs:List (List qbE×V)}(ok:HOk P w H h)(e:H a=some (.dT kvs)):kvs.length<=sizeLine/\(a==sysModules)=false/\
 ∃ xs,KT H kvs xs/\h.DictOfH (tupleKind (optKind P w)) a xs:=qhr ok (.inl e)
end
def DGet(H:Hp)(a:Addr)(y:V)(r:Option V):Prop:=
 (∃ kvs k,Rd H a (.dK kvs)/\y=kV k/\r=qeU kvs k)∨∃ kvs k b,Rd H a (.dT kvs)/\y= .ref b/\H b=some (.tup (k.map oV))/\r=qeU kvs k
def DPut(H:Hp)(a:Addr)(y v:V)(H':Hp):Prop:=
 (∃ kvs k,H a=some (.dK kvs)/\y=kV k/\kvs.length<sizeLine/\H'=upd H a (.dK (putK kvs k v)))∨
 ∃ kvs k b,H a=some (.dT kvs)/\y= .ref b/\H b=some (.tup (k.map oV))/\kvs.length<sizeLine/\H'=upd H a (.dT (putK kvs k v))
theorem DGet.k{H:Hp}{a:Addr}{kvs:List (Key×V)}{k:Key}(e:H a=some (.dK kvs)):DGet H a (kV k) (qeU kvs k):=.inl ⟨kvs,k,.inl e,rfl,rfl⟩
theorem DGet.t{H:Hp}{a b:Addr}{kvs:List (List qbE×V)}{k:List qbE}(e:H a=some (.dT kvs))(eb:H b=some (.tup (k.map oV))):DGet H a (.ref b) (qeU kvs k):=.inr ⟨kvs,k,b,.inl e,rfl,eb,rfl⟩
theorem DPut.k{H:Hp}{a:Addr}{kvs:List (Key×V)}{k:Key}{v:V}(e:H a=some (.dK kvs))(hl:kvs.length<sizeLine):DPut H a (kV k) v (upd H a (.dK (putK kvs k v))):=.inl ⟨kvs,k,e,rfl,hl,rfl⟩
theorem DPut.t{H:Hp}{a b:Addr}{kvs:List (List qbE×V)}{k:List qbE}{v:V}(e:H a=some (.dT kvs))(eb:H b=some (.tup (k.map oV)))(hl:kvs.length<sizeLine):
 DPut H a (.ref b) v (upd H a (.dT (putK kvs k v))):=.inr ⟨kvs,k,b,e,rfl,eb,hl,rfl⟩
section
variable {X:Cx}{pins:LAO}{σ:St}{H:Hp}{s:Shared}{a:Addr}{y v:V}{u r:Value}{o:Option V}{A:Around}{E:VSP}
theorem Inv.big(I:Inv X pins σ H s):sysModules<s.heap.objs.size:=by
 have h:mainGlobals<s.heap.objs.size:=(I.mod.glob.keeps I.bk).lt;exact Nat.lt_trans (by decide) h
theorem qmc{Q:VSP}(hu:A.units+1<cLine)(I:Inv X pins σ H s)(g:DGet H a y (some v))(ry:RelV y u)(h:∀ w' s',Inv X pins σ H s'->RelV v w'->Q w' s'):
 wpAny (model X.prog X.w) A (getItem (.ref a) u) Q E s:=by
 rcases g with⟨kvs,k,e,ey,l⟩|⟨kvs,k,b,e,ey,eb,l⟩
 · subst ey
   obtain⟨z,hd,vs,rel,dd⟩:=qgb I.hok e;obtain⟨w',hw,rw'⟩:=RelO.some_of (v:=v) (o:=valueAt vs k) (by rw[l];exact rel.val k)
   exact wpAny_getItem_of (qdk ry) dd.mapOf hw (h w' _ (I.tok _) rw')
 · subst ey
   cases(show u=Value.ref b from ry)
   obtain⟨z,hd,xs,rel,dd⟩:=qhr I.hok e;obtain⟨w',hw,rw'⟩:=RelO.some_of (v:=v) (o:=(atKey xs k).map (·.2)) (by rw[l];exact rel.val k)
   obtain⟨p,hp,hp2⟩:=Option.map_eq_some_iff.mp hw;refine wpAny_getItem_heap (tupleKind_room_in1 hu) (qdt I.hok eb) dd hp ?_;rw[hp2];exact h w' _ (I.tok _) rw'
theorem qD3{Q:VSP}(hu:A.units+1<cLine)(I:Inv X pins σ H s)(g:DGet H a y o)(ry:RelV y u)(h:∀ s',Inv X pins σ H s'->Q (.bool o.isSome) s'):
 wpAny (model X.prog X.w) A (compareOp .In u (.ref a)) Q E s:=by
 rcases g with⟨kvs,k,e,ey,l⟩|⟨kvs,k,b,e,ey,eb,l⟩
 · subst ey
   obtain⟨z,hd,vs,rel,dd⟩:=qgb I.hok e;refine wpAny_in_of (qdk ry) hd dd.mapOf ?_;rw[<-(rel.val k).isSome_eq,<-l];exact h _ (I.tok _)
 · subst ey
   cases(show u=Value.ref b from ry)
   obtain⟨z,hd,xs,rel,dd⟩:=qhr I.hok e;refine wpAny_in_heap (tupleKind_room_in1 hu) (qdt I.hok eb) hd dd ?_;have q:=(rel.val k).isSome_eq;rw[wby]at q;rw[<-q,<-l];exact h _ (I.tok _)
theorem qq4{Q:VSP}(hu:A.units+1<cLine)(I:Inv X pins σ H s)(g:DGet H a y o)(ry:RelV y u)(h:∀ s',Inv X pins σ H s'->Q (.bool (!o.isSome)) s'):
 wpAny (model X.prog X.w) A (compareOp .NotIn u (.ref a)) Q E s:=by
 rcases g with⟨kvs,k,e,ey,l⟩|⟨kvs,k,b,e,ey,eb,l⟩
 · subst ey
   obtain⟨z,hd,vs,rel,dd⟩:=qgb I.hok e;refine wpAny_notIn_of (qdk ry) hd dd.mapOf ?_;rw[<-(rel.val k).isSome_eq,<-l];exact h _ (I.tok _)
 · subst ey
   cases(show u=Value.ref b from ry)
   obtain⟨z,hd,xs,rel,dd⟩:=qhr I.hok e;refine wpAny_notIn_heap (tupleKind_room_in1 hu) (qdt I.hok eb) hd dd ?_;have q:=(rel.val k).isSome_eq;rw[wby]at q;rw[<-q,<-l];exact h _ (I.tok _)
theorem qeP{h':Heap}{t':Nat}{ob:HO}(I:Inv X pins σ H s)(mu:Mut (H a))(hs:Heap.SameBut a s.heap h')(he:∃ q,h'.get? a=some q)(new:ObjOk X.prog X.w (upd H a ob) h' a ob):
 Inv X pins σ (upd H a ob) { s with heap:=h',toks:=t' }:=
 I.write (x:=a) (e:=a) mu (.inl rfl) (fun b q hb z=>(hs.2 b hb).trans z) he new
theorem ql7{P:Program}{w:World}{H':Hp}{h':Heap}{kvs:List (Key×V)}{vs:List (Key×Value)}(z:kvs.length<=sizeLine)(hd:(a==sysModules)=false)(rel:KV kvs vs)(dd:h'.DictOf (qai P w) a vs):
 ObjOk P w H' h' a (.dK kvs):=⟨z,hd,vs,rel,dd⟩
theorem qmb{H':Hp}{Q:Unit->Shared->Prop}(hu:A.units+1<cLine)(I:Inv X pins σ H s)(g:DPut H a y v H')(ry:RelV y u)(rv:RelV v r)(h:∀ s',Inv X pins σ H' s'->Q () s'):
 wpAny (model X.prog X.w) A (setItem (.ref a) u r) Q E s:=by
 rcases g with⟨kvs,k,e,ey,l,eH⟩|⟨kvs,k,b,e,ey,eb,l,eH⟩
 · subst ey eH
   obtain⟨z,hd,vs,rel,dd⟩:=qq3 I.hok e;have hz:vs.length<=sizeLine:=by rw[<-rel.length];exact z
   have hl:(putK kvs k v).length<=sizeLine:=by have:=qcv kvs k v;omega
   refine wpAny_setItem_pairs (hsz:=hz) (qdk ry) dd fun h' dd' hs=>h _ ?_
   have he:∃ q,h'.get? a=some q:=let⟨q,_,_,hq,_⟩:=dd';⟨q,hq⟩;exact qeP I (by rw[e];exact True.intro) hs he (ql7 hl hd (rel.put k rv) dd')
 · subst ey eH
   cases(show u=Value.ref b from ry)
   obtain⟨z,hd,xs,rel,dd⟩:=qq2 I.hok e;have hz:xs.length<=sizeLine:=by rw[<-Paired.length rel];exact z
   have hl:(putK kvs k v).length<=sizeLine:=by have:=qcv kvs k v;omega
   refine wpAny_setItem_heap (hsz:=hz) (tupleKind_room_in1 hu) (qdt I.hok eb) dd fun h' dd' hs=>h _ ?_
   obtain⟨q,es,ep,hq,h2,h3,h4,_,h5⟩:=dd';refine qeP I (by rw[e];exact True.intro) hs ⟨q,hq⟩ ⟨hl,hd,_,(rel.put k eb rv).keeps fun c ys ec=>?_,q,es,ep,hq,h2,h3,h4,h5⟩
   rw[qaa (qeo ec e (fun z=>nomatch z))]
   exact ec
end
section
variable {X:Cx}{pins:LAO}{σ:St}{H:Hp}{s:Shared}{a:Addr}{kvs:List (Key×V)}{k:Key}{u:Value}{A:Around}{E:VSP}
theorem qmd{Q:Unit->Shared->Prop}(I:Inv X pins σ H s)(e:H a=some (.dK kvs))(ry:RelV (kV k) u)(l:(qeU kvs k).isSome=true)(h:∀ s',Inv X pins σ (upd H a (.dK (qeN kvs k))) s'->Q () s'):
 wpAny (model X.prog X.w) A (delItem (.ref a) u) Q E s:=by
 obtain⟨z,hd,vs,rel,dd⟩:=qq3 I.hok e;refine wpAny_delItem_slot dd.typeIs (by decide) PySem.F.slot_dict_delitem
  (call_meetsIn PySem.F.slot_dict_delitem dd.typeIs PySem.F.entry_dict_delitem (PySem.F.args_dict_delitem_2 _ _) (meets_dict_delitem_pairs (qai X.prog X.w) a (qdk ry)) ⟨vs,dd,by rw[<-rel.length];exact z,by rw[<-(rel.val k).isSome_eq];exact l,fun h' dd' hs=>h _ ?_⟩)
 have he:∃ q,h'.get? a=some q:=let⟨q,_,_,hq,_⟩:=dd';⟨q,hq⟩;exact qeP I (by rw[e];exact True.intro) hs he (ql7 (was (qnY kvs k) z) hd (rel.drop k) dd')
theorem qxw{Q:VSP}(I:Inv X pins σ H s)(e:Rd H a (.dK kvs))(h:∀ t s',Inv X pins σ H s'->Q (.int kvs.length t) s'):wpAny (model X.prog X.w) A (call (.builtin "len") [.ref a]) Q E s:=by
 obtain⟨z,hd,vs,rel,dd⟩:=qgb I.hok e;refine call_len_dict hd dd (by rw[<-rel.length];rw[sizeLine_eq]at z;omega) ?_
 rw[<-rel.length];exact h _ _ (I.tok _)
end
def qvh(i:Expr):Prop:=∀ ov iv,subscripted i false ov iv=operate [ov,iv] (getItem ov iv)
theorem qkq{prog:Program}{w:World}{A:Around}{E:VSP}{s:Shared}{env:Env}{value slice:Expr}{pos:Pos}{T id:String}{Q:VSP}
 (hl:typeLookup (.type T) "__getitem__" =pure (some (.builtin id))) (hs:qvh slice)
 (h:wpAny (model prog w) A (eval value env) (fun o s₁=>wpAny (model prog w) A (eval slice env) (fun i s₂=>s₂.TypeIs o T/\wpAny (model prog w) A (getItem o i) Q E s₂) E s₁) E s):
 wpAny (model prog w) A (eval (.Subscript value slice pos) env) Q E s:=by
 refine Subscript_ (wa3 h (fun o s₁ h₁=>wa3 h₁ (fun i s₂ h₂=>?_) fun _ _ x=>x) fun _ _ x=>x)
 obtain⟨hT,h₂⟩:=h₂;unfold subscriptTail;refine waa ?_;rw[getitemInPython_of_ne hT.not_modules];refine waa (wpAny_specialOf hT hl ?_);have fin:wpAny (model prog w) A (subscripted slice false o i) (fun r s₃=>wpAny (model prog w) A (letTemporaryGo value o r >>= fun _=>pure r) Q E s₃) E s₂:=by
  rw[hs o i];exact wpAny_operating (wa3 h₂ (fun r s₃ h₃=>waa (wpAny_letTemporaryGo (wae h₃))) fun _ _ x=>x)
 first
  |exact wae (waa fin)
  |exact waa (wae (waa fin))
  |exact waa fin
theorem qiB{X:Cx}{pins:LAO}{σ:St}{H:Hp}{s:Shared}{a:Addr}{y:V}{o:Option V}(I:Inv X pins σ H s)(g:DGet H a y o):s.TypeIs (.ref a) "dict":=by
 rcases g with⟨kvs,k,e,_,_⟩|⟨kvs,k,b,e,_,_,_⟩
 · obtain⟨_,_,vs,_,dd⟩:=qgb I.hok e
   exact dd.typeIs
 · obtain⟨_,_,xs,_,dd⟩:=qhr I.hok e
   exact dd.typeIs
def qvF(td ty:TE):TE:=fun σ H Q=>td σ H fun x H1=>ty σ H1 fun y H2=>∃ a v,x= .ref a/\DGet H2 a y (some v)/\Q v H2
def qCT(ty td:TE):TE:=fun σ H Q=>ty σ H fun y H1=>td σ H1 fun x H2=>∃ a o,x= .ref a/\DGet H2 a y o/\Q (.bl o.isSome) H2
def qpu(ty td:TE):TE:=fun σ H Q=>ty σ H fun y H1=>td σ H1 fun x H2=>∃ a o,x= .ref a/\DGet H2 a y o/\Q (.bl (!o.isSome)) H2
def qvW(td ty tv:TE):TS:=fun D σ H=>tv σ H fun v H1=>td σ H1 fun x H2=>ty σ H2 fun y H3=>∃ a H4,x= .ref a/\DPut H3 a y v H4/\D.nx σ H4
section
variable {X:Cx}{o i e value:Expr}{pos pos' tpos:Pos}{td ty tv:TE}
theorem qqa(hu:X.A.units+1<cLine)(ho:PE X o td)(hi:PE X i ty)(hs:qvh i):PE X (.Subscript o i pos) (qvF td ty):=by
 intro pins s σ H Q I h;refine qkq PySem.F.slot_dict_getitem.lookup hs (thn (ho pins s σ H _ I h) fun u s1 ⟨x,H1,I1,rx,q1⟩=>thn (hi pins s1 σ H1 _ I1 q1) fun iv s2 zz=>?_);obtain⟨y,H2,I2,ry,a,v,ex,g,q2⟩:=zz
 subst ex;obtain rfl:u=Value.ref a:=rx;exact⟨qiB I2 g,qmc hu I2 g ry fun w' s3 I3 rw'=>⟨v,H2,I3,rw',q2⟩⟩
theorem qoG(hu:X.A.units+1<cLine)(hi:PE X i ty)(ho:PE X o td):PC X .In i o (qCT ty td):=by
 intro pins s σ H Q I h;refine thn (hi pins s σ H _ I h) fun iv s1 ⟨y,H1,I1,ry,q1⟩=>thn (ho pins s1 σ H1 _ I1 q1) fun u s2 zz=>?_;obtain⟨x,H2,I2,rx,a,ov,ex,g,q2⟩:=zz
 subst ex;obtain rfl:u=Value.ref a:=rx;exact qD3 hu I2 g ry fun s3 I3=>⟨.bl ov.isSome,H2,I3,rfl,q2⟩
theorem qgU(hu:X.A.units+1<cLine)(hi:PE X i ty)(ho:PE X o td):PC X .NotIn i o (qpu ty td):=by
 intro pins s σ H Q I h;refine thn (hi pins s σ H _ I h) fun iv s1 ⟨y,H1,I1,ry,q1⟩=>thn (ho pins s1 σ H1 _ I1 q1) fun u s2 zz=>?_;obtain⟨x,H2,I2,rx,a,ov,ex,g,q2⟩:=zz
 subst ex;obtain rfl:u=Value.ref a:=rx;exact qq4 hu I2 g ry fun s3 I3=>⟨.bl (!ov.isSome),H2,I3,rfl,q2⟩
theorem qpZ(hu:X.A.units+1<cLine)(ho:PE X o td)(hi:PE X i ty)(hv:PE X value tv)(hs:swapsWith value (some (.Subscript o i pos')) pos.line X.env=pure false):
 PS X (.Assign [.Subscript o i pos'] value pos) (qvW td ty tv):=by
 intro pins s σ H D I h;refine wpAny_Assign_Subscript (thn (hv pins s σ H _ I h) fun r s1 ⟨v,H1,I1,rv,q1⟩=>thn (ho pins s1 σ H1 _ I1 q1) fun u s2 ⟨x,H2,I2,rx,q2⟩=>thn (hi pins s2 σ H2 _ I2 q2) fun iv s3 zz=>?_) hs;obtain⟨y,H3,I3,ry,a,H4,ex,g,q3⟩:=zz
 subst ex;obtain rfl:u=Value.ref a:=rx;exact qmb hu I3 g ry rv fun s4 I4=>⟨σ,H4,I4,q3⟩
end
theorem qjj{P:Program}{w:World}{H:Hp}(h:Heap)(hb:sysModules<h.objs.size):ObjOk P w H (h.push { cls:=.type "dict",data:=.dict #[] }) h.objs.size (.dK []):=
 ⟨wbi _,waR.mpr (wa4 (waq hb)),[],.nil,Heap.DictOf.new h⟩
theorem qnX{P:Program}{w:World}{H:Hp}(h:Heap)(hb:sysModules<h.objs.size):ObjOk P w H (h.push { cls:=.type "dict",data:=.dict #[] }) h.objs.size (.dT []):=
 ⟨wbi _,waR.mpr (wa4 (waq hb)),[],.nil,_,#[],0,wah _ rfl,⟨rfl,rfl,rfl⟩,rfl,rfl,List.nodup_nil⟩
def qrW:TE:=fun _ H Q=>∀ p,H p=none->Q (.ref p) (upd H p (.dK []))
def qrV:TE:=fun _ H Q=>∀ p,H p=none->Q (.ref p) (upd H p (.dT []))
section
variable {X:Cx}{pos:Pos}
theorem qnn:PE X (.Dict [] [] pos) qrW:=fun pins s σ H Q I h=>
 wpAny_Dict_empty ⟨.ref s.heap.objs.size,_,I.laid (a:=s.heap.objs.size) (o:=.dK []) (t':=s.toks) (fun _ _ q=>wab _ q) (waf _) (qjj s.heap I.big),rfl,h _ (I.hok.fresh (waf _))⟩
theorem qnm:PE X (.Dict [] [] pos) qrV:=fun pins s σ H Q I h=>
 wpAny_Dict_empty ⟨.ref s.heap.objs.size,_,I.laid (a:=s.heap.objs.size) (o:=.dT []) (t':=s.toks) (fun _ _ q=>wab _ q) (waf _) (qnX s.heap I.big),rfl,h _ (I.hok.fresh (waf _))⟩
end
noncomputable def qiP:List (TE×TE)->St->Hp->(List (V×V)->Hp->Prop)->Prop
 | [],_,H,Q=>Q [] H
 |(tk,tv)::r,σ,H,Q=>tk σ H fun x H1=>tv σ H1 fun y H2=>qiP r σ H2 fun ps H3=>Q ((x,y)::ps) H3
abbrev VV:List (V×V)->List (Value×Value)->Prop:=Paired fun p q=>RelV p.1 q.1/\RelV p.2 q.2
def PPs(X:Cx)(pos:Pos)(keys:List (Option Expr))(values:LEx)(trs:List (TE×TE)):Prop:=
 ∀ (pins:LAO) (s:Shared) (σ:St) (H:Hp) (Q:List (V×V)->Hp->Prop),Inv X pins σ H s->qiP trs σ H Q->
  wpAny (model X.prog X.w) X.A (evalPairs (pairTrees keys values X.env pos)) (fun vs s'=>∃ ps H',Inv X pins σ H' s'/\VV ps vs/\Q ps H') X.xe s
theorem qp0{X:Cx}{pos:Pos}:PPs X pos [] [] []:=fun pins s σ H Q I h=>pairTrees_nil_walk ⟨[],H,I,.nil,h⟩
theorem qng{X:Cx}{pos:Pos}{k v:Expr}{ks:List (Option Expr)}{vs:LEx}{tk tv:TE}{trs:List (TE×TE)}(hk:PE X k tk)(hv:PE X v tv)(hr:PPs X pos ks vs trs):
 PPs X pos (some k::ks) (v::vs) ((tk,tv)::trs):=fun pins s σ H Q I h=>
 pairTrees_cons_walk (thn (hk pins s σ H _ I h) fun u s1 ⟨x,H1,I1,rx,q1⟩=>thn (hv pins s1 σ H1 _ I1 q1) fun w2 s2 ⟨y,H2,I2,ry,q2⟩=>
  thn (hr pins s2 σ H2 _ I2 q2) fun ws s3 ⟨ps,H3,I3,rel,q3⟩=>⟨(x,y)::ps,H3,I3,.cons ⟨rx,ry⟩ rel,q3⟩)
def qcF(kvs more:List (Key×V)):List (Key×V):=more.foldl (fun acc kv=>putK acc kv.1 kv.2) kvs
theorem KV.merge:∀ {more:List (Key×V)} {rs:List (Key×Value)} {kvs:List (Key×V)} {vs:List (Key×Value)},KV more rs->KV kvs vs->KV (qcF kvs more) (merged vs rs):=by
 intro more rs kvs vs r;unfold KV at r
 induction r generalizing kvs vs with
 |nil=>intro q;exact q
 | @cons p q ps qs h t ih=>
  intro r0;have e:KV (putK kvs p.1 p.2) (stored vs q.1 q.2):=by
   have:=r0.put p.1 h.2;rw[<-h.1];exact this
  exact ih e
theorem qcM:∀ (more kvs:List (Key×V)),(qcF kvs more).length<=kvs.length+more.length
 | [],kvs=>by show kvs.length<=kvs.length+0;omega
 |p::r,kvs=>by
  have h1:=qcM r (putK kvs p.1 p.2);have h2:=qcv kvs p.1 p.2;show(qcF (putK kvs p.1 p.2) r).length<=_;rw[wal];omega
theorem qfx{P:Program}{w:World}:∀ {kvs:List (Key×V)} {ws:List (Value×Value)},VV (kvs.map fun kv=>(kV kv.1,kv.2)) ws->∃ rs,Carries (qai P w) ws rs/\KV kvs rs
 | [],_,r=>by rw[wbh]at r;cases r;exact⟨[],True.intro,.nil⟩
 |p::kvs,_,r=>by
  rw[wan]at r;cases r with
  | @cons a b as bs h t=>
   obtain⟨rs,c,q⟩:=qfx (P:=P) (w:=w) t;obtain⟨b1,b2⟩:=b;exact⟨(p.1,b2)::rs,⟨qdk h.1,rfl,c⟩,.cons ⟨rfl,h.2⟩ q⟩
noncomputable def qvD (trs:List (TE×TE)):TE:=fun σ H Q=>∀ p,H p=none->qiP trs σ (upd H p (.dK [])) fun ps H2=>H2 p=some (.dK [])/\∃ kvs:List (Key×V),ps=kvs.map (fun kv=>(kV kv.1,kv.2))/\kvs.length<=15/\Q (.ref p) (upd H2 p (.dK (qcF [] kvs)))
theorem qp9{X:Cx}{pos:Pos}{keys:List (Option Expr)}{values:LEx}{trs:List (TE×TE)}(h:PPs X pos keys values trs)(hall:keys.all (·.isSome)=true)(hl:keys.length=values.length)(h0:keys≠[])
 (h15:keys.length<=15):PE X (.Dict keys values pos) (qvD trs):=by
 intro pins s σ H Q I q;have hn:=I.hok.fresh (waf s.heap.objs.size);have I1:=I.laid (a:=s.heap.objs.size) (o:=.dK []) (h':=s.heap.push { cls:=.type "dict",data:=.dict #[] }) (t':=s.toks) (fun _ _ q=>wab _ q) (waf _) (qjj s.heap I.big)
 refine wpAny_Dict_walk (knd:=qai X.prog X.w) hall hl h0 h15 (thn (h pins _ σ _ _ I1 (q _ hn)) fun ws s2 zz=>?_);obtain⟨ps,H2,I2,rel,e,kvs,ep,lk,q2⟩:=zz
 subst ep;obtain⟨rs,c,rk⟩:=qfx (P:=X.prog) (w:=X.w) rel;obtain⟨z,hd,vs0,r0,dd⟩:=qq3 I2.hok e;cases r0;refine⟨rs,c,dd,fun h' dd' hs=>⟨.ref s.heap.objs.size,_,?_,rfl,q2⟩⟩
 have hz:(qcF [] kvs).length<=sizeLine:=by
  have h1:=qcM kvs [];rw[List.length_nil]at h1;rw[sizeLine_eq];omega
 have he:∃ q,h'.get? s.heap.objs.size=some q:=let⟨q,_,_,hq,_⟩:=dd';⟨q,hq⟩;exact qeP I2 (by rw[e];exact True.intro) hs he (ql7 hz hd (rk.merge .nil) dd')
structure M1(X:Cx)(o:Expr)(m:Str)(apos:Pos)(e:Expr)(cpos:Pos):Prop where
 base:attributeBase o m X.env (eval o X.env)=eval o X.env
 few:((backTo cpos (starEach [e] X.env)).all (fun x=>!x.1)&&(backToKw cpos (keywordEach [] X.env)).all (fun x=>x.1.isSome)
  &&decide (([e]:LEx).length+([]:List Keyword).length+(if([]:List Keyword).isEmpty then 0 else 1)<30))=true
 line:(apos.endLine==cpos.line)=true
 trees:backTo cpos (starEach [e] X.env)= [(false,eval e X.env)]
structure M2(X:Cx)(o:Expr)(m:Str)(apos:Pos)(e f:Expr)(cpos:Pos):Prop where
 base:attributeBase o m X.env (eval o X.env)=eval o X.env
 few:((backTo cpos (starEach [e,f] X.env)).all (fun x=>!x.1)&&(backToKw cpos (keywordEach [] X.env)).all (fun x=>x.1.isSome)
  &&decide (([e,f]:LEx).length+([]:List Keyword).length+(if([]:List Keyword).isEmpty then 0 else 1)<30))=true
 line:(apos.endLine==cpos.line)=true
 trees:backTo cpos (starEach [e,f] X.env)= [(false,eval e X.env),(false,eval f X.env)]
def IsD(H:Hp)(a:Addr):Prop:=(∃ kvs,Rd H a (.dK kvs))∨∃ kvs,Rd H a (.dT kvs)
theorem qoW{X:Cx}{pins:LAO}{σ:St}{H:Hp}{s:Shared}{a:Addr}(I:Inv X pins σ H s)(d:IsD H a):
 s.TypeIs (.ref a) "dict"/\(∀ b,Value.ref a= .ref b->∃ ob,s.heap.get? b=some ob/\ob.dict=none)/\(a==sysModules)=false:=by
 rcases d with⟨kvs,e⟩|⟨kvs,e⟩
 · obtain⟨_,hd,vs,_,dd⟩:=qgb I.hok e
   refine⟨dd.typeIs,fun b q=>?_,hd⟩
   cases q;obtain⟨ob,_,_,h1,h2,_⟩:=dd;exact⟨ob,h1,h2.2.1⟩
 · obtain⟨_,hd,xs,_,dd⟩:=qhr I.hok e
   refine⟨dd.typeIs,fun b q=>?_,hd⟩
   cases q;obtain⟨ob,_,_,h1,h2,_⟩:=dd;exact⟨ob,h1,h2.2.1⟩
section
variable {X:Cx}{pins:LAO}{σ:St}{H:Hp}{s:Shared}{a:Addr}{y d:V}{u r:Value}{o:Option V}{A:Around}{E:VSP}
theorem qua{Q:VSP}(hu:A.units+1<cLine)(I:Inv X pins σ H s)(g:DGet H a y o)(ry:RelV y u)(h:∀ w' s',Inv X pins σ H s'->RelV (o.getD .non) w'->Q w' s'):
 wpAny (model X.prog X.w) A (call (.builtin "dict.get") [.ref a,u]) Q E s:=by
 rcases g with⟨kvs,k,e,ey,l⟩|⟨kvs,k,b,e,ey,eb,l⟩
 · subst ey
   obtain⟨z,hd,vs,rel,dd⟩:=qgb I.hok e;refine call_meetsIn PySem.F.slot_dict_get dd.typeIs PySem.F.entry_dict_get (PySem.F.args_dict_get_2 _ _) (meets_dict_get (qai X.prog X.w) a (qdk ry) hd) ⟨_,dd.mapOf,h _ _ (I.tok _) ?_⟩;rw[l];exact(rel.val k).getD rfl
 · subst ey
   cases(show u=Value.ref b from ry)
   obtain⟨z,hd,xs,rel,dd⟩:=qhr I.hok e;refine call_meetsIn PySem.F.slot_dict_get dd.typeIs PySem.F.entry_dict_get (PySem.F.args_dict_get_2 _ _) (meetsH_dict_get (tupleKind (optKind X.prog X.w)) a b hd) ⟨tupleKind_room_in1 hu,k,xs,qdt I.hok eb,dd,h _ _ (I.tok _) ?_⟩;rw[l];exact(rel.val k).getD rfl
theorem qt9{Q:VSP}(hu:A.units+1<cLine)(I:Inv X pins σ H s)(g:DGet H a y o)(ry:RelV y u)(rd:RelV d r)(h:∀ w' s',Inv X pins σ H s'->RelV (o.getD d) w'->Q w' s'):
 wpAny (model X.prog X.w) A (call (.builtin "dict.get") [.ref a,u,r]) Q E s:=by
 rcases g with⟨kvs,k,e,ey,l⟩|⟨kvs,k,b,e,ey,eb,l⟩
 · subst ey
   obtain⟨z,hd,vs,rel,dd⟩:=qgb I.hok e;refine call_meetsIn PySem.F.slot_dict_get dd.typeIs PySem.F.entry_dict_get (PySem.F.args_dict_get_3 _ _ _) (meets_dict_get_default (qai X.prog X.w) a (qdk ry) hd r) ⟨_,dd.mapOf,h _ _ (I.tok _) ?_⟩;rw[l];exact(rel.val k).getD rd
 · subst ey
   cases(show u=Value.ref b from ry)
   obtain⟨z,hd,xs,rel,dd⟩:=qhr I.hok e;refine call_meetsIn PySem.F.slot_dict_get dd.typeIs PySem.F.entry_dict_get (PySem.F.args_dict_get_3 _ _ _) (meetsH_dict_get_default (tupleKind (optKind X.prog X.w)) a b hd r) ⟨tupleKind_room_in1 hu,k,xs,qdt I.hok eb,dd,h _ _ (I.tok _) ?_⟩;rw[l];exact(rel.val k).getD rd
end
def qrY(td ty:TE):TE:=fun σ H Q=>td σ H fun x H1=>∃ a,x= .ref a/\IsD H1 a/\ty σ H1 fun y H2=>∃ o,DGet H2 a y o/\Q (o.getD .non) H2
noncomputable def qrX (td ty tx:TE):TE:=fun σ H Q=>td σ H fun x H1=>∃ a,x= .ref a/\IsD H1 a/\ty σ H1 fun y H2=>tx σ H2 fun z H3=>∃ o,DGet H3 a y o/\Q (o.getD z) H3
section
variable {X:Cx}{o e f:Expr}{apos cpos:Pos}{td ty tx:TE}
theorem qnp(hu:X.A.units+1<cLine)(ho:PE X o td)(he:PE X e ty)(m:M1 X o "get" apos e cpos):PE X (.Call (.Attribute o "get" apos) [e] [] cpos) (qrY td ty):=by
 intro pins s σ H Q I h;refine wpAny_Call_method m.base m.few m.line PySem.F.plainAttrs_dict PySem.F.slot_dict_get PySem.F.type_dict_get (thn (ho pins s σ H _ I h) fun u s1 zz=>?_);obtain⟨x,H1,I1,rx,a,ex,d,q1⟩:=zz
 subst ex;obtain rfl:u=Value.ref a:=rx;obtain⟨t1,t2,_⟩:=qoW I1 d;refine⟨t1,t2,?_⟩;rw[m.trees];refine Calls.callWith_builtin rfl (Calls.evalArgs_plain (Calls.spliced_cons (thn (he pins s1 σ H1 _ I1 q1) fun iv s2 ⟨y,H2,I2,ry,ov,g,q2⟩=>Calls.spliced_nil ?_)))
 exact qua hu I2 g ry fun w' s3 I3 rw'=>⟨_,H2,I3,rw',q2⟩
theorem qno(hu:X.A.units+1<cLine)(ho:PE X o td)(he:PE X e ty)(hf:PE X f tx)(m:M2 X o "get" apos e f cpos):PE X (.Call (.Attribute o "get" apos) [e,f] [] cpos) (qrX td ty tx):=by
 intro pins s σ H Q I h;refine wpAny_Call_method m.base m.few m.line PySem.F.plainAttrs_dict PySem.F.slot_dict_get PySem.F.type_dict_get (thn (ho pins s σ H _ I h) fun u s1 zz=>?_);obtain⟨x,H1,I1,rx,a,ex,d,q1⟩:=zz
 subst ex;obtain rfl:u=Value.ref a:=rx;obtain⟨t1,t2,_⟩:=qoW I1 d;refine⟨t1,t2,?_⟩;rw[m.trees];refine Calls.callWith_builtin rfl (Calls.evalArgs_plain (Calls.spliced_cons (thn (he pins s1 σ H1 _ I1 q1) fun iv s2 ⟨y,H2,I2,ry,q2⟩=>
  Calls.spliced_cons (thn (hf pins s2 σ H2 _ I2 q2) fun fv s3 ⟨z,H3,I3,rz,ov,g,q3⟩=>Calls.spliced_nil ?_))))
 exact qt9 hu I3 g ry rz fun w' s4 I4 rw'=>⟨_,H3,I4,rw',q3⟩
end
end L2
namespace Att
open PySem PySem.W PySem.Calls PyProof.Rows
theorem qeC{P:Params}{h:Heap}:∀ (ns:List Int) (vs:LVl),WellAll P h vs (ns.map WData.int)->IntsAre vs ns:=by
 intro ns
 induction ns with
 |nil=>
  intro vs w;rw[wbh]at w;cases w;exact .nil
 |cons n ns ih=>
  intro vs w;rw[wan]at w;cases w with
  |cons a b=>
   cases a;exact .cons _ _ (ih _ b)
theorem qkv{l:OpenLaw}{n:Nat}(hn:l.most=some n){P:Params}{h:Heap}{args:List WData}{vals:LVl}
 (hpre:l.row.toRowW.claim.pre args=true) (hwl:WellAll P h vals args):
 ∃ a vs ns,vals= [Value.ref a]/\args= [WData.list (ns.map WData.int)]/\h.get? a=some { cls:=.type "list",data:=.seq vs.toArray }/\IntsAre vs ns/\ns.length<=n:=by
 have hsh:WShape.hasAll [] args [.list .int]=true:=(pre_splitW hpre).1;have hc:l.pre.holds [] { args:=args }=true:=(pre_splitW hpre).2;obtain⟨d,r,rfl,h1,h2⟩:=hasAllW_cons hsh;obtain rfl:=hasAllW_nil h2;obtain⟨xs,rfl,h3⟩:=hasW_list h1;obtain⟨ns,rfl⟩:=items_int h3;have hlen:ns.length<=n:=by
  unfold OpenLaw.pre at hc;have h4:(WTm.not (.lt (.lit (.int (n:Int))) (.len (.arg 0)))).holds [] { args:=[.list (ns.map .int)] }=true:=by
   have h4:=(holds_andW hc).1;rw[hn]at h4;exact h4
  have h5:=condW_of h4 (w_not (w_lt w_lit (w_len_list (w_arg rfl))));rw[waj]at h5;refine Nat.le_of_not_lt fun q=>?_
  have q':(n:Int)<((ns.length:Nat):Int):=by omega
  first
   |(rw[wba q']at h5;exact waI h5 (by decide))
   |(simp at h5;omega)
 cases hwl with
 |cons w1 w2=>
  cases w2;cases w1 with
  |list ho hall=>exact⟨_,_,ns,rfl,rfl,ho,qeC ns _ hall,hlen⟩
theorem qkY(l:OpenLaw)(args:List WData):l.row.toRowW.claim.post args (.bool true) args=true:=
 postW_of (r:=l.row.toRowW) (X:=(true==true))
  (show WShape.has [] (.bool true) .bool=true by first|rfl|decide|simp[WShape.has,WShape.arms,WShape.armsAll])
  (show(WTm.eq .res (.lit (.bool true))).value [] { args:=args,res:=some (.bool true),after:=args }=some (.bool (true==true))from w_eq_bool (w_res rfl) w_lit) rfl
theorem attach_call{l:OpenLaw}{n:Nat}{q:Program}{loose:LSt}{XP:(SOV)->Heap->Prop}{YP:World->Heap->Prop}{d:DefRec}
 (hn:l.most=some n) (hdf:d.params.defaults= [])
 (call:∀ (w:World) (s₀ s₁:Shared) (mg mb:SOV) (fa:Addr) (o:Obj) (pm cd doc:Value) (a:Addr) (vs:LVl) (ns:List Int),
  Ground q loose [] XP w s₀ mg mb s₁.heap->YP w s₁.heap->
  s₁.heap.get? fa=some o->o.data= .func (docDef d.name d.params d.body d.scope pm cd doc)->s₁.heap.CodeRec cd d.name->mg d.name=some (.ref fa)->
  s₁.heap.get? a=some { cls:=.type "list",data:=.seq vs.toArray }->IntsAre vs ns->ns.length<=n->s₁.gens= #[]->
  codeAny (model l.prog w) callerA (.call (.ref fa) ⟨[.ref a],[]⟩) (fun r s'=>r= .ok (.ret (.bool true))/\OldK s₁.heap s'.heap/\s'.os=s₁.os/\AllBare s'.gens) s₁):
 WalkO q loose XP YP l.row.toRowW d [] (fun f vs=>PySem.call f vs):=by
 intro w s₀ s₁ mg mb G Y fa o pm cd doc dV kV ho hd hcd hD hmg hg args vals as hpre hlay hrd hwl hlo;obtain rfl:dV= .none:=Dflts.none hD hdf;obtain rfl:kV= .none:=Dflts.noKw hD;obtain⟨a,vs,ns,rfl,rfl,hobj,hints,hlen⟩:=qkv hn hpre hwl;refine enter_call (codeAny_mono (call w s₀ s₁ mg mb fa o pm cd doc a vs ns G Y ho (fd_plain hd) hcd hmg hobj hints hlen hg) fun r s' hq=>?_)
 obtain⟨rfl,h2,h3,h4⟩:=hq;exact⟨.inl ⟨.bool true,.bool true,[],rfl,fun _=>rfl,.bool true,qkY l _,fun _=>⟨List.Pairwise.nil,fun _ hm=>(nomatch hm)⟩⟩,h2,h3,h4⟩
section
variable {prog:Program}{w:World}{A:Around}{E:VSP}{s:Shared}{K:Frag}
def ledger(h:Heap)(L d:Addr):LAO:=(List.range h.objs.size).filterMap fun a=>if a=L∨a=d then none else(h.get? a).map fun o=>(a,o)
end
end Att
namespace L2
open PySem PySem.Spec PyProof.Rows
theorem vals_ints:∀ {vs:LVl} {ns:List Int},IntsAre vs ns->Vals (ns.map V.int) vs
 |_,_,.nil=>.nil
 |_,_,.cons n t h=>.cons ⟨t,rfl⟩ (vals_ints h)
def qx9(H:Hp):Prop:=∀ b,H b=none∨∃ o xs,H b=some (.frz o (.lst xs))
theorem qnI{P:Program}{w:World}{K:Frg}{mg mb:SOV}{CX:CXT}{k:Nat}{fa a:Addr}{fd:FuncData}{x:Str}{sp:Sp}{s₁:Shared}{vs:LVl}{ns:List Int}
 (KX:K.In s₁.heap) (hns:s₁.heap.Ns mainGlobals mg) (hb:s₁.heap.Ns builtinsNs mb) (hbb:∀ x:Str,x≠"__name__"->mb x=bootBuiltins x) (hlim:s₁.heap.NoLimit) (hg:s₁.gens= #[])
 (ha:s₁.heap.get? a=some { cls:=.type "list",data:=.seq vs.toArray }) (hi:IntsAre vs ns) (hl:ns.length<=sizeLine) (hr:Room k callerA)
 (F:∀ base:Heap,K.In base->base.Ns mainGlobals mg->qc4 P w K mg base CX k fa fd [x] sp) (hbind:∀ (s:Shared) (u:Value),BindsTo s fd ⟨[u],[]⟩ [(x,u)])
 (hsp:∀ H:Hp,qx9 H->SqL K H a (ns.map V.int)->sp [.ref a] H (fun v _=>v= .bl true) fun _ _ _=>False)
 (hCX:∀ H e s',CX [] H s₁ (fun _ _ _=>False) e s'->False):
 codeAny (model P w) callerA (.call (.ref fa) ⟨[.ref a],[]⟩) (fun r s'=>r= .ok (.ret (.bool true))/\OldK s₁.heap s'.heap/\s'.os=s₁.os/\AllBare s'.gens) s₁:=by
 have rv:=vals_ints hi;have lenV:=hi.length;have core:∀ H:Hp,qx9 H->SqL K H a (ns.map V.int)->HOk P w H s₁.heap->(∀ b,H b≠none->b=a)->(H a≠none->K.lookup a=none)->
  codeAny (model P w) callerA (.call (.ref fa) ⟨[.ref a],[]⟩) (fun r s'=>r= .ok (.ret (.bool true))/\OldK s₁.heap s'.heap/\s'.os=s₁.os/\AllBare s'.gens) s₁:=by
  intro H hO hS hok hA hK;have base_of:∀ {b:Addr} {o:Obj},s₁.heap.get? b=some o->H b=none->(qj2 s₁.heap H).get? b=some o:=fun e n=>qf4 e n
  have noA:∀ {b:Addr} {o:Obj} {es:Array DictEntry} {ep:Nat},s₁.heap.get? b=some o->o.data= .dict es ep->H b=none:=fun {b o es ep} e d=>by
   cases q:H b with
   |none=>rfl
   |some u=>
    have e':b=a:=hA b (by rw[q];simp)
    subst e';rw[ha]at e;cases e;have d':Data.seq vs.toArray _=Data.dict es ep:=d;cases d'
  have nsK:∀ {b:Addr} {m:SOV},s₁.heap.Ns b m->(qj2 s₁.heap H).Ns b m:=fun {b m} ⟨o,es,ep,e,d,r⟩=>⟨o,es,ep,base_of e (noA e d),d,r⟩
  have hKb:K.In (qj2 s₁.heap H):=fun b o e=>base_of (KX b o e) (by
   cases q:H b with
   |none=>rfl
   |some u=>
    have e':b=a:=hA b (by rw[q];simp)
    subst e';rw[hK (by rw[q];simp)]at e;cases e)
  have hM:Mod K mg (qj2 s₁.heap H):=⟨hKb,nsK hns,⟨mb,nsK hb,hbb⟩,let⟨mc,h1,h2⟩:=hlim;⟨mc,nsK h1,h2⟩⟩;have e0:Env0 P w K mg (qj2 s₁.heap H) callerA [] s₁ H:=⟨rfl,hM,fun b o e=>qk7 e,Nat.le_of_eq (qhk _ _),trivial,fun b hb=>waI (show b∈([]:List Addr)from hb) (by simp),hok,.of_eq hg⟩
  refine codeAny_mono ((F _ hKb (nsK hns)).run callerA [] s₁ H ⟨[.ref a],[]⟩ [.ref a] [.ref a] _ _ hr e0 (hbind s₁ (.ref a)) (.cons rfl .nil) (hsp H hO hS)) fun r s' h=>?_
  cases r with
  |error e=>exact(hCX H e s' h).elim
  |ok fl=>
   cases fl with
   |next=>exact False.elim h
   |brk=>exact False.elim h
   |cont=>exact False.elim h
   |ret u=>
    obtain⟨v,H',os,bare,un,hok',r',q⟩:=h;have q':v= .bl true:=q;subst q';obtain rfl:u=Value.bool true:=r';refine⟨rfl,OldK.of_keep fun b o e=>?_,os,bare⟩
    cases q:H b with
    |none=>exact un.keep b o e q (by intro z;exact waI (show b∈([]:List Addr)from z) (by simp)) (by simp)
    |some u=>
     rcases hO b with z|⟨ob,xs,z⟩
     · rw[q]at z;cases z
     · have z2:=un.frzs b ob _ z
       obtain⟨e1,_⟩:=hok b _ z;obtain⟨e2,_⟩:=hok' b _ z2;rw[e]at e1;cases e1;exact e2
 cases hk:K.lookup a with
 |some o=>
  have e:=KX a o hk;rw[ha]at e;cases e;refine core (fun _=>none) (fun _=>.inl rfl) (.inr ⟨_,vs.toArray,_,hk,rfl,rfl,rfl,by rw[wak,lenV];exact hl,by simpa using rv⟩) (fun b u z=>by have z':(none:Option HO)=some u:=z;cases z') (fun b z=>waI rfl z) fun z=>waI rfl z
 |none=>
  refine core (fun b=>if b=a then some (.frz { cls:=.type "list",data:=.seq vs.toArray } (.lst (ns.map V.int)))else none) (fun b=>?_) (.inl (.inr ⟨{ cls:=.type "list",data:=.seq vs.toArray },wag rfl⟩)) (fun b u z=>?_) (fun b z=>?_) fun _=>hk
  · by_cases hb:b=a
    · exact .inr ⟨_,_,wag hb⟩
    · exact .inl (wad hb)
  · by_cases hb:b=a
    · have z':=(wag hb).symm.trans z
      cases z';subst hb;exact⟨ha,by rw[waj];exact hl,vs,_,rv,ha⟩
    · have z':=(wad hb).symm.trans z
      cases z'
  · by_cases hb:b=a
    · exact hb
    · exact waI (wad hb) z
abbrev KOf{K:Frg}{h:Heap}(_:K.In h):Frg:=K
theorem qvk{l:PySem.W.OpenLaw}{n k:Nat}{q:Program}{loose:LSt}{XP:(SOV)->Heap->Prop}{YP:World->Heap->Prop}{d:DefRec}{K:Params->Frg}{CX:World->CXT}{sp:World->Sp}{x:Str}
 (hn:l.most=some n) (hn2:n<=sizeLine) (hdf:d.params.defaults= []) (hr:Room k callerA)
 (hY:∀ (w:World) (h:Heap),YP w h->(K w.params).In h)
 (F:∀ (w:World) (mg:SOV) (fa:Addr) (h:Heap),(K w.params).In h->h.Ns mainGlobals mg->mg d.name=some (.ref fa)->
  ∃ fd:FuncData,(∀ (s:Shared) (u:Value),BindsTo s fd ⟨[u],[]⟩ [(x,u)])/\
   ∀ base:Heap,(K w.params).In base->base.Ns mainGlobals mg->qc4 l.prog w (K w.params) mg base (CX w) k fa fd [x] (sp w))
 (hsp:∀ (w:World) (H:Hp) (a:Addr) (ns:List Int),ns.length<=n->qx9 H->SqL (K w.params) H a (ns.map V.int)->sp w [.ref a] H (fun v _=>v= .bl true) fun _ _ _=>False)
 (hCX:∀ (w:World) (H:Hp) (s:Shared) (e:Value) (s':Shared),CX w [] H s (fun _ _ _=>False) e s'->False):
 PySem.W.WalkO q loose XP YP l.row.toRowW d [] (fun f vs=>PySem.call f vs):=by
 refine Att.attach_call hn hdf fun w s₀ s₁ mg mb fa o pm cd doc a vs ns G Y ho hd hcd hmg hobj hints hlen hg=>?_
 have KX:=hY w _ Y;obtain⟨fd,hb,hF⟩:=F w mg fa _ KX G.T.g hmg;exact qnI KX G.T.g G.T.b G.T.builtins G.T.nolimit hg hobj hints (was hlen hn2) hr hF hb (fun H hO hS=>hsp w H a ns hlen hO hS) fun H e s'=>hCX w H s₁ e s'
def inClass(s:Stmt)(j:Nat):Stmt:=match s with
 | .ClassDef _ _ _ body _ _ _ _ _ _ _=>body.getD j (.Pass ⟨0,0,0,0⟩)
 |_=>.Pass ⟨0,0,0,0⟩
noncomputable def qma (s:Stmt):Arguments:=match s with
 | .FunctionDef _ a _ _ _ _ _ _ _ _=>a
 |_=>{ posonlyargs:=[],args:=[],vararg:=none,kwonlyargs:=[],kw_defaults:=[],kwarg:=none,defaults:=[] }
def qcy(s:Stmt):List Stmt:=match s with
 | .FunctionDef _ _ b _ _ _ _ _ _ _=>b
 |_=>[]
noncomputable def qas (s:Stmt):Scope:=match s with
 | .FunctionDef _ _ _ _ _ _ sc _ _ _=>sc
 |_=>{ kind:=.function,names:=[],isGenerator:=false,isCoroutine:=false }
abbrev CX0:CXT:=fun _ _ _ _ _ _=>False
abbrev E0:XK:=fun _ _ _=>False
theorem qh8{X:Cx}:Passes CX0 X E0:=fun _ _ _ _ _ _ _ h=>h.elim
structure Fun(K:Frg)(x qual:Str)(st:Stmt)(f:Addr)(fd:FuncData):Prop where
 ex:∃ (oc:Value) (od:Option Addr) (kV doc pm:Value) (an:Option Addr) (cdv ct:Value) (osl:Array (OVl)),
  fd=PySem.W.fnOf x qual (qma st) (qcy st) (qas st) .none kV doc pm an cdv ct/\K.lookup f=some ⟨oc,od,.func fd,osl⟩/\PySem.W.codeIn K cdv qual=true
 kp:PySem.W.keepIn K (.ref f)=true
section
variable {P:Program}{w:World}{K:Frg}{mg:SOV}{base:Heap}
theorem Fun.ok{x qual:Str}{st:Stmt}{f:Addr}{fd:FuncData}{N ps:LSt}{k:Nat}{sp:Sp}(F:Fun K x qual st f fd)(S:qdn N ps (qas st))(len:∀ vs H Q E,sp vs H Q E->vs.length=ps.length)
 (hbody:∀ (cdv:Value),fd.code=cdv->∀ (A:Around) (outer:List Env) (s:Shared) (H:Hp) (vs:LV) (Q:VK) (E:XK),Room k (A.deeper (envOfC qual (qas st) s.heap.objs.size f cdv))->sp vs H Q E->
  ∃ t,PSs (qo7 CX0 P w K mg base N qual (qas st) f cdv A outer s H E).nox (qcy st) t/\t { nx:=fun _ H'=>Q .non H',rt:=Q } (start N vs) H):qc4 P w K mg base CX0 (k+1) f fd ps sp:=by
 obtain⟨oc,od,kV,doc,pm,an,cdv,ct,osl,rfl,lk,hcd⟩:=F.ex;refine qxo lk hcd S len fun A outer s H vs Q E hr hsp=>?_
 obtain⟨t,h,q⟩:=hbody cdv rfl A outer s H vs Q E hr hsp;exact⟨t,h.nox,q⟩
end
theorem qfb{A:Around}{k:Nat}(hr:Room k A):A.units+1<cLine:=Nat.lt_of_le_of_lt (Nat.add_le_add_left (by decide:1<=64) _) hr.units
theorem qqI{A B:Prop}(h:B):if false=true then A else B:=by
 rw[wad waA];exact h
theorem qqH{A B:Prop}(h:A):if true=true then A else B:=by
 rw[wag rfl];exact h
section
variable {X:Cx}
theorem qmp:qaQ X (.builtin "len") (fun xs H Q=>∃ a kvs,xs= [V.ref a]/\H a=some (.dK kvs)/\Q (.int kvs.length) H):=by
 intro pins s σ H xs us Q I r h;obtain⟨a,kvs,rfl,ha,q⟩:=h;obtain⟨u,rfl,ru⟩:=vals1 r;cases ru;exact qxw I (.inl ha) fun t s' I'=>⟨.int kvs.length,H,I',⟨t,rfl⟩,q⟩
end
section
variable {κ:Type}[DecidableEq κ]
theorem qpi{kvs:List (κ×V)}{k:κ}{v:V}(h:qeU kvs k=some v):k∈kvs.map (·.1):=by
 have q:(kvs.any fun kv=>decide (kv.1=k))=true:=by
  rw[qdU,h]
  all_goals rfl
 obtain⟨p,hp,e⟩:=List.any_eq_true.mp q;exact waE.mpr ⟨p,hp,wbb e⟩
end
end L2
namespace R
open PySem PySem.Spec PyProof.Rows L2
inductive RV where
 |non|bl (b:Bool)|int (i:Int)|str (x:Str)|ref (a:Addr)|ty (n:String)
 |tup (xs:List RV)|ls (xs:List RV)
abbrev LR:=List RV
abbrev LKR:=List (Key×RV)
def Fz(K:Frg)(H:Hp)(a:Addr)(vs:LV):Prop:=
 (∃ o,H a=some (.frz o (.lst vs)))∨
  ∃ (o:Obj) (its:Array Value) (n:Nat),K.lookup a=some o/\o.cls= .type "list"/\o.dict=Option.none/\o.data= .seq its n/\its.size<=sizeLine/\Vals vs its.toList
theorem Fz.sq{K:Frg}{H:Hp}{a:Addr}{vs:LV}(h:Fz K H a vs):SqL K H a vs:=by
 rcases h with⟨o,h⟩|h
 · exact .inl (.inr ⟨o,h⟩)
 · exact .inr h
instance {K:Frg} {H:Hp} {a:Addr} {xs:LV}:Coe (H a=some (HO.tup xs)) (SqT K H a xs):=⟨SqT.of⟩
mutual
def Rep(K:Frg)(H:Hp):RV->V->Prop
 | .non,v=>v= .non
 | .bl b,v=>v= .bl b
 | .int i,v=>v= .int i
 | .str x,v=>v= .str x
 | .ref a,v=>v= .ref a
 | .ty n,v=>v= .ty n
 | .tup xs,v=>∃ a vs,v= .ref a/\H a=some (.tup vs)/\Reps K H xs vs
 | .ls xs,v=>∃ a vs,v= .ref a/\Fz K H a vs/\Reps K H xs vs
def Reps(K:Frg)(H:Hp):LR->LV->Prop
 | [],vs=>vs= []
 |x::xs,vs=>∃ v r,vs=v::r/\Rep K H x v/\Reps K H xs r
end
def qlD:HO->Bool
 | .dK _=>true
 | .dT _=>true
 |_=>false
structure ExtW(H H':Hp):Prop where
 tups:∀ b xs,H b=some (.tup xs)->H' b=some (.tup xs)
 frzs:∀ b o u,qlD u=false->H b=some (.frz o u)->H' b=some (.frz o u)
structure Ext(H H':Hp):Prop where
 tups:∀ b xs,H b=some (.tup xs)->H' b=some (.tup xs)
 frzs:∀ b o u,H b=some (.frz o u)->H' b=some (.frz o u)
theorem Ext.w{H H':Hp}(e:Ext H H'):ExtW H H':=⟨e.tups,fun b o u _ h=>e.frzs b o u h⟩
theorem Ext.refl(H:Hp):Ext H H:=⟨fun _ _ h=>h,fun _ _ _ h=>h⟩
theorem Ext.trans{H H1 H2:Hp}(a:Ext H H1)(b:Ext H1 H2):Ext H H2:=⟨fun c x h=>b.tups c x (a.tups c x h),fun c o x h=>b.frzs c o x (a.frzs c o x h)⟩
theorem ExtW.trans{H H1 H2:Hp}(a:ExtW H H1)(b:ExtW H1 H2):ExtW H H2:=⟨fun c x h=>b.tups c x (a.tups c x h),fun c o x n h=>b.frzs c o x n (a.frzs c o x n h)⟩
theorem Ext.new{H:Hp}{p:Addr}{o:HO}(h:H p=none):Ext H (upd H p o):=
 ⟨fun b xs e=>by rw[qaa (qab e h)];exact e,fun b o xs e=>by rw[qaa (qab e h)];exact e⟩
def qEH:HO->Bool
 | .tup _=>false
 | .frz _ _=>false
 |_=>true
theorem ExtW.thaw{H:Hp}{p:Addr}{o:Obj}{u:HO}(h:H p=some (.frz o u))(s:qlD u=true){v:HO}:ExtW H (upd H p v):=by
 refine⟨fun b xs e=>?_,fun b ob xs nd e=>?_⟩
 · have n:b≠p:=by rintro rfl;rw[h]at e;cases e
   rw[qaa n];exact e
 · have n:b≠p:=by rintro rfl;rw[h]at e;cases e;rw[s]at nd;cases nd
   rw[qaa n];exact e
theorem Ext.write{H:Hp}{p:Addr}{o o':HO}(h:H p=some o)(s:qEH o=true):Ext H (upd H p o'):=by
 refine⟨fun b xs e=>?_,fun b ob xs e=>?_⟩
 · have n:b≠p:=by rintro rfl;rw[h]at e;cases e;cases s
   rw[qaa n];exact e
 · have n:b≠p:=by rintro rfl;rw[h]at e;cases e;cases s
   rw[qaa n];exact e
theorem SqT.extw{K:Frg}{H H':Hp}{a:Addr}{vs:LV}(e:ExtW H H')(h:SqT K H a vs):SqT K H' a vs:=by
 rcases h with(h|⟨o,h⟩)|h
 · exact .inl (.inl (e.tups _ _ h))
 · exact .inl (.inr ⟨o,e.frzs _ _ _ rfl h⟩)
 · exact .inr h
theorem Fz.extw{K:Frg}{H H':Hp}{a:Addr}{vs:LV}(e:ExtW H H')(h:Fz K H a vs):Fz K H' a vs:=by
 rcases h with⟨o,h⟩|h
 · exact .inl ⟨o,e.frzs _ _ _ rfl h⟩
 · exact .inr h
mutual
theorem Rep.extw{K:Frg}{H H':Hp}(e:ExtW H H'):∀ (r:RV) (v:V),Rep K H r v->Rep K H' r v
 | .non,v,h=>by simpa only[Rep]using h
 | .bl _,v,h=>by simpa only[Rep]using h
 | .int _,v,h=>by simpa only[Rep]using h
 | .str _,v,h=>by simpa only[Rep]using h
 | .ref _,v,h=>by simpa only[Rep]using h
 | .ty _,v,h=>by simpa only[Rep]using h
 | .tup xs,v,h=>by
  simp only[Rep]at h ⊢;obtain⟨a,vs,e1,h1,h2⟩:=h;exact⟨a,vs,e1,e.tups _ _ h1,Reps.extw e xs vs h2⟩
 | .ls xs,v,h=>by
  simp only[Rep]at h ⊢;obtain⟨a,vs,e1,h1,h2⟩:=h;exact⟨a,vs,e1,h1.extw e,Reps.extw e xs vs h2⟩
theorem Reps.extw{K:Frg}{H H':Hp}(e:ExtW H H'):∀ (rs:LR) (vs:LV),Reps K H rs vs->Reps K H' rs vs
 | [],vs,h=>by simpa only[Reps]using h
 |x::xs,vs,h=>by
  simp only[Reps]at h ⊢;obtain⟨v,r,e1,h1,h2⟩:=h;exact⟨v,r,e1,Rep.extw e x v h1,Reps.extw e xs r h2⟩
end
section
variable {K:Frg}{H:Hp}
theorem Reps.cons{x:RV}{xs:LR}{v:V}{vs:LV}(h:Rep K H x v)(t:Reps K H xs vs):Reps K H (x::xs) (v::vs):=by
 simp only[Reps];exact⟨v,vs,rfl,h,t⟩
theorem Reps.nil:Reps K H [] []:=by simp only[Reps]
theorem Reps.length:∀ {xs:LR} {vs:LV},Reps K H xs vs->xs.length=vs.length
 | [],vs,h=>by simp only[Reps]at h;subst h;rfl
 |x::xs,vs,h=>by
  simp only[Reps]at h;obtain⟨v,r,rfl,_,t⟩:=h;simp[Reps.length t]
theorem Reps.get:∀ {xs:LR} {vs:LV} {i:Nat} {x:RV},Reps K H xs vs->xs[i]? =some x->∃ v,vs[i]? =some v/\Rep K H x v
 | [],_,_,_,_,e=>by simp at e
 |y::xs,vs,0,x,h,e=>by
  simp only[Reps]at h;obtain⟨v,r,rfl,h1,_⟩:=h;simp at e;subst e;exact⟨v,by simp,h1⟩
 |y::xs,vs,i+1,x,h,e=>by
  simp only[Reps]at h;obtain⟨v,r,rfl,_,t⟩:=h;obtain⟨u,h1,h2⟩:=Reps.get (i:=i) t (by simpa using e)
  exact⟨u,by simpa using h1,h2⟩
theorem Reps.append:∀ {xs ys:LR} {vs ws:LV},Reps K H xs vs->Reps K H ys ws->Reps K H (xs++ys) (vs++ws)
 | [],_,vs,_,h,t=>by simp only[Reps]at h;subst h;simpa using t
 |x::xs,ys,vs,ws,h,t=>by
  simp only[Reps]at h;obtain⟨v,r,rfl,h1,h2⟩:=h;exact Reps.cons h1 (Reps.append h2 t)
theorem Reps.take:∀ {xs:LR} {vs:LV} (n:Nat),Reps K H xs vs->Reps K H (xs.take n) (vs.take n)
 |_,_,0,_=>by simpa using Reps.nil
 | [],vs,n+1,h=>by simp only[Reps]at h;subst h;simpa using Reps.nil
 |x::xs,vs,n+1,h=>by
  simp only[Reps]at h;obtain⟨v,r,rfl,h1,h2⟩:=h;exact Reps.cons h1 (Reps.take n h2)
theorem Reps.drop:∀ {xs:LR} {vs:LV} (n:Nat),Reps K H xs vs->Reps K H (xs.drop n) (vs.drop n)
 |_,_,0,h=>by simpa using h
 | [],vs,n+1,h=>by simp only[Reps]at h;subst h;simpa using Reps.nil
 |x::xs,vs,n+1,h=>by
  simp only[Reps]at h;obtain⟨v,r,rfl,h1,h2⟩:=h;exact Reps.drop n h2
theorem Reps.set{x:RV}{v:V}(hx:Rep K H x v):∀ {xs:LR} {vs:LV} (i:Nat),Reps K H xs vs->Reps K H (xs.set i x) (vs.set i v)
 | [],vs,i,h=>by simp only[Reps]at h;subst h;simpa using Reps.nil
 |y::xs,vs,0,h=>by
  simp only[Reps]at h;obtain⟨w,r,rfl,h1,h2⟩:=h;exact Reps.cons hx h2
 |y::xs,vs,i+1,h=>by
  simp only[Reps]at h;obtain⟨w,r,rfl,h1,h2⟩:=h;exact Reps.cons h1 (Reps.set hx i h2)
theorem Reps.atI{xs:LR}{vs:LV}{i:Int}{x:RV}(h:Reps K H xs vs)(e:L2.atI xs i=some x):∃ v,L2.atI vs i=some v/\Rep K H x v:=by
 unfold L2.atI at e ⊢;rw[<-h.length];cases q:ixN xs.length i with
 |none=>rw[q]at e;cases e
 |some j=>rw[q]at e;exact h.get (by simpa using e)
end
inductive RO where
 |lst (xs:LR)
 |dk (kvs:LKR)
 |dt (kvs:List (List qbE×RV))
 |ins (C:Addr) (fs:List (Str×RV))
 |fk (kvs:LKR)
 |ft (kvs:List (List qbE×RV))
 |tb (P:Addr) (pos:Pos) (q:Str)
noncomputable def qgk (P:Addr)(pos:Pos)(x:Option Addr):Heap->Prop:=fun h=>h.get? P=some { cls:=.none,data:=.fields (match x with|none=>#[]|some c=>#[rawInt pos.line,rawInt pos.col,.ref c]) }
abbrev RM:=Addr->Option RO
def put(M:RM)(a:Addr)(o:RO):RM:=fun b=>if b=a then some o else M b
theorem qad{M:RM}{a:Addr}{o:RO}:put M a o a=some o:=by unfold put;rw[wag rfl]
theorem qao{M:RM}{a b:Addr}{o:RO}(h:b≠a):put M a o b=M b:=by unfold put;rw[wad h]
theorem qaS{M:RM}{a:Addr}{o o':RO}:put (put M a o) a o'=put M a o':=by
 funext b;unfold put;split<;>rfl
noncomputable def RepP {κ:Type}(K:Frg)(H:Hp):List (κ×RV)->List (κ×V)->Prop
 | [],ws=>ws= []
 |(k,x)::r,ws=>∃ v t,ws=(k,v)::t/\Rep K H x v/\RepP K H r t
theorem RepP.extw{κ:Type}{K:Frg}{H H':Hp}(e:ExtW H H'):∀ {xs:List (κ×RV)} {ws:List (κ×V)},RepP K H xs ws->RepP K H' xs ws
 | [],_,h=>h
 |(k,x)::r,ws,h=>by
  obtain⟨v,t,e1,h1,h2⟩:=h;exact⟨v,t,e1,Rep.extw e x v h1,RepP.extw e h2⟩
noncomputable def RepO (K:Frg)(H:Hp):RO->HO->Prop
 | .lst xs,o=>∃ vs,o= .lst vs/\Reps K H xs vs
 | .dk kvs,o=>∃ ws,o= .dK ws/\RepP K H kvs ws
 | .dt kvs,o=>∃ ws,o= .dT ws/\RepP K H kvs ws
 | .ins C fs,o=>∃ dx gs,o= .ins C dx gs/\RepP K H fs gs
 | .fk kvs,o=>∃ ob ws,o= .frz ob (.dK ws)/\RepP K H kvs ws
 | .ft kvs,o=>∃ ob ws,o= .frz ob (.dT ws)/\RepP K H kvs ws
 | .tb P pos q,o=>o= .ext (qgk P pos none)∨∃ c oc vs t,o= .ext (qgk P pos (some c))/\H c=some (.frz oc (.own c))/\oc.data= .fields vs/\vs[1]? =some (.str q t)
theorem RepO.extw{K:Frg}{H H':Hp}(e:ExtW H H'):∀ {o:RO} {ho:HO},RepO K H o ho->RepO K H' o ho
 | .lst xs,_,h=>by obtain⟨vs,e1,h1⟩:=h;exact⟨vs,e1,Reps.extw e xs vs h1⟩
 | .dk _,_,h=>by obtain⟨ws,e1,h1⟩:=h;exact⟨ws,e1,h1.extw e⟩
 | .dt _,_,h=>by obtain⟨ws,e1,h1⟩:=h;exact⟨ws,e1,h1.extw e⟩
 | .ins _ _,_,h=>by obtain⟨dx,gs,e1,h1⟩:=h;exact⟨dx,gs,e1,h1.extw e⟩
 | .fk _,_,h=>by obtain⟨dx,gs,e1,h1⟩:=h;exact⟨dx,gs,e1,h1.extw e⟩
 | .ft _,_,h=>by obtain⟨dx,gs,e1,h1⟩:=h;exact⟨dx,gs,e1,h1.extw e⟩
 | .tb _ _ _,_,h=>h.imp id fun⟨c,oc,vs,t,e1,h1,h2⟩=>⟨c,oc,vs,t,e1,e.frzs _ _ _ rfl h1,h2⟩
theorem RepO.extW{K:Frg}{H:Hp}{p:Addr}{v:HO}:∀ {o:RO} {ho:HO},RepO K H o ho->H p=some ho->ExtW H (upd H p v)
 | .lst _,_,h,e=>by obtain⟨_,rfl,_⟩:=h;exact(Ext.write e rfl).w
 | .dk _,_,h,e=>by obtain⟨_,rfl,_⟩:=h;exact(Ext.write e rfl).w
 | .dt _,_,h,e=>by obtain⟨_,rfl,_⟩:=h;exact(Ext.write e rfl).w
 | .ins _ _,_,h,e=>by obtain⟨_,_,rfl,_⟩:=h;exact(Ext.write e rfl).w
 | .fk _,_,h,e=>by obtain⟨_,_,rfl,_⟩:=h;exact ExtW.thaw e rfl
 | .ft _,_,h,e=>by obtain⟨_,_,rfl,_⟩:=h;exact ExtW.thaw e rfl
 | .tb _ _ _,_,h,e=>by rcases h with rfl|⟨_,_,_,_,rfl,_⟩<;>exact(Ext.write e rfl).w
section
variable {K:Frg}{H H':Hp}
theorem SqT.ext{a:Addr}{vs:LV}(e:Ext H H')(h:SqT K H a vs):SqT K H' a vs:=SqT.extw e.w h
theorem Fz.ext{a:Addr}{vs:LV}(h:Fz K H a vs)(e:Ext H H'):Fz K H' a vs:=h.extw e.w
theorem Rep.ext(e:Ext H H')(r:RV)(v:V)(h:Rep K H r v):Rep K H' r v:=Rep.extw e.w r v h
theorem Reps.ext(e:Ext H H')(r:LR)(v:LV)(h:Reps K H r v):Reps K H' r v:=Reps.extw e.w r v h
theorem RepP.ext{κ:Type}{xs:List (κ×RV)}{ws:List (κ×V)}(h:RepP K H xs ws)(e:Ext H H'):RepP K H' xs ws:=RepP.extw e.w h
theorem RepO.ext{o:RO}{ho:HO}(h:RepO K H o ho)(e:Ext H H'):RepO K H' o ho:=RepO.extw e.w h
end
def View(K:Frg)(H:Hp)(M:RM):Prop:=∀ a o,M a=some o->∃ ho,H a=some ho/\RepO K H o ho
section
variable {K:Frg}{H H':Hp}{M:RM}{p:Addr}{ho:HO}{o:RO}
theorem View.free(w:View K H M)(h:H p=none):M p=none:=by
 cases q:M p with
 |none=>rfl
 |some o=>obtain⟨ho,e,_⟩:=w p o q;rw[h]at e;cases e
theorem View.new(w:View K H M)(h:H p=none):View K (upd H p ho) M:=fun a o e=>by
 obtain⟨ho',e1,r⟩:=w a o e;exact⟨ho',by rw[qaa (qab e1 h)];exact e1,r.ext (Ext.new h)⟩
theorem View.newPut(w:View K H M)(h:H p=none)(r:RepO K (upd H p ho) o ho):View K (upd H p ho) (put M p o):=fun a o' e=>by
 by_cases ha:a=p
 · subst ha;rw[qad]at e;cases e;exact⟨ho,qag,r⟩
 · rw[qao ha]at e;exact w.new h a o' e
theorem View.write{o':RO}(w:View K H M)(h:M p=some o')(r:RepO K (upd H p ho) o ho):View K (upd H p ho) (put M p o):=fun a o'' e=>by
 by_cases ha:a=p
 · subst ha;rw[qad]at e;cases e;exact⟨ho,qag,r⟩
 · rw[qao ha]at e
   obtain⟨ho',e1,r1⟩:=w a o'' e;obtain⟨hp,e2,r2⟩:=w p o' h;exact⟨ho',by rw[qaa ha];exact e1,RepO.extw (r2.extW e2) r1⟩
end
abbrev RSt:=List (Option RV)
abbrev RVK:=RV->RM->Prop
abbrev RTE:=RSt->RM->RVK->Prop
abbrev RTT:=RSt->RM->(Bool->RM->Prop)->Prop
abbrev RTA:=RSt->RM->(LR->RM->Prop)->Prop
def RepSt(K:Frg)(H:Hp)(σ:RSt)(σ0:L2.St):Prop:=σ.length=σ0.length/\∀ (i:Nat) r,σ[i]? =some (some r)->∃ v,σ0[i]? =some (some v)/\Rep K H r v
theorem RepSt.extw{K:Frg}{H H':Hp}{σ:RSt}{σ0:L2.St}(h:RepSt K H σ σ0)(e:ExtW H H'):RepSt K H' σ σ0:=
 ⟨h.1,fun i r q=>by obtain⟨v,e1,h1⟩:=h.2 i r q;exact⟨v,e1,Rep.extw e r v h1⟩⟩
theorem RepSt.ext{K:Frg}{H H':Hp}{σ:RSt}{σ0:L2.St}(h:RepSt K H σ σ0)(e:Ext H H'):RepSt K H' σ σ0:=h.extw e.w
theorem RepSt.set{K:Frg}{H:Hp}{σ:RSt}{σ0:L2.St}{r:RV}{v:V}(h:RepSt K H σ σ0)(hr:Rep K H r v)(i:Nat):RepSt K H (σ.set i (some r)) (σ0.set i (some v)):=by
 refine⟨by simp[h.1],fun j r' q=>?_⟩
 by_cases hj:i=j
 · subst hj
   rw[List.getElem?_set]at q;split at q
   · split at q
     · cases q;rename_i hl _ ;exact⟨v,by rw[List.getElem?_set_self (by rw[<-h.1];assumption)],hr⟩
     · cases q
   · rename_i z;exact waI rfl z
 · rw[List.getElem?_set_ne hj]at q
   obtain⟨w,e1,h1⟩:=h.2 j r' q;exact⟨w,by rw[List.getElem?_set_ne hj];exact e1,h1⟩
def UpK(K:Frg)(H:Hp)(Q:RVK)(Q0:VK):Prop:=∀ rv M' v H',Q rv M'->Ext H H'->View K H' M'->Rep K H' rv v->Q0 v H'
theorem UpK.ext{K:Frg}{H H':Hp}{Q:RVK}{Q0:VK}(h:UpK K H Q Q0)(e:Ext H H'):UpK K H' Q Q0:=fun rv M' v H2 q e2 w r=>h rv M' v H2 q (e.trans e2) w r
def up(K:Frg)(t:RTE):TE:=fun σ0 H Q0=>∃ σ M Q,RepSt K H σ σ0/\View K H M/\t σ M Q/\UpK K H Q Q0
def upT(K:Frg)(t:RTT):TT:=fun σ0 H Q0=>∃ σ M Q,RepSt K H σ σ0/\View K H M/\t σ M Q/\∀ b M' H',Q b M'->Ext H H'->View K H' M'->Q0 b H'
noncomputable def upA (K:Frg)(t:RTA):TA:=fun σ0 H Q0=>∃ σ M Q,RepSt K H σ σ0/\View K H M/\t σ M Q/\∀ rs M' vs H',Q rs M'->Ext H H'->View K H' M'->Reps K H' rs vs->Q0 vs H'
structure RD where
 nx:RSt->RM->Prop
 rt:RVK
 bk:RSt->RM->Prop:=fun _ _=>False
 ct:RSt->RM->Prop:=fun _ _=>False
abbrev RTS:=RD->RSt->RM->Prop
def UpS(K:Frg)(H:Hp)(q:RSt->RM->Prop)(q0:L2.St->Hp->Prop):Prop:=∀ σ M σ0 H',q σ M->Ext H H'->View K H' M->RepSt K H' σ σ0->q0 σ0 H'
theorem UpS.ext{K:Frg}{H H':Hp}{Q:RSt->RM->Prop}{Q0:L2.St->Hp->Prop}(h:UpS K H Q Q0)(e:Ext H H'):UpS K H' Q Q0:=fun σ M σ0 H2 q e2 w r=>h σ M σ0 H2 q (e.trans e2) w r
structure UpD(K:Frg)(H:Hp)(D:RD)(D0:Ends):Prop where
 nx:UpS K H D.nx D0.nx
 rt:UpK K H D.rt D0.rt
 bk:UpS K H D.bk D0.bk
 ct:UpS K H D.ct D0.ct
theorem UpD.ext{K:Frg}{H H':Hp}{D:RD}{D0:Ends}(h:UpD K H D D0)(e:Ext H H'):UpD K H' D D0:=⟨h.nx.ext e,h.rt.ext e,h.bk.ext e,h.ct.ext e⟩
def upS(K:Frg)(t:RTS):TS:=fun D0 σ0 H=>∃ σ M D,RepSt K H σ σ0/\View K H M/\t D σ M/\UpD K H D D0
def RPE(X:Cx)(e:Expr)(t:RTE):Prop:=PE X e (up X.K t)
def RPT(X:Cx)(e:Expr)(t:RTT):Prop:=PT X e (upT X.K t)
def RPW(X:Cx)(e:Expr)(t:RTT):Prop:=PW X e (upT X.K t)
def RPA(X:Cx)(es:LEx)(t:RTA):Prop:=PA X es (upA X.K t)
def RPS(X:Cx)(s:Stmt)(t:RTS):Prop:=PS X s (upS X.K t)
def qmN(X:Cx)(s:List Stmt)(t:RTS):Prop:=PSs X s (upS X.K t)
section
variable {X:Cx}
theorem PE.imp{e:Expr}{t t':TE}(h:PE X e t)(i:∀ σ H Q,t' σ H Q->t σ H Q):PE X e t':=fun pins s σ H Q I w=>h pins s σ H Q I (i σ H Q w)
theorem PT.imp{e:Expr}{t t':TT}(h:PT X e t)(i:∀ σ H Q,t' σ H Q->t σ H Q):PT X e t':=fun pins s σ H Q I w=>h pins s σ H Q I (i σ H Q w)
theorem PW.imp{e:Expr}{t t':TT}(h:PW X e t)(i:∀ σ H Q,t' σ H Q->t σ H Q):PW X e t':=fun wh pins s σ H Q I w=>h wh pins s σ H Q I (i σ H Q w)
theorem PA.imp{e:LEx}{t t':TA}(h:PA X e t)(i:∀ σ H Q,t' σ H Q->t σ H Q):PA X e t':=fun pos pins s σ H Q I w=>h pos pins s σ H Q I (i σ H Q w)
theorem PS.imp{e:Stmt}{t t':TS}(h:PS X e t)(i:∀ D σ H,t' D σ H->t D σ H):PS X e t':=fun pins s σ H D I w=>h pins s σ H D I (i D σ H w)
theorem PSs.imp{e:List Stmt}{t t':TS}(h:PSs X e t)(i:∀ D σ H,t' D σ H->t D σ H):PSs X e t':=fun pins s σ H D I w=>h pins s σ H D I (i D σ H w)
end
section
variable {X:Cx}{a b c:Expr}{ta tb tc:RTE}{tA tB:RTT}{pos:Pos}{rest:LEx}
def qpQ(i:Nat):RTE:=fun σ M Q=>match σ[i]? with|some (some v)=>Q v M|_=>False
def rC(v:RV):RTE:=fun _ M Q=>Q v M
theorem rv(i:Nat){x:Str}{pos:Pos}(hN:X.N[i]? =some x:=by rfl)(hv:Vis X.env.scope x)(hd:(x==("__debug__":Str))=false:=by decide)
 (hcd:(x==("__classdict__":Str))=false:=by decide):RPE X (.Name x pos) (qpQ i):=PE.imp (qsO hN hv hd hcd) fun σ0 H Q h=>by
 obtain⟨σ,M,Qr,hs,hv,ht,hk⟩:=h;unfold qpQ at ht;split at ht
 · rename_i r e
   obtain⟨v,e1,h1⟩:=hs.2 i r e;exact⟨v,e1,hk r M v H ht (.refl H) hv h1⟩
 · exact ht.elim
theorem qfi{e:Expr}{v:V}{r:RV}(h:PE X e (tC v))(hr:∀ H,Rep X.K H r v):RPE X e (rC r):=PE.imp h fun σ0 H Q h=>by
 obtain⟨σ,M,Qr,hs,hv,ht,hk⟩:=h;exact hk r M v H ht (.refl H) hv (hr H)
theorem ri{i j pos}:RPE X (.Constant (.int i) j pos) (rC (.int i)):=qfi qsT fun H=>by simp only[Rep]
theorem rb{b j pos}:RPE X (.Constant (.bool b) j pos) (rC (.bl b)):=qfi qwJ fun H=>by simp only[Rep]
theorem rn{j pos}:RPE X (.Constant .none j pos) (rC .non):=qfi qsS fun H=>by simp only[Rep]
theorem rs{x j pos}:RPE X (.Constant (.str x) j pos) (rC (.str x)):=qfi qoD fun H=>by simp only[Rep]
theorem qsd{x:Str}{v:V}{r:RV}{u:Value}{pos:Pos}(hm:X.mg x=some u)(rl:RelV v u)(hr:∀ H,Rep X.K H r v)(hg:Gl X x:=by rfl)(hd:(x==("__debug__":Str))=false:=by decide):RPE X (.Name x pos) (rC r):=
 qfi (qp8 hg hm rl hd) hr
theorem qkH{x:Str}{v:V}{r:RV}{u:Value}{pos:Pos}(hm:X.mg x=none)(hv:bootBuiltins x=some u)(rl:RelV v u)(hr:∀ H,Rep X.K H r v)(hg:Gl X x:=by rfl)(hn:x≠"__name__":=by decide)(hd:(x==("__debug__":Str))=false:=by decide):RPE X (.Name x pos) (rC r):=
 qfi (qqc hg hm hv rl hn hd) hr
abbrev RR2:=RV->RV->RM->RVK->Prop
def upO(K:Frg)(rr:RR2):R2:=fun x y H Q0=>∃ rx ry M Q,Rep K H rx x/\Rep K H ry y/\View K H M/\rr rx ry M Q/\UpK K H Q Q0
def ROp(X:Cx)(f:Value->Value->Sem Value)(rr:RR2):Prop:=OpR X f (upO X.K rr)
def rOp(rr:RR2)(ta tb:RTE):RTE:=fun σ M Q=>ta σ M fun x M1=>tb σ M1 fun y M2=>rr x y M2 Q
theorem qfH{K:Frg}{rr:RR2}{σ0:L2.St}{H:Hp}{Q0:VK}(h:up K (rOp rr ta tb) σ0 H Q0):tOp (upO K rr) (up K ta) (up K tb) σ0 H Q0:=by
 obtain⟨σ,M,Q,hs,hv,ht,hk⟩:=h;refine⟨σ,M,_,hs,hv,ht,fun rx M1 x H1 hb e1 v1 r1=>?_⟩
 refine⟨σ,M1,_,hs.ext e1,v1,hb,fun ry M2 y H2 hr e2 v2 r2=>?_⟩
 exact⟨rx,ry,M2,Q,Rep.ext e2 rx x r1,r2,v2,hr,hk.ext (e1.trans e2)⟩
theorem rop{op:Operator}{rr:RR2}(ho:ROp X (binaryOp op) rr)(ha:RPE X a ta)(hb:RPE X b tb):RPE X (.BinOp a op b pos) (rOp rr ta tb):=PE.imp (qwH ho ha hb) fun _ _ _ h=>qfH h
theorem qDv{op:CmpOp}{rr:RR2}(ho:ROp X (compareOp op) rr)(ha:RPE X a ta)(hb:RPE X b tb)(hm:behindInMarks op b=false):RPE X (.Compare a [op] [b] pos) (rOp rr ta tb):=
 PE.imp (qk1 ho ha hb hm) fun _ _ _ h=>qfH h
def qfJ(t:RTE):RTT:=fun σ M Q=>t σ M fun v M'=>match v with| .bl k=>Q k M'|_=>False
theorem qcq{K:Frg}{H:Hp}{Q:Bool->RM->Prop}{Q0:Bool->Hp->Prop}(hk:∀ b M' H',Q b M'->Ext H H'->View K H' M'->Q0 b H'):
 UpK K H (fun v M'=>match v with| .bl k=>Q k M'|_=>False) (fun x H'=>∃ k,x= .bl k/\Q0 k H'):=fun rv M' v H' q e w r=>by
 cases rv with
 |bl k=>simp only[Rep]at r;exact⟨k,r,hk k M' H' q e w⟩
 |_=>exact q.elim
theorem qv9{op:CmpOp}{rr:RR2}(ho:ROp X (compareOp op) rr)(ha:RPE X a ta)(hb:RPE X b tb)(hm:behindInMarks op b=false):RPT X (.Compare a [op] [b] pos) (qfJ (rOp rr ta tb)):=
 PT.imp (qkV ho ha hb hm) fun σ0 H Q0 h=>by
  obtain⟨σ,M,Q,hs,hv,ht,hk⟩:=h;exact qfH ⟨σ,M,_,hs,hv,ht,qcq hk⟩
theorem qv7{e:Expr}{t:RTE}(h:RPE X e t)(he:∀ whole,isTrue e X.env whole=(do let v<-whole;standAt e.pos;holding [v] (truthy v)):=by intro _;rfl):RPT X e (qfJ t):=
 PT.imp (qsE h he) fun σ0 H Q0 h=>by
  obtain⟨σ,M,Q,hs,hv,ht,hk⟩:=h;exact⟨σ,M,_,hs,hv,ht,qcq hk⟩
noncomputable def qfl (rr rr':RR2)(ta tb tc:RTE):RTE:=fun σ M Q=>ta σ M fun x M1=>tb σ M1 fun y M2=>rr x y M2 fun z M3=>match z with
 | .bl k=>(k=true->tc σ M3 fun w M4=>rr' y w M4 Q)/\(k=false->Q (.bl false) M3)
 |_=>False
theorem qhx{K:Frg}{rr rr':RR2}{σ0:L2.St}{H:Hp}{Q0:VK}(h:up K (qfl rr rr' ta tb tc) σ0 H Q0):qkp (upO K rr) (upO K rr') (up K ta) (up K tb) (up K tc) σ0 H Q0:=by
 obtain⟨σ,M,Q,hs,hv,ht,hk⟩:=h;refine⟨σ,M,_,hs,hv,ht,fun rx M1 x H1 hb e1 v1 r1=>?_⟩
 refine⟨σ,M1,_,hs.ext e1,v1,hb,fun ry M2 y H2 hr e2 v2 r2=>?_⟩
 refine⟨rx,ry,M2,_,Rep.ext e2 rx x r1,r2,v2,hr,fun rz M3 z H3 hz e3 v3 r3=>?_⟩
 cases rz with
 |bl k=>
  simp only[Rep]at r3;refine⟨k,r3,?_⟩;have e13:=(e1.trans e2).trans e3;cases k with
  |true=>
   refine qqH ?_;refine⟨σ,M3,_,hs.ext e13,v3,hz.1 rfl,fun rw M4 w H4 hw e4 v4 r4=>?_⟩
   exact⟨ry,rw,M4,Q,Rep.ext (e3.trans e4) ry y r2,r4,v4,hw,hk.ext (e13.trans e4)⟩
  |false=>exact qqI (hk _ M3 _ H3 (hz.2 rfl) e13 v3 (by simp only[Rep]))
 |_=>exact hz.elim
theorem qsj{op op':CmpOp}{rr rr':RR2}(ho:ROp X (compareOp op) rr)(ho':ROp X (compareOp op') rr')(ha:RPE X a ta)(hb:RPE X b tb)(hc:RPE X c tc)(hm:lastMarks [op,op'] [b,c]=false:=by with_unfolding_all rfl):
 RPE X (.Compare a [op,op'] [b,c] pos) (qfl rr rr' ta tb tc):=PE.imp (qnq ho ho' ha hb hc hm) fun _ _ _ h=>qhx h
theorem qpF{op op':CmpOp}{rr rr':RR2}(ho:ROp X (compareOp op) rr)(ho':ROp X (compareOp op') rr')(ha:RPE X a ta)(hb:RPE X b tb)(hc:RPE X c tc)(hm:lastMarks [op,op'] [b,c]=false:=by with_unfolding_all rfl):
 RPT X (.Compare a [op,op'] [b,c] pos) (qfJ (qfl rr rr' ta tb tc)):=PT.imp (qne ho ho' ha hb hc hm) fun σ0 H Q0 h=>by
 obtain⟨σ,M,Q,hs,hv,ht,hk⟩:=h;exact qhx ⟨σ,M,_,hs,hv,ht,qcq hk⟩
def rUn(g:RV->RM->RVK->Prop)(ta:RTE):RTE:=fun σ M Q=>ta σ M fun x M1=>g x M1 Q
def upU(K:Frg)(g:RV->RM->RVK->Prop):V->Hp->VK->Prop:=fun x H Q0=>∃ rx M Q,Rep K H rx x/\View K H M/\g rx M Q/\UpK K H Q Q0
theorem qpC{K:Frg}{g:RV->RM->RVK->Prop}{σ0:L2.St}{H:Hp}{Q0:VK}(h:up K (rUn g ta) σ0 H Q0):tUn (upU K g) (up K ta) σ0 H Q0:=by
 obtain⟨σ,M,Q,hs,hv,ht,hk⟩:=h;exact⟨σ,M,_,hs,hv,ht,fun rx M1 x H1 hb e1 v1 r1=>⟨rx,M1,Q,r1,v1,hb,hk.ext e1⟩⟩
theorem run{op:UnaryOp}{g:RV->RM->RVK->Prop}(ho:UnR X (unaryOp op) (upU X.K g))(ha:RPE X a ta):RPE X (.UnaryOp op a pos) (rUn g ta):=PE.imp (qwF ho ha) fun _ _ _ h=>qpC h
def qu1(t u:RTT):RTT:=fun σ M Q=>t σ M fun c M1=>(c=true->u σ M1 Q)/\(c=false->Q false M1)
def rOr(t u:RTT):RTT:=fun σ M Q=>t σ M fun c M1=>(c=true->Q true M1)/\(c=false->u σ M1 Q)
def qAh(t:RTT):RTT:=fun σ M Q=>t σ M fun c M1=>Q (!c) M1
theorem qwm(ha:RPT X a tA):RPW X (.BoolOp .And [a] pos) tA:=qpV ha
theorem qDr(ha:RPT X a tA):RPW X (.BoolOp .Or [a] pos) tA:=qsB ha
theorem rand(ha:RPT X a tA)(hb:RPW X (.BoolOp .And (b::rest) pos) tB):RPW X (.BoolOp .And (a::b::rest) pos) (qu1 tA tB):=PW.imp (qsD ha hb) fun σ0 H Q0 h=>by
 obtain⟨σ,M,Q,hs,hv,ht,hk⟩:=h;refine⟨σ,M,_,hs,hv,ht,fun k M1 H1 q e1 v1=>?_⟩
 cases k with
 |true=>exact qqH ⟨σ,M1,Q,hs.ext e1,v1,q.1 rfl,fun b M' H' z e2 w=>hk b M' H' z (e1.trans e2) w⟩
 |false=>exact qqI (hk false M1 H1 (q.2 rfl) e1 v1)
theorem ror(ha:RPT X a tA)(hb:RPW X (.BoolOp .Or (b::rest) pos) tB):RPW X (.BoolOp .Or (a::b::rest) pos) (rOr tA tB):=PW.imp (qwz ha hb) fun σ0 H Q0 h=>by
 obtain⟨σ,M,Q,hs,hv,ht,hk⟩:=h;refine⟨σ,M,_,hs,hv,ht,fun k M1 H1 q e1 v1=>?_⟩
 cases k with
 |true=>exact qqH (hk true M1 H1 (q.1 rfl) e1 v1)
 |false=>exact qqI ⟨σ,M1,Q,hs.ext e1,v1,q.2 rfl,fun b M' H' z e2 w=>hk b M' H' z (e1.trans e2) w⟩
theorem rtw(h:RPW X a tA):RPT X a tA:=PW.pt h
theorem qv8(ha:RPT X a tA):RPT X (.UnaryOp .Not a pos) (qAh tA):=PT.imp (qsF ha) fun σ0 H Q0 h=>by
 obtain⟨σ,M,Q,hs,hv,ht,hk⟩:=h;exact⟨σ,M,_,hs,hv,ht,fun k M1 H1 q e1 v1=>hk (!k) M1 H1 q e1 v1⟩
def qna(ta tb:RTE):RTE:=fun σ M Q=>ta σ M fun x M1=>match x with| .bl c=>(c=true->tb σ M1 Q)/\(c=false->Q (.bl false) M1)|_=>False
def quV(ta tb:RTE):RTE:=fun σ M Q=>ta σ M fun x M1=>match x with| .bl c=>(c=true->Q (.bl true) M1)/\(c=false->tb σ M1 Q)|_=>False
def qst(ta:RTE):RTE:=fun σ M Q=>ta σ M fun x M1=>match x with| .bl c=>Q (.bl (!c)) M1|_=>False
theorem qz8{op}{t:RTE}(h:RPE X a t):RPE X (.BoolOp op [a] pos) t:=qsQ h
theorem qsm(ha:RPE X a ta)(hb:RPE X (.BoolOp .And (b::rest) pos) tb):RPE X (.BoolOp .And (a::b::rest) pos) (qna ta tb):=PE.imp (qsW ha hb) fun σ0 H Q0 h=>by
 obtain⟨σ,M,Q,hs,hv,ht,hk⟩:=h;refine⟨σ,M,_,hs,hv,ht,fun rx M1 x H1 q e1 v1 r1=>?_⟩
 cases rx with
 |bl k=>
  simp only[Rep]at r1;refine⟨k,r1,?_⟩;cases k with
  |true=>exact qqH ⟨σ,M1,Q,hs.ext e1,v1,q.1 rfl,hk.ext e1⟩
  |false=>exact qqI (hk _ M1 _ H1 (q.2 rfl) e1 v1 (by simp only[Rep]))
 |_=>exact q.elim
theorem qz7(ha:RPE X a ta)(hb:RPE X (.BoolOp .Or (b::rest) pos) tb):RPE X (.BoolOp .Or (a::b::rest) pos) (quV ta tb):=PE.imp (qwG ha hb) fun σ0 H Q0 h=>by
 obtain⟨σ,M,Q,hs,hv,ht,hk⟩:=h;refine⟨σ,M,_,hs,hv,ht,fun rx M1 x H1 q e1 v1 r1=>?_⟩
 cases rx with
 |bl k=>
  simp only[Rep]at r1;refine⟨k,r1,?_⟩;cases k with
  |true=>exact qqH (hk _ M1 _ H1 (q.1 rfl) e1 v1 (by simp only[Rep]))
  |false=>exact qqI ⟨σ,M1,Q,hs.ext e1,v1,q.2 rfl,hk.ext e1⟩
 |_=>exact q.elim
theorem qwd(ha:RPE X a ta):RPE X (.UnaryOp .Not a pos) (qst ta):=PE.imp (qsR ha) fun σ0 H Q0 h=>by
 obtain⟨σ,M,Q,hs,hv,ht,hk⟩:=h;refine⟨σ,M,_,hs,hv,ht,fun rx M1 x H1 q e1 v1 r1=>?_⟩
 cases rx with
 |bl k=>simp only[Rep]at r1;exact⟨k,r1,hk _ M1 _ H1 q e1 v1 (by simp only[Rep])⟩
 |_=>exact q.elim
def rIf(t:RTT)(ta tb:RTE):RTE:=fun σ M Q=>t σ M fun c M1=>(c=true->ta σ M1 Q)/\(c=false->tb σ M1 Q)
theorem rif{c:Expr}(hc:RPT X c tA)(ha:RPE X a ta)(hb:RPE X b tb):RPE X (.IfExp c a b pos) (rIf tA ta tb):=PE.imp (qnl hc ha hb) fun σ0 H Q0 h=>by
 obtain⟨σ,M,Q,hs,hv,ht,hk⟩:=h;refine⟨σ,M,_,hs,hv,ht,fun k M1 H1 q e1 v1=>?_⟩
 cases k with
 |true=>exact qqH ⟨σ,M1,Q,hs.ext e1,v1,q.1 rfl,hk.ext e1⟩
 |false=>exact qqI ⟨σ,M1,Q,hs.ext e1,v1,q.2 rfl,hk.ext e1⟩
variable {e:Expr}{es:LEx}{te:RTE}{t:RTA}
def qm9:RTA:=fun _ M Q=>Q [] M
def qjC(ta:RTE)(tr:RTA):RTA:=fun σ M Q=>ta σ M fun x M1=>tr σ M1 fun xs M2=>Q (x::xs) M2
theorem qxY:RPA X [] qm9:=PA.imp qsX fun σ0 H Q0 h=>by
 obtain⟨σ,M,Q,hs,hv,ht,hk⟩:=h;exact hk [] M [] H ht (.refl H) hv Reps.nil
theorem qoe(ha:RPE X e te)(hr:RPA X es t)(hs:starEach (e::es) X.env=(false,eval e X.env)::starEach es X.env:=by rfl):RPA X (e::es) (qjC te t):=PA.imp (qqd ha hr hs) fun σ0 H Q0 h=>by
 obtain⟨σ,M,Q,hs,hv,ht,hk⟩:=h;refine⟨σ,M,_,hs,hv,ht,fun rx M1 x H1 q e1 v1 r1=>?_⟩
 refine⟨σ,M1,_,hs.ext e1,v1,q,fun rs M2 vs H2 q2 e2 v2 r2=>?_⟩
 exact hk (rx::rs) M2 (x::vs) H2 q2 (e1.trans e2) v2 (Reps.cons (Rep.ext e2 rx x r1) r2)
def qAa(t:RTA):RTE:=fun σ M Q=>t σ M fun rs M1=>rs.length<=sizeLine/\Q (.tup rs) M1
theorem qdb{K:Frg}{H:Hp}{p:Addr}{rs:LR}{vs:LV}(h:H p=none)(r:Reps K H rs vs):Rep K (upd H p (.tup vs)) (.tup rs) (.ref p):=by
 simp only[Rep];exact⟨p,vs,rfl,qag,Reps.ext (Ext.new h) rs vs r⟩
theorem qbZ{K:Frg}{H:Hp}{p:Addr}{o:Obj}{rs:LR}{vs:LV}(h:H p=none)(r:Reps K H rs vs):Rep K (upd H p (.frz o (.lst vs))) (.ls rs) (.ref p):=by
 simp only[Rep];exact⟨p,vs,rfl,.inl ⟨o,qag⟩,Reps.ext (Ext.new h) rs vs r⟩
theorem qDp{x1}(h:RPA X es t):RPE X (.Tuple es x1 pos) (qAa t):=PE.imp (qsP h) fun σ0 H Q0 h=>by
 obtain⟨σ,M,Q,hs,hv,ht,hk⟩:=h;refine⟨σ,M,_,hs,hv,ht,fun rs M1 vs H1 q e1 v1 r1=>⟨by rw[<-r1.length];exact q.1,fun p hp=>?_⟩⟩
 exact hk _ M1 _ _ q.2 (e1.trans (Ext.new hp)) (v1.new hp) (qdb hp r1)
def qAm(t:RTA):RTE:=fun σ M Q=>t σ M fun rs M1=>rs.length<=sizeLine/\∀ p,M1 p=none->Q (.ref p) (put M1 p (.lst rs))
theorem qDs(h:RPA X es t):RPE X (.List es pos) (qAm t):=PE.imp (qoE h) fun σ0 H Q0 h=>by
 obtain⟨σ,M,Q,hs,hv,ht,hk⟩:=h;refine⟨σ,M,_,hs,hv,ht,fun rs M1 vs H1 q e1 v1 r1=>⟨by rw[<-r1.length];exact q.1,fun p hp=>?_⟩⟩
 exact hk _ _ _ _ (q.2 p (v1.free hp)) (e1.trans (Ext.new hp)) (v1.newPut hp ⟨vs,rfl,Reps.ext (Ext.new hp) rs vs r1⟩) (by simp only[Rep])
end
section
variable {X:Cx}{pins:LAO}{σ:L2.St}{H:Hp}{s:Shared}
theorem freeze{p:Addr}{xs:LV}(I:Inv X pins σ H s)(h:H p=some (.lst xs)):∃ o,Inv X pins σ (upd H p (.frz o (.lst xs))) s:=by
 have hz:xs.length<=sizeLine/\∃ (its:LVl) (n:Nat),Vals xs its/\s.heap.get? p=some { cls:=.type "list",data:=.seq its.toArray n }:=I.hok p _ h;obtain⟨z,its,n,r,e⟩:=id hz;have np:∀ b,H b=none->b≠p:=fun b q w=>by subst w;rw[h]at q;cases q
 refine⟨{ cls:=.type "list",data:=.seq its.toArray n },⟨I.ok,I.os,I.bare,⟨I.base.keep,I.base.slot,fun b o q w x=>?_,I.base.there,fun b xs' q=>?_,fun b o u q=>?_,fun b ps q=>?_⟩,I.loc,I.cell,?_,fun x c q=>?_,fun q hq=>?_,fun b u q=>?_,I.len⟩⟩
 · have:=I.base.free b o q w x
   rw[qaa (np b this)];exact this
 · have e1:=I.base.tups b xs' q
   rw[qaa (qeo e1 h (by intro z;cases z))];exact e1
 · have e1:=I.base.frzs b o u q
   rw[qaa (qeo e1 h (by intro z;cases z))];exact e1
 · obtain⟨more,e1⟩:=I.base.tbls b ps q
   exact⟨more,by rw[qaa (qeo e1 h (by intro z;cases z))];exact e1⟩
 · rw[qaa (np _ I.free)];exact I.free
 · have:=I.freeC x c q
   rw[qaa (np _ this)];exact this
 · obtain⟨a1,a2,a3⟩:=I.pin q hq
   exact⟨a1,by rw[qaa (np _ a2)];exact a2,a3⟩
 · by_cases hb:b=p
   · subst hb
     rw[qag]at q;cases q;exact⟨e,z,its,n,r,e⟩
   · rw[qaa hb]at q
     refine(I.hok b u q).stay (fun _ _ _ q=>q) (fun c q=>?_) fun c ys q=>?_
     · rw[qaa (qeo q h (by intro z;cases z))];exact q
     · rw[qaa (qeo q h (by intro z;cases z))];exact q
theorem frozen{Q:VK}{u:Value}(h:EP X pins σ (fun v H'=>∃ H1 p xs,v= .ref p/\H1 p=none/\H'=upd H1 p (.lst xs)/\∀ o,Q (.ref p) (upd H1 p (.frz o (.lst xs)))) u s):EP X pins σ Q u s:=by
 obtain⟨v,H',I,r,H1,p,xs,rfl,hn,rfl,q⟩:=h;obtain⟨o,I'⟩:=freeze I (p:=p) (xs:=xs) qag;rw[qpj]at I';exact⟨.ref p,_,I',r,q o⟩
end
section
variable {X:Cx}{es:LEx}{t:RTA}{pos:Pos}
def qAn(t:RTA):RTE:=fun σ M Q=>t σ M fun rs M1=>rs.length<=sizeLine/\Q (.ls rs) M1
theorem qDt(h:RPA X es t):RPE X (.List es pos) (qAn t):=fun pins s σ0 H Q0 I hw=>by
 obtain⟨σ,M,Q,hs,hv,ht,hk⟩:=hw;refine thn (qoE h pins s σ0 H (fun v H'=>∃ H1 p xs,v= .ref p/\H1 p=none/\H'=upd H1 p (.lst xs)/\∀ o,Q0 (.ref p) (upd H1 p (.frz o (.lst xs)))) I ?_) fun _ _ e=>frozen e
 refine⟨σ,M,_,hs,hv,ht,fun rs M1 vs H1 q e1 v1 r1=>⟨by rw[<-r1.length];exact q.1,fun p hp=>⟨H1,p,vs,rfl,hp,rfl,fun o=>?_⟩⟩⟩
 exact hk _ M1 _ _ q.2 (e1.trans (Ext.new hp)) (v1.new hp) (qbZ hp r1)
end
section
variable {X:Cx}{st:Stmt}{rest:List Stmt}{t u:RTS}{e:Expr}{te:RTE}{pos:Pos}
def qsu:RTS:=fun D σ M=>D.nx σ M
def qAc(t u:RTS):RTS:=fun D σ M=>t { D with nx:=u D } σ M
theorem qCY:qmN X [] qsu:=PSs.imp qpW fun D0 σ0 H h=>by
 obtain⟨σ,M,D,hs,hv,ht,hd⟩:=h;exact hd.nx σ M σ0 H ht (.refl H) hv hs
theorem qvT(h1:RPS X st t)(h2:qmN X rest u):qmN X (st::rest) (qAc t u):=PSs.imp (qnf h1 h2) fun D0 σ0 H h=>by
 obtain⟨σ,M,D,hs,hv,ht,hd⟩:=h;refine⟨σ,M,_,hs,hv,ht,⟨fun σ' M' σ0' H' q e w r=>?_,hd.rt,hd.bk,hd.ct⟩⟩
 exact⟨σ',M',D,r,w,q,hd.ext e⟩
def qsy(te:RTE):RTS:=fun D σ M=>te σ M fun _ M1=>D.nx σ M1
theorem qvS(he:RPE X e te)(hs:swapsWith e none pos.line X.env=pure false:=by rfl):RPS X (.Expr e pos) (qsy te):=PS.imp (qpY he hs) fun D0 σ0 H h=>by
 obtain⟨σ,M,D,hs,hv,ht,hd⟩:=h;exact⟨σ,M,_,hs,hv,ht,fun rx M1 x H1 q e1 v1 r1=>hd.nx σ M1 σ0 H1 q e1 v1 (hs.ext e1)⟩
def qAd(te:RTE):RTS:=fun D σ M=>te σ M D.rt
theorem qCW(he:RPE X e te):RPS X (.Return (some e) pos) (qAd te):=PS.imp (qsH he) fun D0 σ0 H h=>by
 obtain⟨σ,M,D,hs,hv,ht,hd⟩:=h;exact⟨σ,M,_,hs,hv,ht,hd.rt⟩
def qsr:RTS:=fun D _ M=>D.rt .non M
theorem qvO:RPS X (.Return none pos) qsr:=PS.imp qpX fun D0 σ0 H h=>by
 obtain⟨σ,M,D,hs,hv,ht,hd⟩:=h;exact hd.rt .non M .non H ht (.refl H) hv (by simp only[Rep])
def quZ(c:RTT)(t u:RTS):RTS:=fun D σ M=>c σ M fun b M1=>(b=true->t D σ M1)/\(b=false->u D σ M1)
theorem sif{c:Expr}{a b:List Stmt}{tc:RTT}(hc:RPT X c tc)(ha:qmN X a t)(hb:qmN X b u):RPS X (.If c a b pos) (quZ tc t u):=PS.imp (qwB hc ha hb) fun D0 σ0 H h=>by
 obtain⟨σ,M,D,hs,hv,ht,hd⟩:=h;refine⟨σ,M,_,hs,hv,ht,fun k M1 H1 q e1 v1=>?_⟩
 cases k with
 |true=>exact qqH ⟨σ,M1,D,hs.ext e1,v1,q.1 rfl,hd.ext e1⟩
 |false=>exact qqI ⟨σ,M1,D,hs.ext e1,v1,q.2 rfl,hd.ext e1⟩
def qsq(i:Nat)(te:RTE):RTS:=fun D σ M=>te σ M fun x M1=>D.nx (σ.set i (some x)) M1
theorem sset(i:Nat){x:Str}{pos':Pos}(he:RPE X e te)(hN:X.N.Nodup)(hi:X.N[i]? =some x:=by rfl)(hx:Loc X.env.scope x)(hs:swapsWith e (some (.Name x pos')) pos.line X.env=pure false:=by rfl)
 (hf:X.fn x=true∨X.env.scope.names.lookup x=some .local):RPS X (.Assign [.Name x pos'] e pos) (qsq i te):=PS.imp (qsG hN hi hx he hs hf) fun D0 σ0 H h=>by
 obtain⟨σ,M,D,hs,hv,ht,hd⟩:=h;exact⟨σ,M,_,hs,hv,ht,fun rx M1 x H1 q e1 v1 r1=>hd.nx _ M1 _ H1 q e1 v1 ((hs.ext e1).set r1 i)⟩
abbrev RTG:=RV->RSt->RM->(RSt->RM->Prop)->Prop
def upG(K:Frg)(g:RTG):TG:=fun v σ0 H Q0=>∃ rv σ M Q,Rep K H rv v/\RepSt K H σ σ0/\View K H M/\g rv σ M Q/\UpS K H Q Q0
def RPG(X:Cx)(target:Expr)(g:RTG):Prop:=PG X target (upG X.K g)
theorem PG.imp{tg:Expr}{t t':TG}(h:PG X tg t)(i:∀ v σ H Q,t' v σ H Q->t v σ H Q):PG X tg t':=fun pins s σ H v u Q I r w=>h pins s σ H v u Q I r (i v σ H Q w)
def rgN(i:Nat):RTG:=fun x σ M Q=>Q (σ.set i (some x)) M
theorem qxi(i:Nat){x:Str}{pos:Pos}(hN:X.N.Nodup)(hi:X.N[i]? =some x:=by rfl)(hx:Loc X.env.scope x)
 (hf:X.fn x=true∨X.env.scope.names.lookup x=some .local):RPG X (.Name x pos) (rgN i):=PG.imp (qfN hN hi hx hf) fun v σ0 H Q0 h=>by
 obtain⟨rv,σ,M,Q,hr,hs,hv,hg,hk⟩:=h;exact hk _ M _ H hg (.refl H) hv (hs.set hr i)
def qfh:RSt->List Nat->LR->RSt
 |σ,i::is,x::xs=>qfh (σ.set i (some x)) is xs
 |σ,_,_=>σ
def qnT:List Nat->TGs
 | []=>qAI
 |i::is=>qtT (qqW i) (qnT is)
theorem qlY{K:Frg}{H:Hp}{Q0:L2.St->Hp->Prop}:∀ {is:List Nat} {rs:LR} {vs:LV} {σ:RSt} {σ0:L2.St},rs.length=is.length->Reps K H rs vs->RepSt K H σ σ0->
 (∀ σ0',RepSt K H (qfh σ is rs) σ0'->Q0 σ0' H)->qnT is vs σ0 H Q0
 | [],[],vs,σ,σ0,_,r,hs,k=>by
  simp only[Reps]at r;exact⟨r,k σ0 hs⟩
 |i::is,x::rs,vs,σ,σ0,hl,r,hs,k=>by
  simp only[Reps]at r;obtain⟨v,vs',rfl,h1,h2⟩:=r;refine⟨v,vs',rfl,?_⟩;show qnT is vs' (σ0.set i (some v)) H Q0;exact qlY (σ:=σ.set i (some x)) (by simpa using hl) h2 (hs.set h1 i) k
def rgU(is:List Nat):RTG:=fun x σ M Q=>match x with| .tup xs=>xs.length=is.length/\Q (qfh σ is xs) M|_=>False
theorem qDX{es:LEx}{k:Nat}{is:List Nat}{n:Nat}{pos:Pos}(hc:X.calm=true)(h:PGs X es (qnT is))(hl:n=is.length:=by rfl)
 (hn:(assignEach es X.env).length=n:=by rfl) (hst:(assignEach es X.env).findIdx? (·.1)=none:=by rfl):RPG X (.Tuple es k pos) (rgU is):=PG.imp (qoC hc h hn hst) fun v σ0 H Q0 h=>by
 obtain⟨rv,σ,M,Q,hr,hs,hv,hg,hk⟩:=h;cases rv with
 |tup xs=>
  simp only[Rep]at hr;obtain⟨a,vs,rfl,h1,h2⟩:=hr;exact⟨a,vs,rfl,SqT.of h1,by rw[<-h2.length,hl];exact hg.1,qlY hg.1 h2 hs fun σ0' q=>hk _ M σ0' H hg.2 (.refl H) hv q⟩
 |_=>exact hg.elim
def qww(te:RTE)(g:RTG):RTS:=fun D σ M=>te σ M fun x M1=>g x σ M1 D.nx
theorem qz5{tg e:Expr}{te:RTE}{g:RTG}{pos:Pos}(he:RPE X e te)(hg:RPG X tg g)(hs:swapsWithSole [tg] e pos.line X.env=pure false:=by rfl)(hw:swappedStores [tg] e X.env=pure none:=by rfl)
 (h1:(assignEach [tg] X.env).map (·.2)= [assign tg X.env]:=by rfl):RPS X (.Assign [tg] e pos) (qww te g):=PS.imp (qsL he hg hs hw h1) fun D0 σ0 H h=>by
 obtain⟨σ,M,D,hs,hv,ht,hd⟩:=h;exact⟨σ,M,_,hs,hv,ht,fun rx M1 x H1 q e1 v1 r1=>⟨rx,σ,M1,D.nx,r1,hs.ext e1,v1,q,hd.nx.ext e1⟩⟩
abbrev qog:=RV->RV->RV->RM->(RM->Prop)->Prop
noncomputable def qrF (K:Frg)(g:qog):qvf:=fun o i v H Q0=>∃ ro ri rx M Q,Rep K H ro o/\Rep K H ri i/\Rep K H rx v/\View K H M/\g ro ri rx M Q/\∀ M' H',Q M'->Ext H H'->View K H' M'->Q0 H'
def qse(to ti:RTE)(g:qog):RTG:=fun v σ M Q=>to σ M fun o M1=>ti σ M1 fun i M2=>g o i v M2 fun M3=>Q σ M3
theorem qDY{o i:Expr}{to ti:RTE}{g:qog}{pos:Pos}(ho:RPE X o to)(hi:RPE X i ti)(hs:qvg X (qrF X.K g))
 (ha:∀ v,assign (.Subscript o i pos) X.env v=(do
  let ov<-holding [v] (eval o X.env)
  let iv<-holding [v,ov] (eval i X.env)
  standAt pos
  holding [v,ov,iv] (setItem ov iv v)
  release [v,ov,iv] []):=by intro _;rfl):RPG X (.Subscript o i pos) (qse to ti g):=PG.imp (qsN ho hi hs ha) fun v σ0 H Q0 h=>by
 obtain⟨rv,σ,M,Q,hr,hs,hv,hg,hk⟩:=h;refine⟨σ,M,_,hs,hv,hg,fun ro M1 o H1 q e1 v1 r1=>?_⟩
 refine⟨σ,M1,_,hs.ext e1,v1,q,fun ri M2 i H2 q2 e2 v2 r2=>?_⟩
 refine⟨ro,ri,rv,M2,_,Rep.ext e2 ro o r1,r2,Rep.ext (e1.trans e2) rv v hr,v2,q2,fun M3 H3 q3 e3 v3=>?_⟩
 have e:=(e1.trans e2).trans e3;exact hk σ M3 σ0 H3 q3 e v3 (hs.ext e)
noncomputable def qem (g:RTG)(tb:RTS)(D:RD)(ok:RM->Prop)(un:RM->RM):LR->RSt->RM->Prop
 | [],σ,M=>ok M/\D.nx σ (un M)
 |x::r,σ,M=>ok M/\g x σ M fun σ2 M2=>tb { D with nx:=qem g tb D ok un r,ct:=qem g tb D ok un r,bk:=fun σ M=>ok M/\D.nx σ (un M),rt:=fun v M=>ok M/\D.rt v (un M) } σ2 M2
end
open PySem.SeqAt (EqAt RcAt RcNeAt)
mutual
def eqR:RV->RV->Bool
 | .non,.non=>true
 | .bl a,.bl b=>a==b
 | .bl a,.int b=>(if a then 1 else 0)==b
 | .int a,.bl b=>a==(if b then 1 else 0)
 | .int a,.int b=>a==b
 | .str a,.str b=>a==b
 | .tup xs,.tup ys=>qj6 xs ys
 | .ls xs,.ls ys=>qj6 xs ys
 |_,_=>false
def qj6:LR->LR->Bool
 | [],[]=>true
 |x::xs,y::ys=>eqR x y&&qj6 xs ys
 |_,_=>false
end
noncomputable def okR:Nat->RV->Bool
 |_,.non=>true
 |_,.bl _=>true
 |_,.int _=>true
 |_,.str _=>true
 |n+1,.tup xs=>xs.all (okR n)
 |n+1,.ls xs=>xs.all (okR n)
 |_,_=>false
mutual
def Den(h:Heap):RV->Value->Prop
 | .non,u=>u= .none
 | .bl b,u=>u= .bool b
 | .int i,u=>∃ t,u= .int i t
 | .str x,u=>∃ t,u= .str x t
 | .tup xs,u=>∃ a its,u= .ref a/\h.IsTuple a its.toArray/\Dens h xs its
 | .ls xs,u=>∃ a its,u= .ref a/\h.IsList a its.toArray/\Dens h xs its
 | .ref _,_=>False
 | .ty _,_=>False
def Dens(h:Heap):LR->LVl->Prop
 | [],us=>us= []
 |x::xs,us=>∃ u r,us=u::r/\Den h x u/\Dens h xs r
end
theorem Dens.length{h:Heap}:∀ {xs:LR} {us:LVl},Dens h xs us->xs.length=us.length
 | [],us,d=>by simp only[Dens]at d;subst d;rfl
 |x::xs,us,d=>by
  simp only[Dens]at d;obtain⟨u,r,rfl,_,t⟩:=d;simp[Dens.length t]
theorem Dens.get{h:Heap}:∀ {xs:LR} {us:LVl} {j:Nat} {u:Value},Dens h xs us->us[j]? =some u->Den h (xs.getD j .non) u/\xs.getD j .non∈xs
 | [],us,_,_,d,e=>by simp only[Dens]at d;subst d;simp at e
 |x::xs,us,0,u,d,e=>by
  simp only[Dens]at d;obtain⟨v,r,rfl,h1,_⟩:=d;simp at e;subst e;exact⟨by simpa using h1,by simp⟩
 |x::xs,us,j+1,u,d,e=>by
  simp only[Dens]at d;obtain⟨v,r,rfl,_,t⟩:=d;obtain⟨a,b⟩:=Dens.get (j:=j) t (by simpa using e)
  exact⟨by simpa using a,by simp only[List.getD_cons_succ];exact wat _ b⟩
section
variable {X:Cx}{pins:LAO}{σ:L2.St}{H:Hp}{s:Shared}
theorem Vals.cons_inv{v:V}{vs:LV}{us:LVl}(r:Vals (v::vs) us):∃ u us',us=u::us'/\RelV v u/\Vals vs us':=by
 cases r with
 |cons a b=>exact⟨_,_,rfl,a,b⟩
theorem qcc(I:Inv X pins σ H s):∀ (n:Nat),(∀ (r:RV) (v:V) (u:Value),okR n r=true->Rep X.K H r v->RelV v u->Den s.heap r u):=by
 intro n
 induction n with
 |zero=>
  intro r v u o h w;cases r with
  |non=>simp only[Rep]at h;subst h;simp only[Den];exact w
  |bl b=>simp only[Rep]at h;subst h;simp only[Den];exact w
  |int i=>simp only[Rep]at h;subst h;simp only[Den];exact w
  |str x=>simp only[Rep]at h;subst h;simp only[Den];exact w
  |_=>simp[okR]at o
 |succ n ih=>
  have all:∀ (rs:LR) (vs:LV) (us:LVl),rs.all (okR n)=true->Reps X.K H rs vs->Vals vs us->Dens s.heap rs us:=by
   intro rs
   induction rs with
   |nil=>
    intro vs us _ h w;simp only[Reps]at h;subst h;cases w;simp only[Dens]
   |cons x xs ihx=>
    intro vs us o h w;simp only[Reps]at h;obtain⟨v,r,rfl,h1,h2⟩:=h;obtain⟨u,us',rfl,w1,w2⟩:=Vals.cons_inv w;rw[wav,wac]at o;simp only[Dens];exact⟨u,us',rfl,ih x v u o.1 h1 w1,ihx r us' o.2 h2 w2⟩
  intro r v u o h w;cases r with
  |non=>simp only[Rep]at h;subst h;simp only[Den];exact w
  |bl b=>simp only[Rep]at h;subst h;simp only[Den];exact w
  |int i=>simp only[Rep]at h;subst h;simp only[Den];exact w
  |str x=>simp only[Rep]at h;subst h;simp only[Den];exact w
  |tup xs=>
   simp only[Rep]at h;obtain⟨a,vs,rfl,h1,h2⟩:=h;obtain⟨its,rv,ht,_⟩:=I.tuple (SqT.of h1);simp only[Den];exact⟨a,its,w,ht,all xs vs its o h2 rv⟩
  |ls xs=>
   simp only[Rep]at h;obtain⟨a,vs,rfl,h1,h2⟩:=h;obtain⟨its,rv,ht,_⟩:=I.list h1.sq;simp only[Den];exact⟨a,its,w,ht.isList,all xs vs its o h2 rv⟩
  |_=>simp[okR]at o
end
theorem qku{h:Heap}{a:Addr}{xs ys:LVl}(p:h.IsTuple a xs.toArray)(q:h.IsTuple a ys.toArray):xs=ys:=by
 obtain⟨o,e,_,n,d⟩:=p;obtain⟨o',e',_,n',d'⟩:=q;rw[e]at e';cases e';rw[d]at d';injection d' with d1 _
 simpa using congrArg Array.toList d1
theorem qlg{h:Heap}{a:Addr}{xs ys:LVl}(p:h.IsList a xs.toArray)(q:h.IsList a ys.toArray):xs=ys:=by
 obtain⟨o,e,_,n,d⟩:=p;obtain⟨o',e',_,n',d'⟩:=q;rw[e]at e';cases e';rw[d]at d';injection d' with d1 _
 simpa using congrArg Array.toList d1
theorem qjb{h:Heap}{a:Addr}{xs ys:Array Value}(p:h.IsList a xs)(q:h.IsTuple a ys):False:=by
 obtain⟨o,e,c,_⟩:=p;obtain⟨o',e',c',_⟩:=q;rw[e]at e';cases e';rw[c]at c';exact waI c' (by decide+kernel)
def isS:RV->Bool
 | .non=>true
 | .bl _=>true
 | .int _=>true
 | .str _=>true
 |_=>false
def qAV:Value->Option RV
 | .none=>some .non
 | .bool b=>some (.bl b)
 | .int i _=>some (.int i)
 | .str x _=>some (.str x)
 |_=>none
theorem qt5{h:Heap}{u:Value}:∀ {x:RV},isS x=true->Den h x u->qAV u=some x
 | .non,_,d=>by simp only[Den]at d;subst d;rfl
 | .bl _,_,d=>by simp only[Den]at d;subst d;rfl
 | .int _,_,d=>by simp only[Den]at d;obtain⟨t,rfl⟩:=d;rfl
 | .str _,_,d=>by simp only[Den]at d;obtain⟨t,rfl⟩:=d;rfl
theorem qxv{h:Heap}{u:Value}:∀ {x:RV},isS x=false->Den h x u->qAV u=none
 | .tup _,_,d=>by simp only[Den]at d;obtain⟨a,its,rfl,_⟩:=d;rfl
 | .ls _,_,d=>by simp only[Den]at d;obtain⟨a,its,rfl,_⟩:=d;rfl
 | .ref _,_,d=>by simp only[Den]at d
 | .ty _,_,d=>by simp only[Den]at d
theorem qiC{h:Heap}:∀ (n:Nat) (x y:RV) (u:Value),okR n x=true->okR n y=true->Den h x u->Den h y u->x=y:=by
 intro n;have sc:∀ (x y:RV) (u:Value),isS x=true->Den h x u->Den h y u->x=y:=by
  intro x y u sx dx dy;have ex:=qt5 sx dx;cases sy:isS y with
  |true=>
   have ey:=qt5 sy dy;rw[ex]at ey;exact wao ey
  |false=>
   have ey:=qxv sy dy;rw[ex]at ey;cases ey
 induction n with
 |zero=>
  intro x y u ox oy dx dy;have sx:isS x=true:=by cases x<;>first|rfl|(simp[okR]at ox)
  exact sc x y u sx dx dy
 |succ n ih=>
  have all:∀ (xs ys:LR) (us:LVl),xs.all (okR n)=true->ys.all (okR n)=true->Dens h xs us->Dens h ys us->xs=ys:=by
   intro xs
   induction xs with
   |nil=>
    intro ys us _ _ d e;simp only[Dens]at d;subst d;cases ys with
    |nil=>rfl
    |cons y ys=>simp only[Dens]at e;obtain⟨_,_,z,_⟩:=e;cases z
   |cons x xs ihx=>
    intro ys us ox oy d e;simp only[Dens]at d;obtain⟨u,r,rfl,d1,d2⟩:=d;cases ys with
    |nil=>simp only[Dens]at e;cases e
    |cons y ys=>
     simp only[Dens]at e;obtain⟨u',r',z,e1,e2⟩:=e;cases z;rw[wav,wac]at ox oy;rw[ih x y u ox.1 oy.1 d1 e1,ihx ys r ox.2 oy.2 d2 e2]
  intro x y u ox oy dx dy;cases sx:isS x with
  |true=>exact sc x y u sx dx dy
  |false=>
   cases sy:isS y with
   |true=>exact(sc y x u sy dy dx).symm
   |false=>
    cases x with
    |tup xs=>
     simp only[Den]at dx;obtain⟨a,its,rfl,p,d⟩:=dx;cases y with
     |tup ys=>
      simp only[Den]at dy;obtain⟨a',its',z,p',d'⟩:=dy;cases z;obtain rfl:=qku p p';rw[all xs ys its ox oy d d']
     |ls ys=>
      simp only[Den]at dy;obtain⟨a',its',z,p',d'⟩:=dy;cases z;exact(qjb p' p).elim
     |ref _=>simp only[Den]at dy
     |ty _=>simp only[Den]at dy
     |_=>cases sy
    |ls xs=>
     simp only[Den]at dx;obtain⟨a,its,rfl,p,d⟩:=dx;cases y with
     |ls ys=>
      simp only[Den]at dy;obtain⟨a',its',z,p',d'⟩:=dy;cases z;obtain rfl:=qlg p p';rw[all xs ys its ox oy d d']
     |tup ys=>
      simp only[Den]at dy;obtain⟨a',its',z,p',d'⟩:=dy;cases z;exact(qjb p p').elim
     |ref _=>simp only[Den]at dy
     |ty _=>simp only[Den]at dy
     |_=>cases sy
    |ref _=>simp only[Den]at dx
    |ty _=>simp only[Den]at dx
    |_=>cases sx
mutual
theorem qd4:∀ (x:RV),(∃ n,okR n x=true)->eqR x x=true
 | .non,_=>by simp[eqR]
 | .bl _,_=>by simp[eqR]
 | .int _,_=>by simp[eqR]
 | .str _,_=>by simp[eqR]
 | .tup xs,⟨n,o⟩=>by
  rw[eqR];refine qeJ xs ?_;cases n with
  |zero=>simp[okR]at o
  |succ n=>exact⟨n,o⟩
 | .ls xs,⟨n,o⟩=>by
  rw[eqR];refine qeJ xs ?_;cases n with
  |zero=>simp[okR]at o
  |succ n=>exact⟨n,o⟩
 | .ref _,⟨n,o⟩=>by cases n<;>simp[okR]at o
 | .ty _,⟨n,o⟩=>by cases n<;>simp[okR]at o
theorem qeJ:∀ (xs:LR),(∃ n,xs.all (okR n)=true)->qj6 xs xs=true
 | [],_=>by simp[qj6]
 |x::xs,⟨n,o⟩=>by
  rw[wav,wac]at o;rw[qj6,qd4 x ⟨n,o.1⟩,qeJ xs ⟨n,o.2⟩];rfl
end
abbrev qh9(xs ys:LR)(j:Nat):Bool:=eqR (xs.getD j .non) (ys.getD j .non)
theorem qdm:∀ xs ys:LR,((List.range (min xs.length ys.length)).all (qh9 xs ys)&&xs.length==ys.length)=qj6 xs ys
 | [],[]=>by simp[qj6]
 | [],_::_=>by simp[qj6]
 |_::_,[]=>by simp[qj6]
 |x::xs,y::ys=>by
  have ih:=qdm xs ys;have e1:min (x::xs).length (y::ys).length=min xs.length ys.length+1:=by simp only[wal];omega
  have e2:((x::xs).length==(y::ys).length)=(xs.length==ys.length):=by simp
  have e3:(List.range (min xs.length ys.length+1)).all (qh9 (x::xs) (y::ys))=(eqR x y&&(List.range (min xs.length ys.length)).all (qh9 xs ys)):=by
   rw[List.range_succ_eq_map,wav,List.all_map];rfl
  rw[e1,e2,e3,qj6,<-ih,Bool.and_assoc]
theorem qeI{xs ys:LR}(h:xs.length=ys.length):(List.range xs.length).all (qh9 xs ys)=qj6 xs ys:=by
 have:=qdm xs ys;rw[<-h,Nat.min_self]at this;simpa using this
theorem qdl{xs ys:LR}(h:xs.length≠ys.length):qj6 xs ys=false:=by
 have:=qdm xs ys;rw[<-this];simp[h]
theorem in1_units(A:Around):A.in1.units=A.units+1:=rfl
theorem qf9:∀ (n:Nat) (x y:RV) (A:Around) (s:Shared) (u w:Value),okR n x=true->okR n y=true->Den s.heap x u->Den s.heap y w->A.units+n<cLine->EqAt A s u w (eqR x y):=by
 intro n
 induction n with
 |zero=>
  intro x y A s u w ox oy dx dy hu;cases x<;>cases y<;>first|(simp only[Den]at dx;done)|(simp only[Den]at dy;done)|(simp[okR]at ox;done)|(simp[okR]at oy;done)|(simp only[Den]at dx dy;(first|subst dx|obtain⟨t1,rfl⟩:=dx|obtain⟨a1,its1,rfl,p1,d1⟩:=dx);(first|subst dy|obtain⟨t2,rfl⟩:=dy|obtain⟨a2,its2,rfl,p2,d2⟩:=dy);first|(simp only[eqR,Bool.not_false,Bool.not_true];with_reducible first|exact EqAt.same _|exact EqAt.none_bool _|exact EqAt.none_int _ _|exact EqAt.none_str _ _|exact EqAt.bool_none _|exact EqAt.bool_bool _ _|exact EqAt.bool_int _ _ _|exact EqAt.bool_str _ _ _|exact EqAt.int_none _ _|exact EqAt.int_bool _ _ _|exact EqAt.int_int _ _ _ _|exact EqAt.int_str _ _ _ _|exact EqAt.str_none _ _|exact EqAt.str_bool _ _ _|exact EqAt.str_int _ _ _ _|exact EqAt.str_str _ _ _ _))
 |succ n ih=>
  intro x y A s u w ox oy dx dy hu;have hu0:A.units<cLine:=by omega
  have item:∀ (xs ys:LR) (us ws:LVl),xs.all (okR n)=true->ys.all (okR n)=true->Dens s.heap xs us->Dens s.heap ys ws->
   ∀ j (j1:j<us.toArray.size) (j2:j<ws.toArray.size),EqAt A.in1 s us.toArray[j] ws.toArray[j] (qh9 xs ys j):=fun xs ys us ws o1 o2 d1 d2 j j1 j2=>by
   obtain⟨a1,b1⟩:=d1.get (j:=j) (u:=us.toArray[j]) (by simp)
   obtain⟨a2,b2⟩:=d2.get (j:=j) (u:=ws.toArray[j]) (by simp)
   exact ih _ _ A.in1 s _ _ (wap.mp o1 _ b1) (wap.mp o2 _ b2) a1 a2 (by rw[in1_units];omega)
  have same_EqAt_tup:∀ (xs ys:LR) (a a':Addr) (its its':LVl),s.heap.IsTuple a its.toArray->s.heap.IsTuple a' its'.toArray->Dens s.heap xs its->Dens s.heap ys its'->okR (n+1) (.tup xs)=true->okR (n+1) (.tup ys)=true->EqAt A s (.ref a) (.ref a') (eqR (RV.tup xs) (RV.tup ys)):=by
   intro xs ys a a' its its' p p' d d' ox oy
   by_cases ha:a=a'
   · subst ha
     obtain rfl:=qku p p';have e:RV.tup xs=RV.tup ys:=qiC (n+1) _ _ (.ref a) ox oy (by simp only[Den];exact⟨a,its,rfl,p,d⟩) (by simp only[Den];exact⟨a,its,rfl,p,d'⟩)
     rw[<-e,qd4 _ ⟨_,ox⟩];exact EqAt.same _
   refine EqAt.of_refs ha ?_;rw[eqR,<-qdm,d.length,d'.length];have:=RcAt.tuples p p' hu0 (item xs ys its its' ox oy d d');simpa using this
  have same_EqAt_ls:∀ (xs ys:LR) (a a':Addr) (its its':LVl),s.heap.IsList a its.toArray->s.heap.IsList a' its'.toArray->Dens s.heap xs its->Dens s.heap ys its'->okR (n+1) (.ls xs)=true->okR (n+1) (.ls ys)=true->EqAt A s (.ref a) (.ref a') (eqR (RV.ls xs) (RV.ls ys)):=by
   intro xs ys a a' its its' p p' d d' ox oy
   by_cases ha:a=a'
   · subst ha
     obtain rfl:=qlg p p';have e:RV.ls xs=RV.ls ys:=qiC (n+1) _ _ (.ref a) ox oy (by simp only[Den];exact⟨a,its,rfl,p,d⟩) (by simp only[Den];exact⟨a,its,rfl,p,d'⟩)
     rw[<-e,qd4 _ ⟨_,ox⟩];exact EqAt.same _
   refine EqAt.of_refs ha ?_;rw[eqR]
   by_cases hz:xs.length=ys.length
   · rw[<-qeI hz,d.length]
     have:=RcAt.lists p p' (by simp[<-d.length,<-d'.length,hz]) hu0 (item xs ys its its' ox oy d d')
     simpa using this
   · rw[qdl hz]
     exact RcAt.lists_lengths p p' (by simp[<-d.length,<-d'.length,hz]) hu0
  cases x<;>cases y<;>first|(simp only[Den]at dx;done)|(simp only[Den]at dy;done)|(simp only[Den]at dx dy;(first|subst dx|obtain⟨t1,rfl⟩:=dx|obtain⟨a1,its1,rfl,p1,d1⟩:=dx);(first|subst dy|obtain⟨t2,rfl⟩:=dy|obtain⟨a2,its2,rfl,p2,d2⟩:=dy);first|with_reducible exact same_EqAt_tup _ _ _ _ _ _ p1 p2 d1 d2 ox oy|with_reducible exact same_EqAt_ls _ _ _ _ _ _ p1 p2 d1 d2 ox oy|(simp only[eqR,Bool.not_false,Bool.not_true];with_reducible first|exact EqAt.same _|exact EqAt.none_bool _|exact EqAt.none_int _ _|exact EqAt.none_str _ _|exact EqAt.bool_none _|exact EqAt.bool_bool _ _|exact EqAt.bool_int _ _ _|exact EqAt.bool_str _ _ _|exact EqAt.int_none _ _|exact EqAt.int_bool _ _ _|exact EqAt.int_int _ _ _ _|exact EqAt.int_str _ _ _ _|exact EqAt.str_none _ _|exact EqAt.str_bool _ _ _|exact EqAt.str_int _ _ _ _|exact EqAt.str_str _ _ _ _|exact EqAt.tuple_none p1 hu0|exact EqAt.tuple_bool _ p1 hu0|exact EqAt.tuple_int _ _ p1 hu0|exact EqAt.tuple_str _ _ p1 hu0|exact EqAt.list_none p1 hu0|exact EqAt.list_bool _ p1 hu0|exact EqAt.list_int _ _ p1 hu0|exact EqAt.list_str _ _ p1 hu0|exact EqAt.none_tuple p2 hu0|exact EqAt.bool_tuple _ p2 hu0|exact EqAt.int_tuple _ _ p2 hu0|exact EqAt.str_tuple _ _ p2 hu0|exact EqAt.none_list p2 hu0|exact EqAt.bool_list _ p2 hu0|exact EqAt.int_list _ _ p2 hu0|exact EqAt.str_list _ _ p2 hu0|exact EqAt.tuple_list p1 p2 hu0|exact EqAt.list_tuple p1 p2 hu0))
theorem qjy(n:Nat)(x y:RV)(A:Around)(s:Shared)(u w:Value)(ox:okR (n+1) x=true)(oy:okR (n+1) y=true)(dx:Den s.heap x u)(dy:Den s.heap y w)(hu:A.units+(n+1)<cLine):RcNeAt A s u w (!eqR x y):=by
 have hu0:A.units<cLine:=by omega
 have item:∀ (xs ys:LR) (us ws:LVl),xs.all (okR n)=true->ys.all (okR n)=true->Dens s.heap xs us->Dens s.heap ys ws->
  ∀ j (j1:j<us.toArray.size) (j2:j<ws.toArray.size),EqAt A.in1 s us.toArray[j] ws.toArray[j] (qh9 xs ys j):=fun xs ys us ws o1 o2 d1 d2 j j1 j2=>by
  obtain⟨a1,b1⟩:=d1.get (j:=j) (u:=us.toArray[j]) (by simp)
  obtain⟨a2,b2⟩:=d2.get (j:=j) (u:=ws.toArray[j]) (by simp)
  exact qf9 n _ _ A.in1 s _ _ (wap.mp o1 _ b1) (wap.mp o2 _ b2) a1 a2 (by rw[in1_units];omega)
 have same_RcNeAt_tup:∀ (xs ys:LR) (a a':Addr) (its its':LVl),s.heap.IsTuple a its.toArray->s.heap.IsTuple a' its'.toArray->Dens s.heap xs its->Dens s.heap ys its'->okR (n+1) (.tup xs)=true->okR (n+1) (.tup ys)=true->RcNeAt A s (.ref a) (.ref a') (!eqR (RV.tup xs) (RV.tup ys)):=by
  intro xs ys a a' its its' p p' d d' ox oy;rw[eqR,<-qdm,d.length,d'.length];have:=RcNeAt.tuples p p' hu0 (item xs ys its its' ox oy d d');simpa using this
 have same_RcNeAt_ls:∀ (xs ys:LR) (a a':Addr) (its its':LVl),s.heap.IsList a its.toArray->s.heap.IsList a' its'.toArray->Dens s.heap xs its->Dens s.heap ys its'->okR (n+1) (.ls xs)=true->okR (n+1) (.ls ys)=true->RcNeAt A s (.ref a) (.ref a') (!eqR (RV.ls xs) (RV.ls ys)):=by
  intro xs ys a a' its its' p p' d d' ox oy;rw[eqR]
  by_cases hz:xs.length=ys.length
  · rw[<-qeI hz,d.length]
    have:=RcNeAt.lists p p' (by simp[<-d.length,<-d'.length,hz]) hu0 (item xs ys its its' ox oy d d')
    simpa using this
  · rw[qdl hz]
    exact RcNeAt.lists_lengths p p' (by simp[<-d.length,<-d'.length,hz]) hu0
 cases x<;>cases y<;>first|(simp only[Den]at dx;done)|(simp only[Den]at dy;done)|(simp only[Den]at dx dy;(first|subst dx|obtain⟨t1,rfl⟩:=dx|obtain⟨a1,its1,rfl,p1,d1⟩:=dx);(first|subst dy|obtain⟨t2,rfl⟩:=dy|obtain⟨a2,its2,rfl,p2,d2⟩:=dy);first|with_reducible exact same_RcNeAt_tup _ _ _ _ _ _ p1 p2 d1 d2 ox oy|with_reducible exact same_RcNeAt_ls _ _ _ _ _ _ p1 p2 d1 d2 ox oy|(simp only[eqR,Bool.not_false,Bool.not_true];with_reducible first|exact RcNeAt.none_none|exact RcNeAt.none_bool _|exact RcNeAt.none_int _ _|exact RcNeAt.none_str _ _|exact RcNeAt.bool_none _|exact RcNeAt.bool_bool _ _|exact RcNeAt.bool_int _ _ _|exact RcNeAt.bool_str _ _ _|exact RcNeAt.int_none _ _|exact RcNeAt.int_bool _ _ _|exact RcNeAt.int_int _ _ _ _|exact RcNeAt.int_str _ _ _ _|exact RcNeAt.str_none _ _|exact RcNeAt.str_bool _ _ _|exact RcNeAt.str_int _ _ _ _|exact RcNeAt.str_str _ _ _ _|exact RcNeAt.tuple_none p1 hu0|exact RcNeAt.tuple_bool _ p1 hu0|exact RcNeAt.tuple_int _ _ p1 hu0|exact RcNeAt.tuple_str _ _ p1 hu0|exact RcNeAt.list_none p1 hu0|exact RcNeAt.list_bool _ p1 hu0|exact RcNeAt.list_int _ _ p1 hu0|exact RcNeAt.list_str _ _ p1 hu0|exact RcNeAt.none_tuple p2 hu0|exact RcNeAt.bool_tuple _ p2 hu0|exact RcNeAt.int_tuple _ _ p2 hu0|exact RcNeAt.str_tuple _ _ p2 hu0|exact RcNeAt.none_list p2 hu0|exact RcNeAt.bool_list _ p2 hu0|exact RcNeAt.int_list _ _ p2 hu0|exact RcNeAt.str_list _ _ p2 hu0|exact RcNeAt.tuple_list p1 p2 hu0|exact RcNeAt.list_tuple p1 p2 hu0))
theorem qm2(n:Nat)(x y:RV)(A:Around)(s:Shared)(u w:Value)(ox:okR (n+1) x=true)(oy:okR (n+1) y=true)(dx:Den s.heap x u)(dy:Den s.heap y w)(hu:A.units+(n+1)<cLine):RcAt A s u w (eqR x y):=by
 have hu0:A.units<cLine:=by omega
 have item:∀ (xs ys:LR) (us ws:LVl),xs.all (okR n)=true->ys.all (okR n)=true->Dens s.heap xs us->Dens s.heap ys ws->
  ∀ j (j1:j<us.toArray.size) (j2:j<ws.toArray.size),EqAt A.in1 s us.toArray[j] ws.toArray[j] (qh9 xs ys j):=fun xs ys us ws o1 o2 d1 d2 j j1 j2=>by
  obtain⟨a1,b1⟩:=d1.get (j:=j) (u:=us.toArray[j]) (by simp)
  obtain⟨a2,b2⟩:=d2.get (j:=j) (u:=ws.toArray[j]) (by simp)
  exact qf9 n _ _ A.in1 s _ _ (wap.mp o1 _ b1) (wap.mp o2 _ b2) a1 a2 (by rw[in1_units];omega)
 have same_RcAt_tup:∀ (xs ys:LR) (a a':Addr) (its its':LVl),s.heap.IsTuple a its.toArray->s.heap.IsTuple a' its'.toArray->Dens s.heap xs its->Dens s.heap ys its'->okR (n+1) (.tup xs)=true->okR (n+1) (.tup ys)=true->RcAt A s (.ref a) (.ref a') (eqR (RV.tup xs) (RV.tup ys)):=by
  intro xs ys a a' its its' p p' d d' ox oy;rw[eqR,<-qdm,d.length,d'.length];have:=RcAt.tuples p p' hu0 (item xs ys its its' ox oy d d');simpa using this
 have same_RcAt_ls:∀ (xs ys:LR) (a a':Addr) (its its':LVl),s.heap.IsList a its.toArray->s.heap.IsList a' its'.toArray->Dens s.heap xs its->Dens s.heap ys its'->okR (n+1) (.ls xs)=true->okR (n+1) (.ls ys)=true->RcAt A s (.ref a) (.ref a') (eqR (RV.ls xs) (RV.ls ys)):=by
  intro xs ys a a' its its' p p' d d' ox oy;rw[eqR]
  by_cases hz:xs.length=ys.length
  · rw[<-qeI hz,d.length]
    have:=RcAt.lists p p' (by simp[<-d.length,<-d'.length,hz]) hu0 (item xs ys its its' ox oy d d')
    simpa using this
  · rw[qdl hz]
    exact RcAt.lists_lengths p p' (by simp[<-d.length,<-d'.length,hz]) hu0
 cases x<;>cases y<;>first|(simp only[Den]at dx;done)|(simp only[Den]at dy;done)|(simp only[Den]at dx dy;(first|subst dx|obtain⟨t1,rfl⟩:=dx|obtain⟨a1,its1,rfl,p1,d1⟩:=dx);(first|subst dy|obtain⟨t2,rfl⟩:=dy|obtain⟨a2,its2,rfl,p2,d2⟩:=dy);first|with_reducible exact same_RcAt_tup _ _ _ _ _ _ p1 p2 d1 d2 ox oy|with_reducible exact same_RcAt_ls _ _ _ _ _ _ p1 p2 d1 d2 ox oy|(simp only[eqR,Bool.not_false,Bool.not_true];with_reducible first|exact RcAt.none_none|exact RcAt.none_bool _|exact RcAt.none_int _ _|exact RcAt.none_str _ _|exact RcAt.bool_none _|exact RcAt.bool_bool _ _|exact RcAt.bool_int _ _ _|exact RcAt.bool_str _ _ _|exact RcAt.int_none _ _|exact RcAt.int_bool _ _ _|exact RcAt.int_int _ _ _ _|exact RcAt.int_str _ _ _ _|exact RcAt.str_none _ _|exact RcAt.str_bool _ _ _|exact RcAt.str_int _ _ _ _|exact RcAt.str_str _ _ _ _|exact RcAt.tuple_none p1 hu0|exact RcAt.tuple_bool _ p1 hu0|exact RcAt.tuple_int _ _ p1 hu0|exact RcAt.tuple_str _ _ p1 hu0|exact RcAt.list_none p1 hu0|exact RcAt.list_bool _ p1 hu0|exact RcAt.list_int _ _ p1 hu0|exact RcAt.list_str _ _ p1 hu0|exact RcAt.none_tuple p2 hu0|exact RcAt.bool_tuple _ p2 hu0|exact RcAt.int_tuple _ _ p2 hu0|exact RcAt.str_tuple _ _ p2 hu0|exact RcAt.none_list p2 hu0|exact RcAt.bool_list _ p2 hu0|exact RcAt.int_list _ _ p2 hu0|exact RcAt.str_list _ _ p2 hu0|exact RcAt.tuple_list p1 p2 hu0|exact RcAt.list_tuple p1 p2 hu0))
section
variable {X:Cx}
theorem qoq{f:Value->Value->Sem Value}{r:R2}{rr:RR2}(h:OpR X f r)(ri:∀ (i j:Int) M Q (H:Hp) (Q0:VK),rr (.int i) (.int j) M Q->(∀ z:RV,Q z M->∀ v,Rep X.K H z v->Q0 v H)->r (.int i) (.int j) H Q0)
 (no:∀ x y M Q,rr x y M Q->∃ i j,x= .int i/\y= .int j):ROp X f rr:=by
 intro pins s σ H x y v u Q0 I rx ry h';obtain⟨a,b,M,Q,ra,rb,hv,hq,hk⟩:=h';obtain⟨i,j,rfl,rfl⟩:=no a b M Q hq;simp only[Rep]at ra rb;subst ra;subst rb;exact h pins s σ H _ _ v u Q0 I rx ry (ri i j M Q H Q0 hq fun z q v' rz=>hk z M v' H q (.refl H) hv rz)
def qkU(C:Int->Int->Prop)(g:Int->Int->RV):RR2:=fun x y M Q=>match x,y with| .int i,.int j=>C i j/\Q (g i j) M|_,_=>False
def qh6(g:Int->Int->RV):RR2:=fun x y M Q=>match x,y with| .int i,.int j=>Q (g i j) M|_,_=>False
theorem qfM{C:Int->Int->Prop}{g:Int->Int->RV}(x y:RV)(M:RM)(Q:RVK)(h:qkU C g x y M Q):∃ i j,x= .int i/\y= .int j:=by
 unfold qkU at h;split at h
 · exact⟨_,_,rfl,rfl⟩
 · exact h.elim
theorem qcC{g:Int->Int->RV}(x y:RV)(M:RM)(Q:RVK)(h:qh6 g x y M Q):∃ i j,x= .int i/\y= .int j:=by
 unfold qh6 at h;split at h
 · exact⟨_,_,rfl,rfl⟩
 · exact h.elim
abbrev qAb:RR2:=qh6 fun i j=>.int (i-j)
theorem qDG:ROp X (binaryOp .Sub) qAb:=qoq qs0 (fun i j M Q H Q0 h k=>⟨i,j,rfl,rfl,k _ h _ (by simp only[Rep])⟩) qcC
abbrev qAl:RR2:=qkU (fun _ j=>0<j) fun i j=>.int (i % j)
theorem qDL:ROp X (binaryOp .Mod) qAl:=qoq qs4 (fun i j M Q H Q0 h k=>⟨i,j,rfl,rfl,h.1,k _ h.2 _ (by simp only[Rep])⟩) qfM
abbrev qAu:RR2:=qkU (fun _ j=>0<j/\j<1073741824) fun i j=>.int (i / j)
theorem qDO:ROp X (binaryOp .FloorDiv) qAu:=qoq qqg (fun i j M Q H Q0 h k=>⟨i,j,rfl,rfl,h.1,k _ h.2 _ (by simp only[Rep])⟩) qfM
abbrev qAe:RR2:=qkU (fun i j=>0<=j/\j<=1000000/\i.natAbs<2 ^ 64) fun i j=>.int (i ^ j.toNat)
theorem qDI:ROp X (binaryOp .Pow) qAe:=qoq qs2 (fun i j M Q H Q0 h k=>⟨i,j,rfl,rfl,h.1,k _ h.2 _ (by simp only[Rep])⟩) qfM
abbrev rLt:RR2:=qh6 fun i j=>.bl (decide (i<j))
theorem olt:ROp X (compareOp .Lt) rLt:=qoq qwM (fun i j M Q H Q0 h k=>⟨i,j,rfl,rfl,k _ h _ (by simp only[Rep])⟩) qcC
abbrev rLe:RR2:=qh6 fun i j=>.bl (decide (i<=j))
theorem ole:ROp X (compareOp .LtE) rLe:=qoq qwN (fun i j M Q H Q0 h k=>⟨i,j,rfl,rfl,k _ h _ (by simp only[Rep])⟩) qcC
abbrev rGt:RR2:=qh6 fun i j=>.bl (decide (j<i))
theorem ogt:ROp X (compareOp .Gt) rGt:=qoq qwO (fun i j M Q H Q0 h k=>⟨i,j,rfl,rfl,k _ h _ (by simp only[Rep])⟩) qcC
abbrev rGe:RR2:=qh6 fun i j=>.bl (decide (j<=i))
theorem oge:ROp X (compareOp .GtE) rGe:=qoq qwP (fun i j M Q H Q0 h k=>⟨i,j,rfl,rfl,k _ h _ (by simp only[Rep])⟩) qcC
noncomputable def qAk:RR2:=fun x y M Q=>match x,y with
 | .int i,.int j=>CMul i j/\Q (.int (i*j)) M
 | .ref a,.int k=>∃ xs,M a=some (.lst xs)/\-(2 ^ 63)<=k/\k<2 ^ 63/\xs.length*k.toNat<=sizeLine/\Q (.ls (List.replicate k.toNat xs).flatten) M
 |_,_=>False
theorem qgM{K:Frg}{H:Hp}{xs:LR}{vs:LV}(r:Reps K H xs vs):∀ n:Nat,Reps K H (List.replicate n xs).flatten (List.replicate n vs).flatten
 |0=>by simpa using Reps.nil
 |n+1=>by
  rw[waY,wbf,waY,wbf];exact r.append (qgM r n)
theorem qDK:ROp X (binaryOp .Mult) qAk:=by
 intro pins s σ H x y v u Q0 I rx ry h;obtain⟨a,b,M,Q,ra,rb,hv,hq,hk⟩:=h;cases a with
 |int i=>
  cases b with
  |int j=>simp only[Rep]at ra rb;exact qs3 pins s σ H x y v u Q0 I rx ry ⟨i,j,ra,rb,hq.1,hk _ M _ H hq.2 (.refl H) hv (by simp only[Rep])⟩
  |_=>exact(show False from hq).elim
 |ref p=>
  cases b with
  |int k=>
   simp only[Rep]at ra rb;obtain⟨xs,hm,h1,h2,h3,h4⟩:=hq;obtain⟨ho,e,r⟩:=hv p _ hm;obtain⟨vs,rfl,rr⟩:=r;refine thn (qs1 pins s σ H x y v u (fun v H'=>∃ H1 p xs,v= .ref p/\H1 p=none/\H'=upd H1 p (.lst xs)/\∀ o,Q0 (.ref p) (upd H1 p (.frz o (.lst xs)))) I rx ry ⟨p,k,vs,ra,rb,e,h1,h2,by rw[<-rr.length];exact h3,fun q hq=>⟨H,q,_,rfl,hq,rfl,fun o=>?_⟩⟩) fun _ _ e=>frozen e
   exact hk _ M _ _ h4 (Ext.new hq) (hv.new hq) (qbZ hq (qgM rr _))
  |_=>exact(show False from hq).elim
 |_=>cases b<;>exact(show False from hq).elim
noncomputable def qu2:RR2:=fun x y M Q=>match x,y with
 | .int i,.int j=>Q (.int (i+j)) M
 | .str i,.str j=>i.length+j.length<=sizeLine/\Q (.str (i++j)) M
 | .tup xs,.tup ys=>xs.length+ys.length<=sizeLine/\Q (.tup (xs++ys)) M
 | .ls xs,.ls ys=>xs.length+ys.length<=sizeLine/\Q (.ls (xs++ys)) M
 |_,_=>False
theorem qn6{prog:Program}{w:World}{A:Around}{E:VSP}{s:Shared}{t b:Addr}{ws:LVl}{Q:VSP}(ht:IsTup s.heap t ([]:LVl).toArray)(hb:IsTup s.heap b ws.toArray)(h:Q (.ref b) s):
 wpAny (model prog w) A (binaryOp .Add (.ref t) (.ref b)) Q E s:=by
 obtain⟨⟨cls,dd,data,sl⟩,ho,hc,n,hd⟩:=id ht;obtain⟨⟨cls2,dd2,data2,sl2⟩,ho2,hc2,n2,hd2⟩:=id hb;simp only at hc hd hc2 hd2;subst hc hd hc2 hd2;exact concat_meets ⟨_,ho,rfl⟩ ⟨_,ho2,rfl⟩ noFill_tuple_add seq_tuple_add PySem.F.slot_tuple_add PySem.F.entry_tuple_add (PySem.F.args_tuple_add_2 _ _)
  (tuple_addW0 t b [].toArray ws.toArray n n2 dd dd2 sl sl2 (by simp)) ⟨ho,ho2,h⟩
theorem qrb{prog:Program}{w:World}{A:Around}{E:VSP}{s:Shared}{l b:Addr}{vs ws:LVl}{Q:VSP}(hl:s.heap.IsList l vs.toArray)(hb:s.heap.IsList b ws.toArray)
 (h:Q (.ref s.heap.objs.size) { s with heap:=s.heap.push { cls:=.type "list",data:=.seq (vs++ws).toArray } }) (hsz:vs.length+ws.length<=sizeLine):
 wpAny (model prog w) A (binaryOp .Add (.ref l) (.ref b)) Q E s:=by
 obtain⟨⟨cls,dd,data,sl⟩,ho,hc,n,hd⟩:=id hl;obtain⟨⟨cls2,dd2,data2,sl2⟩,ho2,hc2,n2,hd2⟩:=id hb;simp only at hc hd hc2 hd2;subst hc hd hc2 hd2;have e:vs.toArray++ws.toArray=(vs++ws).toArray:=by simp
 refine concat_meets ⟨_,ho,rfl⟩ ⟨_,ho2,rfl⟩ noFill_list_add seq_list_add PySem.F.slot_list_add PySem.F.entry_list_add (PySem.F.args_list_add_2 _ _) (list_addW l b vs.toArray ws.toArray n n2 dd dd2 sl sl2 (by simpa using hsz)) ⟨ho,ho2,?_⟩
 rw[e];exact h
theorem qDP:ROp X (binaryOp .Add) qu2:=by
 intro pins s σ H x y v u Q0 I rx ry h;obtain⟨a,b,M,Q,ra,rb,hv,hq,hk⟩:=h;cases a with
 |int i=>
  cases b with
  |int j=>simp only[Rep]at ra rb;exact qs6 pins s σ H x y v u Q0 I rx ry ⟨i,j,ra,rb,hk _ M _ H hq (.refl H) hv (by simp only[Rep])⟩
  |_=>exact(show False from hq).elim
 |str i=>
  cases b with
  |str j=>simp only[Rep]at ra rb;exact qjF pins s σ H x y v u Q0 I rx ry ⟨i,j,ra,rb,hq.1,hk _ M _ H hq.2 (.refl H) hv (by simp only[Rep])⟩
  |_=>exact(show False from hq).elim
 |tup xs=>
  cases b with
  |tup ys=>
   obtain⟨hz,hq⟩:=hq;simp only[Rep]at ra rb;obtain⟨p,vs,rfl,hp,hr⟩:=ra;obtain⟨q,ws,rfl,hp2,hr2⟩:=rb
   by_cases hn:vs= []
   · subst hn
     have hx:xs= []:=by have:=hr.length;simpa using this
     subst hx;cases rx;cases ry;obtain⟨its,r1,p1,_⟩:=I.tuple (SqT.of hp);obtain⟨its2,r2,p2,_⟩:=I.tuple (SqT.of hp2);cases r1;exact qn6 p1 p2 ⟨.ref q,H,I,rfl,hk _ M _ H hq (.refl H) hv (by simp only[Rep,List.nil_append];exact⟨q,ws,rfl,hp2,hr2⟩)⟩
   · refine qqh pins s σ H _ _ v u Q0 I rx ry ⟨p,q,vs,ws,rfl,rfl,hp,hp2,hn,by rw[<-hr.length,<-hr2.length];exact hz,fun e=>?_,fun e l hl=>?_⟩
     · subst e
       have hy:ys= []:=by have:=hr2.length;simpa using this
       subst hy;exact hk _ M _ H hq (.refl H) hv (by simp only[Rep,wbn];exact⟨p,vs,rfl,hp,hr⟩)
     · exact hk _ M _ _ hq (Ext.new hl) (hv.new hl) (qdb hl (hr.append hr2))
  |_=>exact(show False from hq).elim
 |ls xs=>
  cases b with
  |ls ys=>
   obtain⟨hz,hq⟩:=hq;simp only[Rep]at ra rb;obtain⟨p,vs,rfl,hp,hr⟩:=ra;obtain⟨q,ws,rfl,hp2,hr2⟩:=rb;cases rx;cases ry;obtain⟨its,r1,p1,z1⟩:=I.list hp.sq;obtain⟨its2,r2,p2,z2⟩:=I.list hp2.sq;have hz':vs.length+ws.length<=sizeLine:=by rw[<-hr.length,<-hr2.length];exact hz
   refine thn (qrb (Q:=EP X pins σ (fun v H'=>∃ H1 p xs,v= .ref p/\H1 p=none/\H'=upd H1 p (.lst xs)/\∀ o,Q0 (.ref p) (upd H1 p (.frz o (.lst xs))))) p1.isList p2.isList ?_ (by rw[<-r1.length,<-r2.length];exact hz')) fun _ _ e=>frozen e
   have hf:=I.hok.fresh (waf s.heap.objs.size);refine⟨.ref s.heap.objs.size,upd H s.heap.objs.size (.lst (vs++ws)),I.laid (t':=s.toks) (fun b ob q=>wab _ q) (waf _) ?_,rfl,H,_,_,rfl,hf,rfl,fun o=>?_⟩
   · exact⟨by rw[waC];exact hz',_,0,r1.append r2,wah _ rfl⟩
   · exact hk _ M _ _ hq (Ext.new hf) (hv.new hf) (qbZ hf (hr.append hr2))
  |_=>exact(show False from hq).elim
 |_=>cases b<;>exact(show False from hq).elim
def isN:RV->Bool
 | .non=>true
 |_=>false
theorem qlB{K:Frg}{H:Hp}:∀ {a:RV} {x:V},Rep K H a x->decide (x= .non)=isN a:=by
 intro a x h;cases a with
 |tup xs=>simp only[Rep]at h;obtain⟨p,vs,rfl,_⟩:=h;simp[isN]
 |ls xs=>simp only[Rep]at h;obtain⟨p,vs,rfl,_⟩:=h;simp[isN]
 |_=>simp only[Rep]at h;subst h;simp[isN]
def rIs:RR2:=fun x y M Q=>match y with| .non=>Q (.bl (isN x)) M|_=>False
def qox:RR2:=fun x y M Q=>match y with| .non=>Q (.bl (!isN x)) M|_=>False
theorem ois:ROp X (compareOp .Is) rIs:=by
 intro pins s σ H x y v u Q0 I rx ry h;obtain⟨a,b,M,Q,ra,rb,hv,hq,hk⟩:=h;cases b with
 |non=>simp only[Rep]at rb;exact qs5 pins s σ H x y v u Q0 I rx ry ⟨rb,by rw[qlB ra];exact hk _ M _ H hq (.refl H) hv (by simp only[Rep])⟩
 |_=>exact(show False from hq).elim
theorem qtb:ROp X (compareOp .IsNot) qox:=by
 intro pins s σ H x y v u Q0 I rx ry h;obtain⟨a,b,M,Q,ra,rb,hv,hq,hk⟩:=h;cases b with
 |non=>simp only[Rep]at rb;exact qqf pins s σ H x y v u Q0 I rx ry ⟨rb,by rw[qlB ra];exact hk _ M _ H hq (.refl H) hv (by simp only[Rep])⟩
 |_=>exact(show False from hq).elim
noncomputable def rIx:RR2:=fun x y M Q=>match x,y with
 | .tup xs,.int i=>match atI xs i with|some v=>Q v M|none=>False
 | .ls xs,.int i=>match atI xs i with|some v=>Q v M|none=>False
 | .ref a,.int i=>match M a with
  |some (.lst xs)=>match atI xs i with|some v=>Q v M|none=>False
  |_=>False
 | .str z,.int i=>z.length<=sizeLine/\match atI z.cps.toList i with|some c=>Q (.str ⟨#[c]⟩) M|none=>False
 |_,_=>False
theorem oix:IxR X (upO X.K rIx):=by
 intro value slice pins s σ H x y v u Q0 I rx ry h hs;obtain⟨a,b,M,Q,ra,rb,hv,hq,hk⟩:=h;cases b with
 |int i=>
  simp only[Rep]at rb;cases a with
  |tup xs=>
   simp only[Rep]at ra;obtain⟨p,vs,rfl,hp,hr⟩:=ra;simp only[rIx]at hq;cases e:atI xs i with
   |none=>rw[e]at hq;exact hq.elim
   |some z=>
    rw[e]at hq;obtain⟨w,e1,r1⟩:=hr.atI e;exact qtF value slice pins s σ H _ y v u Q0 I rx ry ⟨p,vs,i,w,rfl,rb,hp,e1,hk _ M _ H hq (.refl H) hv r1⟩ hs
  |ls xs=>
   simp only[Rep]at ra;obtain⟨p,vs,rfl,hp,hr⟩:=ra;simp only[rIx]at hq;cases e:atI xs i with
   |none=>rw[e]at hq;exact hq.elim
   |some z=>
    rw[e]at hq;obtain⟨w,e1,r1⟩:=hr.atI e;exact qlx value slice pins s σ H _ y v u Q0 I rx ry ⟨p,vs,i,w,rfl,rb,hp.sq,e1,hk _ M _ H hq (.refl H) hv r1⟩ hs
  |ref p=>
   simp only[Rep]at ra;simp only[rIx]at hq;split at hq
   · rename_i xs em
     obtain⟨ho,e,r⟩:=hv p _ em;obtain⟨vs,rfl,hr⟩:=r;cases e2:atI xs i with
     |none=>rw[e2]at hq;exact hq.elim
     |some z=>
      rw[e2]at hq;obtain⟨w,e1,r1⟩:=hr.atI e2;exact qlx value slice pins s σ H x y v u Q0 I rx ry ⟨p,vs,i,w,ra,rb,SqL.of e,e1,hk _ M _ H hq (.refl H) hv r1⟩ hs
   · exact hq.elim
  |str z=>
   simp only[Rep]at ra;simp only[rIx]at hq;obtain⟨hz,hq⟩:=hq;cases e:atI z.cps.toList i with
   |none=>rw[e]at hq;exact hq.elim
   |some c=>
    rw[e]at hq;exact qtG value slice pins s σ H x y v u Q0 I rx ry ⟨z,i,c,ra,rb,hz,e,hk _ M _ H hq (.refl H) hv (by simp only[Rep])⟩ hs
  |_=>exact(show False from hq).elim
 |_=>cases a<;>exact(show False from hq).elim
theorem rix{a b:Expr}{ta tb:RTE}{pos:Pos}(ha:RPE X a ta)(hb:RPE X b tb)(hs:qmH b:=by intro _ _;rfl):RPE X (.Subscript a b pos) (rOp rIx ta tb):=PE.imp (qwI oix ha hb hs) fun _ _ _ h=>qfH h
noncomputable def qh5:qog:=fun o i v M Q=>match o,i with
 | .ref p,.int k=>match M p with
  |some (.lst xs)=>match ixN xs.length k with|some j=>Q (put M p (.lst (xs.set j v)))|none=>False
  |_=>False
 |_,_=>False
theorem qwL:qvg X (qrF X.K qh5):=by
 intro pins s σ H o i v ov iv u Q0 I ro ri rv h;obtain⟨a,b,c,M,Q,ra,rb,rc,hv,hq,hk⟩:=h;cases a with
 |ref p=>
  cases b with
  |int k=>
   simp only[Rep]at ra rb;simp only[qh5]at hq;split at hq
   · rename_i xs em
     obtain⟨ho,e,r⟩:=hv p _ em;obtain⟨vs,rfl,hr⟩:=r;cases e2:ixN xs.length k with
     |none=>rw[e2]at hq;exact hq.elim
     |some j=>
      rw[e2]at hq;have ex:Ext H (upd H p (.lst (vs.set j v))):=Ext.write e rfl;exact set_list pins s σ H o i v ov iv u Q0 I ro ri rv ⟨p,vs,k,j,ra,rb,e,by rw[<-hr.length];exact e2,hk _ _ hq ex (hv.write em ⟨_,rfl,Reps.ext ex _ _ (hr.set rc j)⟩)⟩
   · exact hq.elim
  |_=>exact(show False from hq).elim
 |_=>cases b<;>exact(show False from hq).elim
def upC(K:Frg)(r:LR->RM->RVK->Prop):LV->Hp->VK->Prop:=fun vs H Q0=>∃ rs M Q,Reps K H rs vs/\View K H M/\r rs M Q/\UpK K H Q Q0
def qeZ(r:LR->RM->RVK->Prop)(t:RTA):RTE:=fun σ M Q=>t σ M fun rs M1=>r rs M1 Q
theorem qgQ{K:Frg}{r:LR->RM->RVK->Prop}{t:RTA}{σ0:L2.St}{H:Hp}{Q0:VK}(h:up K (qeZ r t) σ0 H Q0):tCB (upC K r) (upA K t) σ0 H Q0:=by
 obtain⟨σ,M,Q,hs,hv,ht,hk⟩:=h;exact⟨σ,M,_,hs,hv,ht,fun rs M1 vs H1 q e1 v1 r1=>⟨rs,M1,Q,r1,v1,q,hk.ext e1⟩⟩
variable {x:Str}{p pos:Pos}{e:Expr}{es:LEx}{t:RTA}{id T:String}{r:LR->RM->RVK->Prop}
theorem qej(hc:qaQ X (.builtin id) (upC X.K r))(hm:X.mg x=none)(hv:bootBuiltins x=some (.builtin id))(ha:RPA X (e::es) t)(hg:Gl X x:=by rfl)(hn:x≠"__name__":=by decide)(hdb:(x==("__debug__":Str))=false:=by decide)
 (he:starEach (e::es) X.env=(false,eval e X.env)::starEach es X.env:=by rfl) (hpl:(backTo pos (starEach es X.env)).any (·.1)=false:=by rfl):RPE X (.Call (.Name x p) (e::es) [] pos) (qeZ r t):=
 PE.imp (qnr hc hg hm hv ha hn hdb he hpl) fun _ _ _ h=>qgQ h
theorem qkG(hc:qaQ X (.type T) (upC X.K r))(hm:X.mg x=none)(hv:bootBuiltins x=some (.type T))(ha:RPA X (e::es) t)(hg:Gl X x:=by rfl)(hn:x≠"__name__":=by decide)(hdb:(x==("__debug__":Str))=false:=by decide)
 (he:starEach (e::es) X.env=(false,eval e X.env)::starEach es X.env:=by rfl) (hpl:(backTo pos (starEach es X.env)).any (·.1)=false:=by rfl):RPE X (.Call (.Name x p) (e::es) [] pos) (qeZ r t):=
 PE.imp (qk2 hc hg hm hv ha hn hdb he hpl) fun _ _ _ h=>qgQ h
theorem Reps.one{K:Frg}{H:Hp}{x:RV}{vs:LV}(h:Reps K H [x] vs):∃ v,vs= [v]/\Rep K H x v:=by
 simp only[Reps]at h;obtain⟨v,r,rfl,h1,rfl⟩:=h;exact⟨v,rfl,h1⟩
theorem Reps.two{K:Frg}{H:Hp}{x y:RV}{vs:LV}(h:Reps K H [x,y] vs):∃ v w,vs= [v,w]/\Rep K H x v/\Rep K H y w:=by
 simp only[Reps]at h;obtain⟨v,r,rfl,h1,w,r',rfl,h2,rfl⟩:=h;exact⟨v,w,rfl,h1,h2⟩
noncomputable def quW:LR->RM->RVK->Prop:=fun rs M Q=>match rs with
 | [.tup xs]=>Q (.int xs.length) M
 | [.ls xs]=>Q (.int xs.length) M
 | [.str z]=>z.length<=sizeLine/\Q (.int z.length) M
 | [.ref a]=>match M a with|some (.lst xs)=>Q (.int xs.length) M|_=>False
 |_=>False
theorem qAN:qaQ X (.builtin "len") (upC X.K quW):=by
 intro pins s σ H xs us Q0 I rl h;obtain⟨rs,M,Q,rr,hv,hq,hk⟩:=h;unfold quW at hq;split at hq
 · rename_i ys
   obtain⟨v,rfl,r1⟩:=rr.one;simp only[Rep]at r1;obtain⟨q,vs,rfl,hp,hr⟩:=r1;exact qce pins s σ H _ us Q0 I rl ⟨q,vs,rfl,.inr hp,by rw[<-hr.length];exact hk _ M _ H hq (.refl H) hv (by simp only[Rep])⟩
 · rename_i ys
   obtain⟨v,rfl,r1⟩:=rr.one;simp only[Rep]at r1;obtain⟨q,vs,rfl,hp,hr⟩:=r1;exact qce pins s σ H _ us Q0 I rl ⟨q,vs,rfl,.inl hp.sq,by rw[<-hr.length];exact hk _ M _ H hq (.refl H) hv (by simp only[Rep])⟩
 · rename_i z
   obtain⟨v,rfl,r1⟩:=rr.one;simp only[Rep]at r1;subst r1;exact qhz pins s σ H _ us Q0 I rl ⟨z,rfl,hq.1,hk _ M _ H hq.2 (.refl H) hv (by simp only[Rep])⟩
 · rename_i a
   obtain⟨v,rfl,r1⟩:=rr.one;simp only[Rep]at r1;subst r1;split at hq
   · rename_i ys em
     obtain⟨ho,e,r⟩:=hv a _ em;obtain⟨vs,rfl,hr⟩:=r;exact qce pins s σ H _ us Q0 I rl ⟨a,vs,rfl,.inl (SqL.of e),by rw[<-hr.length];exact hk _ M _ H hq (.refl H) hv (by simp only[Rep])⟩
   · exact hq.elim
 · exact hq.elim
noncomputable def qkQ:LR->RM->RVK->Prop:=fun rs M Q=>match rs with
 | [.tup xs]=>Q (.tup xs) M
 | [.ls xs]=>Q (.tup xs) M
 | [.ref a]=>match M a with|some (.lst xs)=>Q (.tup xs) M|_=>False
 |_=>False
theorem quh:qaQ X (.type "tuple") (upC X.K qkQ):=by
 intro pins s σ H xs us Q0 I rl h;obtain⟨rs,M,Q,rr,hv,hq,hk⟩:=h;unfold qkQ at hq;split at hq
 · rename_i ys
   obtain⟨v,rfl,r1⟩:=rr.one;simp only[Rep]at r1;obtain⟨q,vs,rfl,hp,hr⟩:=r1;exact qbV pins s σ H _ us Q0 I rl ⟨q,vs,rfl,.inr ⟨hp,hk _ M _ H hq (.refl H) hv (by simp only[Rep];exact⟨q,vs,rfl,hp,hr⟩)⟩⟩
 · rename_i ys
   obtain⟨v,rfl,r1⟩:=rr.one;simp only[Rep]at r1;obtain⟨q,vs,rfl,hp,hr⟩:=r1;exact qbV pins s σ H _ us Q0 I rl ⟨q,vs,rfl,.inl ⟨hp.sq,fun l hl=>hk _ M _ _ hq (Ext.new hl) (hv.new hl) (qdb hl hr)⟩⟩
 · rename_i a
   obtain⟨v,rfl,r1⟩:=rr.one;simp only[Rep]at r1;subst r1;split at hq
   · rename_i ys em
     obtain⟨ho,e,r⟩:=hv a _ em;obtain⟨vs,rfl,hr⟩:=r;exact qbV pins s σ H _ us Q0 I rl ⟨a,vs,rfl,.inl ⟨SqL.of e,fun l hl=>hk _ M _ _ hq (Ext.new hl) (hv.new hl) (qdb hl hr)⟩⟩
   · exact hq.elim
 · exact hq.elim
end
open HT
section
variable {prog:Program}{w:World}{A:Around}{E:VSP}{s:Shared}
theorem qcx{t sl:Addr}{items:Array Value}{vl vu:Value}{lo hi:Option Int}{Q:VSP}(ht:IsTup s.heap t items)(hs:s.heap.IsSliceOf sl vl vu .none)(pl:IsPart vl lo)(pu:IsPart vu hi)
 (h0:sIx items.size 0 lo=0) (h1:sIx items.size items.size hi=items.size)
 (h:Q (.ref t) s):wpAny (model prog w) A (getItem (.ref t) (.ref sl)) Q E s:=by
 obtain⟨os,hos,hcs,hds⟩:=id hs;have hTs:s.TypeIs (.ref sl) "slice":=⟨os,hos,hcs⟩;unfold getItem
 try with_reducible refine wa0 ?_
 first|refine waa (wae ?_)|skip
 refine waa (wpAny_sequenceKey ht.typeIs (by decide) ?_)
 refine waa (wpAny_callSpecial?_slot (name:=Str.ofString "__getitem__") ht.typeIs waX
  (waO waX ht.typeIs entry_tuple_getitem ?_ (args_tuple_getitem _ _)))
 show wpAny _ _ (Builtin.Tuple.tupleItemsOf (.ref t) >>= _) _ _ s;refine waa (tupleItemsOf_ ht ?_);refine waa (wpAny_typeOf hTs ?_);rw[wag (by decide)]
 refine waa (qbX hs pl pu ?_);have hyes:(((sIx items.size 0 lo:Nat):Int)==0&&(1:Int)==1&&(sIx items.size items.size hi-sIx items.size 0 lo)==items.size)=true:=by
  rw[h0,h1];simp
 show wpAny _ _ (if(((sIx items.size 0 lo:Nat):Int)==0&&(1:Int)==1&&(sIx items.size items.size hi-sIx items.size 0 lo)==items.size)=true then _ else _) _ _ s
 rw[wag hyes];show wpAny _ _ (Builtin.Tuple.tupleIsExact (.ref t) >>= _) _ _ s;unfold Builtin.Tuple.tupleIsExact;refine waa (waa (wpAny_typeOf ht.typeIs (wae ?_)));rw[wag (by decide)]
 refine waa (wpAny_rule ?_);refine waa (wae ?_);exact wae ⟨_,rfl,wae h⟩
end
section
variable {X:Cx}
abbrev RTO:=RSt->RM->(Option Int->RM->Prop)->Prop
def upP(K:Frg)(t:RTO):TO:=fun σ0 H Q0=>∃ σ M Q,RepSt K H σ σ0/\View K H M/\t σ M Q/\∀ o M' H',Q o M'->Ext H H'->View K H' M'->Q0 o H'
def RPO(X:Cx)(e:Option Expr)(t:RTO):Prop:=PO X e (upP X.K t)
def qAi:RTO:=fun _ M Q=>Q none M
def qss(t:RTE):RTO:=fun σ M Q=>t σ M fun x M1=>match x with| .int i=>Q (some i) M1|_=>False
theorem PO.imp{e:Option Expr}{t t':TO}(h:PO X e t)(i:∀ σ H Q,t' σ H Q->t σ H Q):PO X e t':=fun pins s σ H Q I w=>h pins s σ H Q I (i σ H Q w)
theorem qwE:RPO X none qAi:=PO.imp qp2 fun σ0 H Q0 h=>by
 obtain⟨σ,M,Q,hs,hv,ht,hk⟩:=h;exact hk none M H ht (.refl H) hv
theorem qwA{e:Expr}{te:RTE}(h:RPE X e te):RPO X (some e) (qss te):=PO.imp (qp1 h) fun σ0 H Q0 h=>by
 obtain⟨σ,M,Q,hs,hv,ht,hk⟩:=h;refine⟨σ,M,_,hs,hv,ht,fun rx M1 x H1 q e1 v1 r1=>?_⟩
 cases rx with
 |int i=>simp only[Rep]at r1;exact⟨i,r1,hk _ M1 H1 q e1 v1⟩
 |_=>exact(show False from q).elim
def qiF(xs:LR)(lo hi:Option Int):LR:=(xs.drop (sIx xs.length 0 lo)).take (sIx xs.length xs.length hi-sIx xs.length 0 lo)
theorem qiV{K:Frg}{H:Hp}{xs:LR}{vs:LV}(r:Reps K H xs vs)(lo hi:Option Int):Reps K H (qiF xs lo hi) (qo8 vs lo hi):=by
 unfold qiF qo8;rw[r.length];exact(r.drop _).take _
noncomputable def qov:RV->Option Int->Option Int->RM->RVK->Prop:=fun x lo hi M Q=>match x with
 | .tup xs=>Q (.tup (qiF xs lo hi)) M
 | .ls xs=>Q (.ls (qiF xs lo hi)) M
 | .ref a=>match M a with|some (.lst xs)=>Q (.ls (qiF xs lo hi)) M|_=>False
 |_=>False
noncomputable def upL (K:Frg)(r:RV->Option Int->Option Int->RM->RVK->Prop):V->Option Int->Option Int->Hp->VK->Prop:=fun x lo hi H Q0=>∃ rx M Q,Rep K H rx x/\View K H M/\r rx lo hi M Q/\UpK K H Q Q0
theorem qDH:SlR X (upL X.K qov):=by
 intro pins s σ H x v vl vu lo hi sl Q0 I rx hs pl pu h;obtain⟨a,M,Q,ra,hv,hq,hk⟩:=h;have lstcase:∀ (p:Addr) (xs:LR) (vs:LV),x= .ref p->SqL X.K H p vs->Reps X.K H xs vs->Q (.ls (qiF xs lo hi)) M->
  ∃ T id,typeLookup (.type T) "__getitem__" =pure (some (.builtin id))/\s.TypeIs v T/\wpAny (model X.prog X.w) X.A (getItem v (.ref sl)) (EP X pins σ Q0) X.xe s:=by
  intro p xs vs ex hp hr hq;obtain⟨T,id,h1,h2,h3⟩:=qpw pins s σ H x v vl vu lo hi sl (fun v H'=>∃ H1 p xs,v= .ref p/\H1 p=none/\H'=upd H1 p (.lst xs)/\∀ o,Q0 (.ref p) (upd H1 p (.frz o (.lst xs)))) I rx hs pl pu
   ⟨p,vs,ex,hp,fun q hq'=>⟨H,q,_,rfl,hq',rfl,fun o=>hk _ M _ _ hq (Ext.new hq') (hv.new hq') (qbZ hq' (qiV hr lo hi))⟩⟩
  exact⟨T,id,h1,h2,thn h3 fun _ _ e=>frozen e⟩
 cases a with
 |tup xs=>
  simp only[qov]at hq;simp only[Rep]at ra;obtain⟨p,vs,rfl,hp,hr⟩:=ra
  by_cases hw:sIx vs.length 0 lo=0/\sIx vs.length vs.length hi=vs.length
  · cases rx
    obtain⟨its,r,ht,hz⟩:=I.tuple (SqT.of hp);have hlen:its.toArray.size=vs.length:=by rw[wak];exact r.length.symm
    refine⟨"tuple",_,PyProof.Rows.slot_tuple_getitem.lookup,ht.typeIs,?_⟩;refine qcx ht hs pl pu (by rw[hlen];exact hw.1) (by rw[hlen];exact hw.2) ⟨.ref p,H,I,rfl,?_⟩
    have e:qiF xs lo hi=xs:=by
     unfold qiF;rw[hr.length,hw.1,hw.2,List.drop_zero,Nat.sub_zero,<-hr.length,List.take_length]
    rw[e]at hq;exact hk _ M _ H hq (.refl H) hv (by simp only[Rep];exact⟨p,vs,rfl,hp,hr⟩)
  · exact qr2 pins s σ H _ v vl vu lo hi sl Q0 I rx hs pl pu ⟨p,vs,rfl,hp,hw,fun q hq'=>hk _ M _ _ hq (Ext.new hq') (hv.new hq') (qdb hq' (qiV hr lo hi))⟩
 |ls xs=>
  simp only[qov]at hq;simp only[Rep]at ra;obtain⟨p,vs,rfl,hp,hr⟩:=ra;exact lstcase p xs vs rfl hp.sq hr hq
 |ref p=>
  simp only[qov]at hq;simp only[Rep]at ra;split at hq
  · rename_i xs em
    obtain⟨ho,e,r⟩:=hv p _ em;obtain⟨vs,rfl,hr⟩:=r;exact lstcase p xs vs ra (SqL.of e) hr hq
  · exact hq.elim
 |_=>exact(show False from hq).elim
def rSl(te:RTE)(tl th:RTO):RTE:=fun σ M Q=>te σ M fun x M1=>tl σ M1 fun l M2=>th σ M2 fun u M3=>qov x l u M3 Q
theorem rsl{e:Expr}{te:RTE}{lo hi:Option Expr}{tl th:RTO}{pos p2:Pos}(he:RPE X e te)(hl:RPO X lo tl)(hu:RPO X hi th):RPE X (.Subscript e (.Slice lo hi none p2) pos) (rSl te tl th):=PE.imp (qni qDH he hl hu) fun σ0 H Q0 h=>by
 obtain⟨σ,M,Q,hs,hv,ht,hk⟩:=h;refine⟨σ,M,_,hs,hv,ht,fun rx M1 x H1 q e1 v1 r1=>?_⟩
 refine⟨σ,M1,_,hs.ext e1,v1,q,fun l M2 H2 q2 e2 v2=>?_⟩
 refine⟨σ,M2,_,hs.ext (e1.trans e2),v2,q2,fun u M3 H3 q3 e3 v3=>?_⟩
 exact⟨rx,M3,Q,Rep.ext (e2.trans e3) rx x r1,v3,q3,hk.ext ((e1.trans e2).trans e3)⟩
theorem qiq(K:Frg):PySem.W.kitOne K (.type "NoneType") (.type "int")=some false:=by kernel_rfl
theorem qjR(K:Frg):PySem.W.kitOne K (.type "bool") (.type "int")=some true:=by kernel_rfl
theorem qit(K:Frg):PySem.W.kitOne K (.type "int") (.type "int")=some true:=by kernel_rfl
theorem qio(K:Frg):PySem.W.kitOne K (.type "str") (.type "int")=some false:=by kernel_rfl
theorem qim(K:Frg):PySem.W.kitOne K (.type "tuple") (.type "int")=some false:=by kernel_rfl
theorem qjP(K:Frg):PySem.W.kitOne K (.type "list") (.type "int")=some false:=by kernel_rfl
noncomputable def qoU:RV->Option Bool
 | .non=>some false
 | .bl _=>some true
 | .int _=>some true
 | .str _=>some false
 | .tup _=>some false
 | .ls _=>some false
 |_=>none
theorem qhb(K:Frg):PySem.W.kitOne K (.type "NoneType") (.type "bool")=some false:=by kernel_rfl
theorem qiv(K:Frg):PySem.W.kitOne K (.type "bool") (.type "bool")=some true:=by kernel_rfl
theorem qhe(K:Frg):PySem.W.kitOne K (.type "int") (.type "bool")=some false:=by kernel_rfl
theorem qg9(K:Frg):PySem.W.kitOne K (.type "str") (.type "bool")=some false:=by kernel_rfl
theorem qg7(K:Frg):PySem.W.kitOne K (.type "tuple") (.type "bool")=some false:=by kernel_rfl
theorem qir(K:Frg):PySem.W.kitOne K (.type "list") (.type "bool")=some false:=by kernel_rfl
noncomputable def is_bool:RV->Option Bool
 | .non=>some false
 | .bl _=>some true
 | .int _=>some false
 | .str _=>some false
 | .tup _=>some false
 | .ls _=>some false
 |_=>none
theorem qip(K:Frg):PySem.W.kitOne K (.type "NoneType") (.type "str")=some false:=by kernel_rfl
theorem qjQ(K:Frg):PySem.W.kitOne K (.type "bool") (.type "str")=some false:=by kernel_rfl
theorem qis(K:Frg):PySem.W.kitOne K (.type "int") (.type "str")=some false:=by kernel_rfl
theorem qin(K:Frg):PySem.W.kitOne K (.type "str") (.type "str")=some true:=by kernel_rfl
theorem qil(K:Frg):PySem.W.kitOne K (.type "tuple") (.type "str")=some false:=by kernel_rfl
theorem qjO(K:Frg):PySem.W.kitOne K (.type "list") (.type "str")=some false:=by kernel_rfl
noncomputable def qoT:RV->Option Bool
 | .non=>some false
 | .bl _=>some false
 | .int _=>some false
 | .str _=>some true
 | .tup _=>some false
 | .ls _=>some false
 |_=>none
theorem qfZ(K:Frg):PySem.W.kitOne K (.type "NoneType") (.type "tuple")=some false:=by kernel_rfl
theorem qhf(K:Frg):PySem.W.kitOne K (.type "bool") (.type "tuple")=some false:=by kernel_rfl
theorem qf0(K:Frg):PySem.W.kitOne K (.type "int") (.type "tuple")=some false:=by kernel_rfl
theorem qfY(K:Frg):PySem.W.kitOne K (.type "str") (.type "tuple")=some false:=by kernel_rfl
theorem qfX(K:Frg):PySem.W.kitOne K (.type "tuple") (.type "tuple")=some true:=by kernel_rfl
theorem qhc(K:Frg):PySem.W.kitOne K (.type "list") (.type "tuple")=some false:=by kernel_rfl
noncomputable def qjf:RV->Option Bool
 | .non=>some false
 | .bl _=>some false
 | .int _=>some false
 | .str _=>some false
 | .tup _=>some true
 | .ls _=>some false
 |_=>none
theorem qha(K:Frg):PySem.W.kitOne K (.type "NoneType") (.type "list")=some false:=by kernel_rfl
theorem qiu(K:Frg):PySem.W.kitOne K (.type "bool") (.type "list")=some false:=by kernel_rfl
theorem qhd(K:Frg):PySem.W.kitOne K (.type "int") (.type "list")=some false:=by kernel_rfl
theorem qg8(K:Frg):PySem.W.kitOne K (.type "str") (.type "list")=some false:=by kernel_rfl
theorem qg6(K:Frg):PySem.W.kitOne K (.type "tuple") (.type "list")=some false:=by kernel_rfl
theorem qez(K:Frg):PySem.W.kitOne K (.type "list") (.type "list")=some true:=by kernel_rfl
noncomputable def qlz:RV->Option Bool
 | .non=>some false
 | .bl _=>some false
 | .int _=>some false
 | .str _=>some false
 | .tup _=>some false
 | .ls _=>some true
 |_=>none
noncomputable def tyN:RV->Option String
 | .non=>some "NoneType"
 | .bl _=>some "bool"
 | .int _=>some "int"
 | .str _=>some "str"
 | .tup _=>some "tuple"
 | .ls _=>some "list"
 |_=>none
noncomputable def qpT (T:String)(test:RV->Option Bool):LR->RM->RVK->Prop:=fun rs M Q=>match rs with
 | [x,.ty T']=>T'=T/\(match test x with|some b=>Q (.bl b) M|none=>False)
 |_=>False
theorem quj{T:String}{test:RV->Option Bool}(ht:∀ a b,test a=some b->∃ n,tyN a=some n/\PySem.W.kitOne X.K (.type n) (.type T)=some b):qaQ X (.builtin "isinstance") (upC X.K (qpT T test)):=by
 intro pins s σ H xs us Q0 I rl h;obtain⟨rs,M,Q,rr,hv,hq,hk⟩:=h;unfold qpT at hq;split at hq
 · rename_i a T'
   obtain⟨rfl,hq⟩:=hq;obtain⟨v,w,rfl,r1,r2⟩:=rr.two;obtain⟨u,u',rfl,w1,w2⟩:=vals2 rl;simp only[Rep]at r2;subst r2;obtain rfl:u'=Value.type T':=w2;cases e:test a with
   |none=>rw[e]at hq;exact hq.elim
   |some b=>
    rw[e]at hq;obtain⟨n,en,ek⟩:=ht a b e;have fin:∀ tk,EP X pins σ Q0 (.bool b) { s with toks:=tk }:=fun tk=>⟨.bl b,H,I.tok tk,rfl,hk _ M _ H hq (.refl H) hv (by simp only[Rep])⟩
    cases a with
    |non=>cases en;simp only[Rep]at r1;subst r1;cases(show u=Value.none from w1);exact wbg PySem.W.kitx_none I.kIn True.intro ek (fun z=>nomatch z) fin
    |bl y=>cases en;simp only[Rep]at r1;subst r1;cases(show u=Value.bool y from w1);exact wbg PySem.W.kitx_bool I.kIn True.intro ek (fun z=>nomatch z) fin
    |int y=>cases en;simp only[Rep]at r1;subst r1;obtain⟨t,q⟩:=(show ∃ t,u=Value.int y t from w1);cases q;exact wbg PySem.W.kitx_int I.kIn True.intro ek (fun z=>nomatch z) fin
    |str y=>cases en;simp only[Rep]at r1;subst r1;obtain⟨t,q⟩:=(show ∃ t,u=Value.str y t from w1);cases q;exact wbg PySem.W.kitx_str I.kIn True.intro ek (fun z=>nomatch z) fin
    |tup ys=>
     cases en;simp only[Rep]at r1;obtain⟨p,vs,rfl,hp,hr⟩:=r1;cases(show u=Value.ref p from w1)
     obtain⟨its,_,pt,_⟩:=I.tuple (SqT.of hp);obtain⟨o,h1,h2,_⟩:=pt;exact wbg PySem.W.kitx_tuple I.kIn ⟨o,h1,h2⟩ ek (fun z=>nomatch z) fin
    |ls ys=>
     cases en;simp only[Rep]at r1;obtain⟨p,vs,rfl,hp,hr⟩:=r1;cases(show u=Value.ref p from w1)
     obtain⟨its,_,pt,_⟩:=I.list hp.sq;obtain⟨o,h1,h2,_⟩:=pt.isList;exact wbg PySem.W.kitx_list I.kIn ⟨o,h1,h2⟩ ek (fun z=>nomatch z) fin
    |_=>cases en
 · exact hq.elim
theorem qn5:qaQ X (.builtin "isinstance") (upC X.K (qpT "int" qoU)):=quj fun a b e=>by
 cases a with
 |non=>cases e;exact⟨_,rfl,qiq X.K⟩
 |bl _=>cases e;exact⟨_,rfl,qjR X.K⟩
 |int _=>cases e;exact⟨_,rfl,qit X.K⟩
 |str _=>cases e;exact⟨_,rfl,qio X.K⟩
 |tup _=>cases e;exact⟨_,rfl,qim X.K⟩
 |ls _=>cases e;exact⟨_,rfl,qjP X.K⟩
 |_=>cases e
theorem qmn:qaQ X (.builtin "isinstance") (upC X.K (qpT "bool" is_bool)):=quj fun a b e=>by
 cases a with
 |non=>cases e;exact⟨_,rfl,qhb X.K⟩
 |bl _=>cases e;exact⟨_,rfl,qiv X.K⟩
 |int _=>cases e;exact⟨_,rfl,qhe X.K⟩
 |str _=>cases e;exact⟨_,rfl,qg9 X.K⟩
 |tup _=>cases e;exact⟨_,rfl,qg7 X.K⟩
 |ls _=>cases e;exact⟨_,rfl,qir X.K⟩
 |_=>cases e
theorem qn4:qaQ X (.builtin "isinstance") (upC X.K (qpT "str" qoT)):=quj fun a b e=>by
 cases a with
 |non=>cases e;exact⟨_,rfl,qip X.K⟩
 |bl _=>cases e;exact⟨_,rfl,qjQ X.K⟩
 |int _=>cases e;exact⟨_,rfl,qis X.K⟩
 |str _=>cases e;exact⟨_,rfl,qin X.K⟩
 |tup _=>cases e;exact⟨_,rfl,qil X.K⟩
 |ls _=>cases e;exact⟨_,rfl,qjO X.K⟩
 |_=>cases e
theorem qka:qaQ X (.builtin "isinstance") (upC X.K (qpT "tuple" qjf)):=quj fun a b e=>by
 cases a with
 |non=>cases e;exact⟨_,rfl,qfZ X.K⟩
 |bl _=>cases e;exact⟨_,rfl,qhf X.K⟩
 |int _=>cases e;exact⟨_,rfl,qf0 X.K⟩
 |str _=>cases e;exact⟨_,rfl,qfY X.K⟩
 |tup _=>cases e;exact⟨_,rfl,qfX X.K⟩
 |ls _=>cases e;exact⟨_,rfl,qhc X.K⟩
 |_=>cases e
theorem qmm:qaQ X (.builtin "isinstance") (upC X.K (qpT "list" qlz)):=quj fun a b e=>by
 cases a with
 |non=>cases e;exact⟨_,rfl,qha X.K⟩
 |bl _=>cases e;exact⟨_,rfl,qiu X.K⟩
 |int _=>cases e;exact⟨_,rfl,qhd X.K⟩
 |str _=>cases e;exact⟨_,rfl,qg8 X.K⟩
 |tup _=>cases e;exact⟨_,rfl,qg6 X.K⟩
 |ls _=>cases e;exact⟨_,rfl,qez X.K⟩
 |_=>cases e
abbrev RSp:=LR->RM->RVK->Prop
def qfB(K:Frg)(sp:RSp):Sp:=fun vs H Q0 _=>∃ rs M Q,Reps K H rs vs/\View K H M/\sp rs M Q/\UpK K H Q Q0
end
structure RFn(P:Program)(w:World)(K:Frg)(mg:SOV)(base:Heap)(k:Nat)(x:Str)(ps:LSt)(sp:RSp):Prop where
 ex:∃ (f:Addr) (fd:FuncData),mg x=some (.ref f)/\PySem.W.keepIn K (.ref f)=true/\Binds K fd ps []/\qc4 P w K mg base CX0 k f fd ps (qfB K sp)
section
variable {X:Cx}{x:Str}{p pos:Pos}{e:Expr}{es:LEx}{t:RTA}{k:Nat}{ps:LSt}{sp:RSp}
theorem qsl(F:RFn X.prog X.w X.K X.mg X.base k x ps sp)(hr:Room k X.A)(ha:RPA X (e::es) t)(hg:Gl X x:=by rfl)(hdb:(x==("__debug__":Str))=false:=by decide)
 (he:starEach (e::es) X.env=(false,eval e X.env)::starEach es X.env:=by rfl) (hpl:(backTo pos (starEach es X.env)).any (·.1)=false:=by rfl):RPE X (.Call (.Name x p) (e::es) [] pos) (qeZ sp t):=by
 obtain⟨f,fd,hm,hk,hb,F⟩:=F.ex;refine PE.imp (qqb F hr hg hm hk hb .nil qh8 ha hdb he hpl) fun σ0 H Q0 h=>?_
 obtain⟨σ,M,Q,hs,hv,ht,hk⟩:=h;exact⟨σ,M,_,hs,hv,ht,fun rs M1 vs H1 q e1 v1 r1=>⟨rs,M1,Q,by rw[wbn];exact r1,v1,q,hk.ext e1⟩⟩
theorem qpM(F:RFn X.prog X.w X.K X.mg X.base k x ps sp)(hr:Room k X.A)(hg:Gl X x:=by rfl)(hdb:(x==("__debug__":Str))=false:=by decide):RPE X (.Call (.Name x p) [] [] pos) (qeZ sp qm9):=by
 obtain⟨f,fd,hm,hk,hb,F⟩:=F.ex;refine PE.imp (qns F hr hg hm hk hb .nil qh8 hdb) fun σ0 H Q0 h=>?_
 obtain⟨σ,M,Q,hs,hv,ht,hk⟩:=h;exact⟨[],M,Q,Reps.nil,hv,ht,hk⟩
def qbY(N:LSt)(rs:LR):RSt:=rs.map some++List.replicate (N.length-rs.length) none
theorem qks{K:Frg}{H:Hp}{N:LSt}{rs:LR}{vs:LV}(r:Reps K H rs vs):RepSt K H (qbY N rs) (L2.start N vs):=by
 unfold qbY L2.start;refine⟨by simp[r.length],fun i z e=>?_⟩
 have hi:i<rs.length:=by
  by_cases hi:i<rs.length
  · exact hi
  · rw[List.getElem?_append_right (by simpa using hi),List.getElem?_replicate]at e
    split at e<;>cases e
 rw[waK (by simpa using hi),wau]at e
 cases q:rs[i]? with
 |none=>rw[q]at e;cases e
 |some y=>
  rw[q]at e;cases e;obtain⟨v,e1,r1⟩:=r.get q;exact⟨v,by rw[waK (by rw[waj,<-r.length];exact hi),wau,e1];rfl,r1⟩
def nums(n:Nat):LR:=(List.range n).map fun(i:Nat)=>RV.int (i:Int)
theorem qdZ(n:Nat):(nums n).length=n:=by simp[nums]
end
def Thaw(H0 H H':Hp):Prop:=H'=H∨∃ d o u,H d=some (.frz o u)/\qlD u=true/\(∀ o' u',H0 d≠some (.frz o' u'))/\H'=upd H d u
theorem Thaw.inv{X:Cx}{pins:LAO}{σ:L2.St}{H H':Hp}{s:Shared}(t:Thaw X.H₀ H H')(I:Inv X pins σ H s):Inv X pins σ H' s:=by
 rcases t with rfl|⟨p,ob,u,h,du,h0,rfl⟩
 · exact I
 have np:∀ b,H b=none->b≠p:=fun b q w=>by subst w;rw[h]at q;cases q
 refine⟨I.ok,I.os,I.bare,⟨I.base.keep,I.base.slot,fun b o q w x=>?_,I.base.there,fun b xs' q=>?_,fun b o u q=>?_,fun b ps q=>?_⟩,I.loc,I.cell,?_,fun x c q=>?_,fun q hq=>?_,fun b v q=>?_,I.len⟩
 · have:=I.base.free b o q w x
   rw[qaa (np b this)];exact this
 · have e1:=I.base.tups b xs' q
   rw[qaa (qeo e1 h (by intro z;cases z))];exact e1
 · have e1:=I.base.frzs b o u q
   rw[qaa (by rintro rfl;exact h0 _ _ q)];exact e1
 · obtain⟨more,e1⟩:=I.base.tbls b ps q
   exact⟨more,by rw[qaa (qeo e1 h (by intro z;cases z))];exact e1⟩
 · rw[qaa (np _ I.free)];exact I.free
 · have:=I.freeC x c q
   rw[qaa (np _ this)];exact this
 · obtain⟨a1,a2,a3⟩:=I.pin q hq
   exact⟨a1,by rw[qaa (np _ a2)];exact a2,a3⟩
 · have st:∀ c v,ObjOk X.prog X.w H s.heap c v->ObjOk X.prog X.w (upd H p u) s.heap c v:=fun c v z=>z.stay (fun _ _ _ q=>q) (fun c q=>by rw[qaa (qeo q h (by intro z;cases z))];exact q) fun c ys q=>by rw[qaa (qeo q h (by intro z;cases z))];exact q
   by_cases hb:b=p
   · subst hb
     rw[qag]at q;cases q;exact st _ _ (I.hok b _ h).2
   · rw[qaa hb]at q
     exact st _ _ (I.hok b v q)
theorem qeH{X:Cx}{pins:LAO}{σ:L2.St}{H:Hp}{s:Shared}{p:Addr}{u:HO}(I:Inv X pins σ H s)(h:H p=some u)(du:qlD u=true):∃ o,s.heap.get? p=some o/\Inv X pins σ (upd H p (.frz o u)) s/\∀ o' u',X.H₀ p≠some (.frz o' u'):=by
 have hz:=I.hok p u h;obtain⟨ob,e⟩:∃ o,s.heap.get? p=some o:=by
  cases u<;>first|(cases du;done)|skip
  · obtain⟨_,_,_,_,o,_,_,e,_⟩:=hz;exact⟨o,e⟩
  · obtain⟨_,_,_,_,o,_,_,e,_⟩:=hz;exact⟨o,e⟩
 have nf:∀ o' u',H p≠some (.frz o' u'):=fun o' u' z=>by rw[h]at z;cases z;cases du
 have np:∀ b,H b=none->b≠p:=fun b q w=>by subst w;rw[h]at q;cases q
 have nt:∀ c xs,H c=some (.tup xs)->c≠p:=fun c xs q w=>by subst w;rw[h]at q;cases q;cases du
 have no:∀ c y,H c=some (.own y)->c≠p:=fun c y q w=>by subst w;rw[h]at q;cases q;cases du
 refine⟨ob,e,⟨I.ok,I.os,I.bare,⟨I.base.keep,I.base.slot,fun b o q w x=>?_,I.base.there,fun b xs' q=>?_,fun b o u q=>?_,fun b ps q=>?_⟩,I.loc,I.cell,?_,fun x c q=>?_,fun q hq=>?_,fun b v q=>?_,I.len⟩,fun o' u' z=>nf o' u' (I.base.frzs _ _ _ z)⟩
 · have:=I.base.free b o q w x
   rw[qaa (np b this)];exact this
 · have e1:=I.base.tups b xs' q
   rw[qaa (nt _ _ e1)];exact e1
 · have e1:=I.base.frzs b o u q
   rw[qaa (by rintro rfl;exact nf _ _ e1)];exact e1
 · obtain⟨more,e1⟩:=I.base.tbls b ps q
   exact⟨more,by rw[qaa (by rintro rfl;rw[h]at e1;cases e1;cases du)];exact e1⟩
 · rw[qaa (np _ I.free)];exact I.free
 · have:=I.freeC x c q
   rw[qaa (np _ this)];exact this
 · obtain⟨a1,a2,a3⟩:=I.pin q hq
   exact⟨a1,by rw[qaa (np _ a2)];exact a2,a3⟩
 · have st:∀ c v,ObjOk X.prog X.w H s.heap c v->ObjOk X.prog X.w (upd H p (.frz ob u)) s.heap c v:=fun c v z=>z.stay (fun _ _ _ q=>q) (fun c q=>by rw[qaa (no _ _ q)];exact q) fun c ys q=>by rw[qaa (nt _ _ q)];exact q
   by_cases hb:b=p
   · subst hb
     rw[qag]at q;cases q;exact⟨e,st _ _ hz⟩
   · rw[qaa hb]at q
     exact st _ _ (I.hok b v q)
structure qke(H0 Hs:Hp)(K:Frg)(J:It)(xs:LR)(ok:RM->Prop)(un:RM->RM)(H1:Hp):Prop where
 turn:∀ i H M,Ext H1 H->View K H M->ok M->∀ x,xs[i]? =some x->J.go i H/\∀ v H',J.yld i H v H'->Ext H H'/\(∀ M,View K H M->View K H' M)/\Rep K H' x v
 stop:∀ i H M,Ext H1 H->View K H M->ok M->xs.length<=i->J.stop i H
 thaw:∀ H M,Ext H1 H->View K H M->ok M->∃ H',Thaw H0 H H'/\ExtW H H'/\Ext Hs H'/\View K H' (un M)
abbrev RTI:=RSt->RM->(LR->(RM->Prop)->(RM->RM)->RM->Prop)->Prop
abbrev okT:RM->Prop:=fun _=>True
noncomputable def upI (H0:Hp)(K:Frg)(ti:RTI):TI:=fun σ0 H R=>∃ σ M Q,RepSt K H σ σ0/\View K H M/\ti σ M Q/\∀ xs ok un M' J H',Q xs ok un M'->Ext H H'->View K H' M'->qke H0 H K J xs ok un H'->R J H'
def RPI(X:Cx)(tg iter:Expr)(ti:RTI):Prop:=PI X tg iter (upI X.H₀ X.K ti)
section
variable {X:Cx}{tg:Expr}
noncomputable def qAp (te:RTE):RTI:=fun σ M Q=>te σ M fun v M1=>match v with
 | .tup xs=>Q xs okT id M1
 | .ls xs=>Q xs okT id M1
 | .ref a=>match M1 a with
  |some (.lst xs)=>Q xs (fun M=>M a=some (.lst xs)) id M1
  |_=>False
 |_=>False
theorem qb4{H0 Hs:Hp}{K:Frg}{H1:Hp}{ok:RM->Prop}(es:Ext Hs H1):∀ H M,Ext H1 H->View K H M->ok M->∃ H',Thaw H0 H H'/\ExtW H H'/\Ext Hs H'/\View K H' (id M):=fun H M e v _=>⟨H,.inl rfl,(Ext.refl H).w,es.trans e,v⟩
theorem qtL{H0 Hs:Hp}{K:Frg}{H1:Hp}{a:Addr}{rs:LR}{vs:LV}(h:Fz K H1 a vs)(r:Reps K H1 rs vs)(es:Ext Hs H1):qke H0 Hs K (Itl K a) rs okT id H1 where
 turn:=fun i H M e _ _ x hx=>by
  obtain⟨v,e1,r1⟩:=r.get hx;refine⟨⟨vs,v,(h.ext e).sq,e1⟩,fun v' H' y=>?_⟩
  obtain⟨rfl,y⟩:=y;have:=y vs (h.ext e).sq;rw[e1]at this;cases this;exact⟨.refl _,fun _ w=>w,Rep.ext e x v r1⟩
 stop:=fun i H M e _ _ hi=>⟨vs,(h.ext e).sq,by rw[<-r.length];exact hi⟩
 thaw:=qb4 es
theorem qtI{H0 Hs:Hp}{K:Frg}{H1:Hp}{a:Addr}{rs:LR}{vs:LV}(h:SqT K H1 a vs)(r:Reps K H1 rs vs)(es:Ext Hs H1):qke H0 Hs K (Itt K a) rs okT id H1 where
 turn:=fun i H M e _ _ x hx=>by
  obtain⟨v,e1,r1⟩:=r.get hx;refine⟨⟨vs,v,SqT.ext e h,e1⟩,fun v' H' y=>?_⟩
  obtain⟨rfl,y⟩:=y;have:=y vs (SqT.ext e h);rw[e1]at this;cases this;exact⟨.refl _,fun _ w=>w,Rep.ext e x v r1⟩
 stop:=fun i H M e _ _ hi=>⟨vs,SqT.ext e h,by rw[<-r.length];exact hi⟩
 thaw:=qb4 es
theorem qtJ{H0 Hs:Hp}{K:Frg}{H1:Hp}(n:Nat)(es:Ext Hs H1):qke H0 Hs K (Itr 0 n) (nums n) okT id H1 where
 turn:=fun i H M e _ _ x hx=>by
  have hi:i<n:=by have:=(wax.mp hx).1;rw[qdZ]at this;exact this
  have hx':x= .int (i:Int):=by simp[nums,hi]at hx;exact hx.symm
  subst hx';refine⟨hi,fun v' H' y=>?_⟩
  obtain⟨rfl,rfl⟩:=y;exact⟨.refl _,fun _ w=>w,by simp only[Rep];simp⟩
 stop:=fun i H M e _ _ hi=>by rw[qdZ]at hi;exact hi
 thaw:=qb4 es
theorem qtK{H0 Hs:Hp}{K:Frg}{H1:Hp}{a:Addr}{rs:LR}(es:Ext Hs H1):qke H0 Hs K (Itl K a) rs (fun M=>M a=some (.lst rs)) id H1 where
 turn:=fun i H M e hv hm x hx=>by
  obtain⟨ho,eh,vs,rfl,r⟩:=hv a _ hm;obtain⟨v,e1,r1⟩:=r.get hx;refine⟨⟨vs,v,SqL.of eh,e1⟩,fun v' H' y=>?_⟩
  obtain⟨rfl,y⟩:=y;have:=y vs (SqL.of eh);rw[e1]at this;cases this;exact⟨.refl _,fun _ w=>w,r1⟩
 stop:=fun i H M e hv hm hi=>by
  obtain⟨ho,eh,vs,rfl,r⟩:=hv a _ hm;exact⟨vs,SqL.of eh,by rw[<-r.length];exact hi⟩
 thaw:=qb4 es
theorem qDR{l:Expr}{te:RTE}(hl:RPE X l te):RPI X tg l (qAp te):=by
 intro pins s σ0 H R I h;obtain⟨σ,M,Q,hs,hv,ht,hk⟩:=h;refine thn (hl pins s σ0 H (fun x H1=>(∃ a vs rs ok M1,x= .ref a/\SqL X.K H1 a vs/\qke X.H₀ H X.K (Itl X.K a) rs ok id H1/\Q rs ok id M1/\Ext H H1/\View X.K H1 M1)∨∃ a vs rs M1,x= .ref a/\SqT X.K H1 a vs/\Reps X.K H1 rs vs/\Q rs okT id M1/\Ext H H1/\View X.K H1 M1) I ⟨σ,M,_,hs,hv,ht,fun rv M1 v H1 q e1 v1 r1=>?_⟩) fun u s1 ⟨v,H1,I1,r1,q1⟩=>?_
 · cases rv with
   |ls xs=>simp only[Rep]at r1;obtain⟨a,vs,rfl,h1,h2⟩:=r1;exact .inl ⟨a,vs,xs,okT,M1,rfl,h1.sq,qtL h1 h2 e1,q,e1,v1⟩
   |tup xs=>simp only[Rep]at r1;obtain⟨a,vs,rfl,h1,h2⟩:=r1;exact .inr ⟨a,vs,xs,M1,rfl,SqT.of h1,h2,q,e1,v1⟩
   |ref a=>
    simp only[Rep]at r1;subst r1;dsimp only at q;split at q
    · rename_i xs hm
      obtain⟨ho,eh,vs,rfl,r⟩:=v1 a _ hm;exact .inl ⟨a,vs,xs,_,M1,rfl,SqL.of eh,qtK e1,q,e1,v1⟩
    · exact q.elim
   |_=>exact(show False from q).elim
 · rcases q1 with⟨a,vs,rs,ok,M1,rfl,h1,h2,q,e1,v1⟩|⟨a,vs,rs,M1,rfl,h1,h2,q,e1,v1⟩
   · cases r1
     obtain⟨its,rv,p,hz⟩:=I1.list h1;refine wpAny_pyIter_list p.isList ?_;refine⟨s1.heap.objs.size,[s1.heap.objs.size],_,_,H1,rfl,I1.kept (t':=s1.toks) fun b o e=>wab _ e,qkk a _,⟨_,wah _ rfl,rfl,rfl⟩,fun b hb=>?_,hk rs ok id M1 _ H1 q e1 v1 h2⟩
     have e:b=s1.heap.objs.size:=by simpa using hb
     subst e;exact I1.fpOk (waf _) (I1.hok.fresh (waf _))
   · cases r1
     obtain⟨its,rv,p,hz⟩:=I1.tuple h1;refine wpAny_pyIter_tuple (show s1.heap.IsTuple a its.toArray from p) ?_
     refine⟨s1.heap.objs.size,[s1.heap.objs.size],_,_,H1,rfl,I1.kept (t':=s1.toks) fun b o e=>wab _ e,qjq a _,⟨_,wah _ rfl,rfl,rfl⟩,fun b hb=>?_,hk rs okT id M1 _ H1 q e1 v1 (qtI h1 h2 e1)⟩
     have e:b=s1.heap.objs.size:=by simpa using hb
     subst e;exact I1.fpOk (waf _) (I1.hok.fresh (waf _))
noncomputable def qkS (Q:LR->(RM->Prop)->(RM->RM)->RM->Prop):LR->RM->Prop:=fun rs M=>match rs with
 | [.int n]=>-(2 ^ 62)<=n/\n<2 ^ 62/\Q (nums n.toNat) okT id M
 |_=>False
def qAq(te:RTE):RTI:=fun σ M Q=>te σ M fun v M1=>qkS Q [v] M1
theorem PI.imp{iter:Expr}{t t':TI}(h:PI X tg iter t)(i:∀ σ H R,t' σ H R->t σ H R):PI X tg iter t':=fun pins s σ H R I w=>h pins s σ H R I (i σ H R w)
theorem qtM{a:Expr}{te:RTE}{p pos:Pos}(hm:X.mg "range" =none)(ha:RPE X a te)(hgl:Gl X "range":=by rfl)(hst:starEach [a] X.env= [(false,eval a X.env)]:=by rfl)(hsc:starEach (a::[]) X.env=(false,eval a X.env)::starEach [] X.env:=by rfl):
 RPI X tg (.Call (.Name "range" p) [a] [] pos) (qAq te):=PI.imp (qkZ hgl hm (qoe ha qxY hsc) hst) fun σ0 H R h=>by
 obtain⟨σ,M,Q,hs,hv,ht,hk⟩:=h;refine⟨σ,M,qkS Q,hs,hv,ht,fun rs M1 vs H1 q e1 v1 r1=>?_⟩
 unfold qkS at q;split at q
 · rename_i n
   obtain⟨q1,q2,q⟩:=q;obtain⟨v,rfl,r2⟩:=r1.one;simp only[Rep]at r2;subst r2;exact⟨n,rfl,q1,q2,hk _ okT id M1 _ H1 q e1 v1 (qtJ _ e1)⟩
 · exact q.elim
def qsx(ti:RTI)(g:RTG)(tb:RTS):RTS:=fun D σ M=>ti σ M fun xs ok un M1=>qem g tb D ok un xs σ M1
def qrN(H0:Hp)(D:Ends):Ends where
 nx:=fun σ H=>∃ H',Thaw H0 H H'/\D.nx σ H'
 rt:=fun v H=>∃ H',Thaw H0 H H'/\D.rt v H'
 bk:=D.bk
 ct:=D.ct
theorem qz4{iter:Expr}{body:List Stmt}{ti:RTI}{g:RTG}{tb:RTS}{pos:Pos}(hp:PassesOwn (model X.prog X.w) X.A X.env X.xe)(hc:X.calm=true)(hi:RPI X tg iter ti)(hg:RPG X tg g)(hb:qmN X body tb)
 (hs:∀ x,foldedSetIterable iter X.env x=pure x:=by intro _;rfl):RPS X (.For tg iter body [] pos) (qsx ti g tb):=by
 intro pins s σ0 H D0 I h;refine thn (qsJ hp hc hi hg hb hs pins s σ0 H (qrN X.H₀ D0) I ?_) fun f s' h'=>?_
 rotate_left
 · cases f with
   |next=>obtain⟨σ1,H1,I1,H2,t,q⟩:=h';exact⟨σ1,H2,t.inv I1,q⟩
   |brk=>exact h'
   |cont=>exact h'
   |ret v=>obtain⟨x1,σ1,H1,I1,r1,H2,t,q⟩:=h';exact⟨x1,σ1,H2,t.inv I1,r1,q⟩
 obtain⟨σ,M,D,hs,hv,ht,hd⟩:=h;refine⟨σ,M,_,hs,hv,ht,fun xs ok un M1 J H1 q e1 v1 hJ=>?_⟩
 have outN:∀ {σ4:RSt} {M4:RM} {σ04:L2.St} {H4:Hp},(ok M4/\D.nx σ4 (un M4))->Ext H1 H4->View X.K H4 M4->RepSt X.K H4 σ4 σ04->(qrN X.H₀ D0).nx σ04 H4:=fun q4 e4 v4 r4=>by
  obtain⟨H5,t5,e5,x5,v5⟩:=hJ.thaw _ _ e4 v4 q4.1;exact⟨H5,t5,hd.nx _ _ _ H5 q4.2 x5 v5 (r4.extw e5)⟩
 refine⟨fun i m σ0 H=>m=xs.length-i/\i<=xs.length/\∃ σ M,RepSt X.K H σ σ0/\View X.K H M/\qem g tb D ok un (xs.drop i) σ M/\Ext H1 H,⟨_,rfl,wbi _,σ,M1,hs.ext e1,v1,by simpa using q,.refl _⟩,?_⟩
 rintro i m σ0 H ⟨rfl,hi,σ,M,hs,hv,hf,e⟩
 by_cases hlt:i<xs.length
 · have ed:xs.drop i=xs[i]::xs.drop (i+1):=by simp
   rw[ed]at hf;obtain⟨hok,hf⟩:=hf;obtain⟨hgo,hy⟩:=hJ.turn i H M e hv hok xs[i] (by simp)
   refine .inr ⟨hgo,fun σ0 H=>∃ σ M,RepSt X.K H σ σ0/\View X.K H M/\qem g tb D ok un (xs.drop (i+1)) σ M/\Ext H1 H,fun σ' H' h=>⟨_,by omega,rfl,hlt,h⟩,fun x H' y=>?_⟩
   obtain⟨e2,w2,r2⟩:=hy x H' y;refine⟨xs[i],σ,M,_,r2,hs.ext e2,w2 M hv,hf,fun σ' M' σ0' H'' q e3 v3 r3=>?_⟩
   have e13:=(e.trans e2).trans e3;refine⟨σ',M',_,r3,v3,q,⟨fun σ4 M4 σ04 H4 q4 e4 v4 r4=>⟨σ4,M4,r4,v4,q4,e13.trans e4⟩,fun rv M4 v H4 q4 e4 v4 r4=>?_,fun σ4 M4 σ04 H4 q4 e4 v4 r4=>outN q4 (e13.trans e4) v4 r4,fun σ4 M4 σ04 H4 q4 e4 v4 r4=>⟨σ4,M4,r4,v4,q4,e13.trans e4⟩⟩⟩
   obtain⟨H5,t5,e5,x5,v5⟩:=hJ.thaw _ _ (e13.trans e4) v4 q4.1;exact⟨H5,t5,hd.rt _ _ _ H5 q4.2 x5 v5 (Rep.extw e5 _ _ r4)⟩
 · have ei:i=xs.length:=by omega
   subst ei;rw[List.drop_length]at hf;exact .inl ⟨hJ.stop _ H M e hv hf.1 (waf _),outN hf e hv hs⟩
end
theorem qj9{env:Env}:∀ (scope:Scope),(∀ y∈scope.names,y.2= .free->∃ c,env.cells.lookup y.1=some c)->∃ cl,closureFor scope env=pure cl/\(∀ y c,cl.lookup y=some c->env.cells.lookup y=some c)/\∀ y∈scope.names,y.2= .free->∃ c,cl.lookup y.1=some c:=by
 intro scope h;have all:∀ (l:List (Str×NameKind)) (cs:List (Str×Addr)),(∀ y∈l,y.2= .free->∃ c,env.cells.lookup y.1=some c)->(∀ y c,cs.lookup y=some c->env.cells.lookup y=some c)->
  ∃ cl,(forIn l cs fun(x:Str×NameKind) (r:List (Str×Addr))=>(match x with|(name,kind)=>if(kind==NameKind.free)=true then do let c<-cellOf env name;pure (ForInStep.yield ((name,c)::r))else pure (ForInStep.yield r):Sem (ForInStep (List (Str×Addr)))))=(pure cl:Sem _)/\
   (∀ y c,cl.lookup y=some c->env.cells.lookup y=some c)/\(∀ y c,cs.lookup y=some c->∃ c',cl.lookup y=some c')/\∀ y∈l,y.2= .free->∃ c,cl.lookup y.1=some c:=by
  intro l
  induction l with
  |nil=>intro cs _ h2;exact⟨cs,by simp,h2,fun y c e=>⟨c,e⟩,fun y hy=>by cases hy⟩
  |cons x l ih=>
   intro cs h1 h2;obtain⟨n,k⟩:=x
   by_cases hk:k= .free
   · subst hk
     obtain⟨c,ec⟩:=h1 (n,.free) waz rfl;have e0:cellOf env n=pure c:=by unfold cellOf;rw[ec]
     obtain⟨cl,e1,e2,e3,e4⟩:=ih ((n,c)::cs) (fun y hy=>h1 y (wat _ hy)) (fun y d e=>by
      rw[waW]at e;split at e
      · rename_i z;cases e;rw[wa2 z];exact ec
      · exact h2 y d e)
     refine⟨cl,?_,e2,fun y d e=>?_,fun y hy hf=>?_⟩
     · rw[wbq]
       simp only[beq_self_eq_true,if_true,e0,pure_bind];exact e1
     · by_cases hy:y=n
       · subst hy;exact e3 y c (by simp)
       · exact e3 y d (by rw[waW,waR.mpr hy];exact e)
     · rcases waH.mp hy with rfl|hy
       · exact e3 n c (by simp)
       · exact e4 y hy hf
   · obtain⟨cl,e1,e2,e3,e4⟩:=ih cs (fun y hy=>h1 y (wat _ hy)) h2
     have hb:(k==NameKind.free)=false:=by simpa using hk
     refine⟨cl,?_,e2,e3,fun y hy hf=>?_⟩
     · rw[wbq]
       simp only[hb,waD,if_false,pure_bind];exact e1
     · rcases waH.mp hy with rfl|hy
       · exact waI hf hk
       · exact e4 y hy hf
 obtain⟨cl,e1,e2,_,e4⟩:=all scope.names [] h (fun y c e=>by simp at e)
 refine⟨cl,?_,e2,e4⟩;unfold closureFor;have e5:=congrArg (fun m=>m >>= fun r=>(pure r:Sem (List (Str×Addr)))) e1
 simp only[pure_bind]at e5;rw[<-e5]
noncomputable def qgO (env:Env)(p:Str×NameKind):Str×NameKind:=if(p.2==NameKind.free&&env.scope.kind== .function&&env.kindOf p.1==some .cell)then(p.1,NameKind.cell)else(p.1,p.2)
theorem qm1(env:Env)(p:Str×NameKind):(qgO env p).1=p.1:=by unfold qgO;split<;>rfl
theorem qfI(env:Env)(p:Str×NameKind):(qgO env p).2=p.2∨((qgO env p).2= .cell/\p.2= .free):=by
 unfold qgO;split
 · rename_i h
   rw[wac,wac]at h;exact .inr ⟨rfl,wa2 h.1.1⟩
 · exact .inl rfl
theorem qbO{env:Env}{x:Str}:∀ {names:List (Str×NameKind)},(names.map (qgO env)).lookup x=(names.find? fun p=>x==p.1).map fun p=>(qgO env p).2
 | []=>rfl
 |p::r=>by
  rw[wan,waN];obtain⟨n,k⟩:=p;have e:qgO env (n,k)=(n,(qgO env (n,k)).2):=Prod.ext (qm1 env (n,k)) rfl;rw[e,waW];cases hx:x==n with
  |true=>rfl
  |false=>exact qbO
theorem qbP{x:Str}:∀ {names:List (Str×NameKind)},names.lookup x=(names.find? fun p=>x==p.1).map fun p=>p.2
 | []=>rfl
 |(n,k)::r=>by
  rw[waW,waN];cases hx:x==n with
  |true=>rfl
  |false=>exact qbP
theorem qdp{env:Env}{names:List (Str×NameKind)}{x:Str}{k:NameKind}(hc:∀ y∈names,y.2≠.cell)(hk:k= .cell∨k= .free)
 (h:(names.map (qgO env)).lookup x=some k):names.lookup x=some .free:=by
 rw[qbO]at h;rw[qbP];cases e:names.find? fun p=>x==p.1 with
 |none=>rw[e]at h;cases h
 |some p=>
  rw[e]at h;have h':(qgO env p).2=k:=wao h;have hp:=List.mem_of_find?_eq_some e;show some p.2=some .free;rcases qfI env p with z|z
  · rcases hk with rfl|rfl
    · exact waI (z.symm.trans h') (hc p hp)
    · rw[<-h',z]
  · rw[z.2]
theorem qdo{env:Env}{names:List (Str×NameKind)}{x:Str}(h:names.lookup x=some .free):(names.map (qgO env)).lookup x=some .cell∨(names.map (qgO env)).lookup x=some .free:=by
 rw[qbP]at h;rw[qbO];cases e:names.find? fun p=>x==p.1 with
 |none=>rw[e]at h;cases h
 |some p=>
  rw[e]at h;have h':p.2= .free:=wao h;show some (qgO env p).2=some .cell∨some (qgO env p).2=some .free;rcases qfI env p with z|z
  · right;rw[z,h']
  · left;rw[z.1]
noncomputable def blk (X:Cx)(scope:Scope)(cl:List (Str×Addr))(C:Addr)(Nc:LSt)(s:Shared)(H:Hp)(fp:List Addr):Cx:=
 { X with N:=Nc,s₀:=s,H₀:=H,env:=compEnvC scope cl C X.env,outer:=X.stack,ex:=fp,fn:=fun _=>false,pn:=[],xe:=fun _ _=>False }
theorem quw{X:Cx}{pins:LAO}{σ:L2.St}{H:Hp}{s:Shared}{scope:Scope}{cl:List (Str×Addr)}{C:Addr}{Nc:LSt}{fp:List Addr}(I:Inv X pins σ H s)(hf:∀ b∈fp,qoj X pins H b)(hlt:∀ b∈fp,b<s.heap.objs.size)
 (hkind:scope.kind= .function) (hC:s.heap.objs.size<=C) (h1:∀ y c,cl.lookup y=some c->X.env.cells.lookup y=some c) (h2:∀ y∈scope.names,y.2= .free->∃ c,cl.lookup y.1=some c) (hcell:∀ y∈scope.names,y.2≠.cell):
 (blk X scope cl C Nc s H fp).Ok where
 mod:=I.ok.mod
 kind:=hkind
 glob:=I.ok.glob
 blt:=I.ok.blt
 above:=hC
 inj:=fun x y c e1 e2=>I.ok.inj x y c (h1 x c e1) (h1 y c e2)
 has:=fun x hx=>by
  have e:scope.names.lookup x=some .free:=by
   rcases hx with hx|hx
   · exact qdp hcell (.inl rfl) hx
   · exact qdp hcell (.inr rfl) hx
  exact h2 (x,.free) (PySem.mem_of_lookup e) rfl
 cab:=fun x c z=>by cases z
 hd:=I.ok.hd
 frames:=I.ok.frames
 stk:=.inl rfl
 exf:=fun b hb=>⟨fun z=>waI (wam (hlt b hb) hC) (by rw[show b=C from z];exact wa6 _),fun x c e=>(hf b hb).2.2.2.2.1 x c (h1 x c e)⟩
 bs:=fun b o e=>I.bs b o e
 bsz:=was I.ok.bsz I.sz
 noex:=fun b o e hb=>by
  rcases(hf b hb).2.2.2.1 with z|z
  · exact I.ok.noex b o e z
  · exact waI (wam (wai e) (was I.ok.bsz z)) (wa6 _)
 exfs:=fun b hb z=>by
  rcases waH.mp (I.stkSub b z)with e|e
  · exact(hf b hb).2.1 e
  · exact(hf b hb).2.2.1 e
 funs:=I.stack
 frf:=I.stkFree
section
variable {prog:Program}{w:World}{A:Around}{R:Result->Shared->Prop}{s:Shared}
abbrev Nv:VSP:=fun _ _=>False
noncomputable abbrev qhR (ifs:LEx) (env:Env):Sem Bool:=forIn ifs true fun c r=>if r=true then do let ok<-isTrue c env (eval c env);pure (ForInStep.yield ok)else pure (ForInStep.yield r)
theorem qmi{elt target iter:Expr}{ifs:LEx}{scope:Scope}{pos:Pos}{it acc:Value}{env:Env}(I:Nat->Shared->Prop)
 (turn:∀ n s,I n s->wpAny (model prog w) A (pyNext it) (fun r s₁=>(r=none/\R (.ok .next) s₁)∨∃ v,r=some v/\wpAny (model prog w) A (letOwnedTupleGo target it v) (fun _ s₁'=>wpAny (model prog w) A (assign target env v) (fun _ s₂=>
  wpAny (model prog w) A (qhR ifs env) (fun ok s₃=>
   if ok=true then wpAny (model prog w) A (eval elt env) (fun x s₄=>
    wpAny (model prog w) A (call (.builtin "list.append") [acc,x]) (fun _ s₅=>∃ m,m<n/\I m s₅) Nv s₄) Nv s₃
   else ∃ m,m<n/\I m s₃) Nv s₂) Nv s₁') Nv s₁) Nv s)
 (n:Nat) (h:I n s):
 codeAny (model prog w) A (.compLoop (.ListComp elt [⟨target,iter,ifs,0⟩] scope pos) 0 it acc env) R s:=by
 refine codeAny_loop rfl I (fun n s hI=>?_) n h
 show wpAny _ A ((compTurn (.ListComp elt [⟨target,iter,ifs,0⟩] scope pos) 0 it acc env).onRaise (fun x=>do noteFrame x env;theTreesLotGoes x)) _ _ s
 refine wpAny_noted ?_;rw[compTurn_list];refine waa (wpAny_standAt (waa (wa3 (turn n s hI) (fun r s₁ h₁=>?_) fun _ _ h'=>h'.elim)))
 rcases h₁ with⟨rfl,h₁⟩|⟨v,rfl,h₁⟩
 · exact wae h₁
 · refine waa (wa3 h₁ (fun _ s₁' h₁'=>?_) fun _ _ h'=>h'.elim)
   refine waa (wa3 h₁' (fun _ s₂ h₂=>waa (wa3 h₂ (fun ok s₃ h₃=>?_) fun _ _ h'=>h'.elim)) fun _ _ h'=>h'.elim)
   cases ok with
   |false=>exact wae ⟨rfl,h₃⟩
   |true=>
    exact waa (waa (wa3 h₃ (fun x s₄ h₄=>waa (wa3 h₄ (fun _ s₅ h₅=>wae (wae ⟨rfl,h₅⟩)) fun _ _ h'=>h'.elim)) fun _ _ h'=>h'.elim))
end
def qrn(X:Cx)(ifs:LEx)(t:RTT):Prop:=
 ∀ (pins:LAO) (s:Shared) (σ:L2.St) (H:Hp) (Q:Bool->Hp->Prop),Inv X pins σ H s->upT X.K t σ H Q->wpAny (model X.prog X.w) X.A (qhR ifs X.env) (TP X pins σ Q) X.xe s
def qDw:RTT:=fun _ M Q=>Q true M
theorem qB5{X:Cx}:qrn X [] qDw:=by
 intro pins s σ0 H Q0 I h;obtain⟨σ,M,Q,hs,hv,ht,hk⟩:=h;exact wae ⟨H,I,hk true M H ht (.refl H) hv⟩
theorem qB4{X:Cx}{c:Expr}{t:RTT}(h:RPT X c t):qrn X [c] t:=by
 intro pins s σ0 H Q0 I hw;have:=h pins s σ0 H Q0 I hw;unfold qhR;rw[wbq];simp only[if_true,bind_assoc,pure_bind];refine waa (thn this fun b s' q=>?_)
 simp only[List.forIn_nil];exact wae q
def qnV(md:Bool)(acc:LR)(M:RM)(Q:RVK):Prop:=match md with
 |true=>∀ p,M p=none->Q (.ref p) (put M p (.lst acc))
 |false=>Q (.ls acc) M
noncomputable def qaV (bd:RV->Option (LR))(md:Bool)(ok:RM->Prop)(un:RM->RM)(tt:RTT)(te:RTE)(base:List (Option RV)):LR->LR->RM->RVK->Prop
 | [],acc,M,Q=>ok M/\qnV md acc (un M) Q
 |x::xs,acc,M,Q=>ok M/\match bd x with
  |some bs=>tt (bs.map some++base) M fun c M1=>(c=true->te (bs.map some++base) M1 fun v M2=>qaV bd md ok un tt te base xs (acc++ [v]) M2 Q)/\(c=false->qaV bd md ok un tt te base xs acc M1 Q)
  |none=>False
noncomputable def qfk (bd:RV->Option (LR))(md:Bool)(ti:RTI)(cap:List Nat)(tt:RTT)(te:RTE):RTE:=fun σ M Q=>ti σ M fun xs ok un M1=>xs.length<sizeLine/\qaV bd md ok un tt te (cap.map fun i=>(σ[i]?).join) xs [] M1 Q
section
variable {X:Cx}
theorem qmj{elt iter tg:Expr}{nm:LSt}{bd:RV->Option (LR)}{md:Bool}{scope:Scope}{pos:Pos}{ti:RTI}{tt:RTT}{te:RTE}{ifs:LEx}(caps:List (Nat×Str)){osc:Scope}{oN:LSt}
 (hc:X.calm=true) (hi:RPI X tg iter ti)
 (hif:∀ cl C s H fp,qrn (blk X scope cl C (nm++caps.map Prod.snd) s H fp) ifs tt)
 (hel:∀ cl C s H fp,RPE (blk X scope cl C (nm++caps.map Prod.snd) s H fp) elt te)
 (hX:X.env.scope=osc) (hN:X.N=oN)
 (hcaps:∀ p∈caps,oN[p.1]? =some p.2/\scope.names.lookup p.2=some .free/\(osc.names.lookup p.2=some .cell∨osc.names.lookup p.2=some .free))
 (hfr:∀ y∈scope.names,y.2= .free->(osc.names.lookup y.1=some .cell∨osc.names.lookup y.1=some .free))
 (hcell:∀ y∈scope.names,y.2≠.cell) (hkind:scope.kind= .function) (hnames:∀ y∈scope.names,y.2= .local->scope.names.lookup y.1=some .local)
 (hb:∀ r bs,bd r=some bs->bs.length=nm.length)
 (hpg:∀ cl C s2 H2 fp (pins':LAO) (s6:Shared) (vs0 cv:List (Option V)) (H6:Hp) (rv:RV) (xv:V) (u:Value) (bs:LR) (Q1:Unit->Shared->Prop),vs0.length=nm.length->Inv (blk X scope cl C (nm++caps.map Prod.snd) s2 H2 fp) pins' (vs0++cv) H6 s6->RelV xv u->Rep X.K H6 rv xv->bd rv=some bs->
  (∀ vs s7,Reps X.K H6 bs vs->Inv (blk X scope cl C (nm++caps.map Prod.snd) s2 H2 fp) pins' (vs.map some++cv) H6 s7->Q1 () s7)->wpAny (model X.prog X.w) X.A (assign tg (compEnvC scope cl C X.env) u) Q1 Nv s6)
 (hs:∀ v,foldedSetIterable iter X.env v=pure v) {pos':Pos} {pins:LAO} {s:Shared} {σ0:L2.St} {H:Hp} {Q0:VK} (I:Inv X pins σ0 H s) (hw:up X.K (qfk bd md ti (caps.map Prod.fst) tt te) σ0 H Q0) {use:Option (Value->Sem Unit)} {PP:VSP}
 (fin:∀ (D C:Addr) (s5:Shared) (m5:SOV) (H5:Hp),s5.heap.Ns C m5->(∀ h',Heap.SameBut C s5.heap h'->Inv X pins σ0 H5 { s5 with heap:=h' })->Q0 (.ref D) H5->H5 C=none->C≠X.env.locals->X.s₀.heap.objs.size<=C->(∀ y c,X.env.cells.lookup y=some c->c≠C)->(∀ p∈X.pn++pins,p.1≠C)->compPost (model X.prog X.w) X.A X.xe use PP (.ref D) C (.ok .next) s5):
 wpAny (model X.prog X.w) X.A (comprehension (.ListComp elt [⟨tg,iter,ifs,0⟩] scope pos) scope X.env pos' (newList []) false (eval iter X.env) use) PP X.xe s:=by
 subst hX;subst hN;obtain⟨σ,M,Q,hst,hv,ht,hk⟩:=hw;obtain⟨cl,hclos,hcl1,hcl2⟩:=qj9 scope fun y hy hf=>I.ok.has y.1 (hfr y hy hf)
 refine wpAny_comprehension_free (use:=use) (cl:=cl) rfl hs hclos hkind hnames ?_;refine wa3 (hi pins s σ0 H (fun J H1=>∃ xs ok un M1,Ext H H1/\View X.K H1 M1/\qke X.H₀ H X.K J xs ok un H1/\xs.length<sizeLine/\qaV bd md ok un tt te ((caps.map Prod.fst).map fun i=>(σ[i]?).join) xs [] M1 Q) I ⟨σ,M,_,hst,hv,ht,fun xs ok un M' J H' q e w hJ=>⟨xs,ok,un,M',e,w,hJ,q.1,q.2⟩⟩)
  (fun v s1 h1=>wa3 h1 (fun itv s2 h2=>?_) fun _ _ e=>e) fun _ _ e=>e
 obtain⟨it,fp,tn,J,H2,rfl,I2,T,st2,f2,xs,ok,un,M1,e2,w2,hJ,hz,hq⟩:=h2;have flt:∀ b∈fp,b<s2.heap.objs.size:=fun b hb=>by obtain⟨o,e,_⟩:=T.obj _ _ st2 b hb;exact wai e
 refine waP (wpAny_newFunctionEnv hcell (by intro y hy;simp at hy) (fun h₁ hns₁ hsb₁=>?_) hkind)
 dsimp only at hns₁ hsb₁ ⊢;generalize hH2:s2.heap.push { cls:=.type "list",dict:=none,data:=.seq ([]:LVl).toArray }=hp2 at hns₁ hsb₁ ⊢;have hCs:hp2.objs.size=s2.heap.objs.size+1:=by rw[<-hH2,Heap.size_push]
 have hDC:s2.heap.objs.size≠hp2.objs.size:=by rw[hCs];exact waq (Nat.lt_succ_self _)
 have hCle:s2.heap.objs.size<=hp2.objs.size:=by rw[hCs];exact Nat.le_succ _
 have old:∀ b o,s2.heap.get? b=some o->h₁.get? b=some o:=fun b o e=>hsb₁.extBut b o (waq (by rw[hCs];exact wbz (wai e))) (wab _ (hH2 ▸ wab _ e))
 have hacc:h₁.get? s2.heap.objs.size=some { cls:=.type "list",data:=.seq ([]:LVl).toArray }:=hsb₁.extBut _ _ hDC (wab _ (hH2 ▸ wah _ rfl));generalize hD:s2.heap.objs.size=D at*;generalize hCg:hp2.objs.size=C at*;have hDfp:∀ b∈fp,b≠D:=fun b hb=>waq (flt b hb)
 have okB:(blk X scope cl C (nm++caps.map Prod.snd) s2 H2 fp).Ok:=quw I2 f2 (by rw[hD];exact flt) hkind (by rw[hD];exact hCle) hcl1 hcl2 hcell
 have fr:∀ b,D<=b->H2 b=none:=fun b hb=>I2.hok.fresh (by rw[hD];exact hb)
 have capsV:∃ cv:List (Option V),cv.length=caps.length/\(∀ (j:Nat) v,cv[j]? =some (some v)->∃ p,caps[j]? =some p/\σ0[p.1]? =some (some v))/\
  ∀ (j:Nat) r,((caps.map Prod.fst).map fun i=>(σ[i]?).join)[j]? =some (some r)->∃ v,cv[j]? =some (some v)/\Rep X.K H2 r v:=by
  refine⟨caps.map fun p=>(σ0[p.1]?).join,by simp,fun j v e=>?_,fun j r e=>?_⟩
  · rw[wau]at e
    cases q:caps[j]? with
    |none=>rw[q]at e;cases e
    |some p=>
     rw[q]at e;have e':(σ0[p.1]?).join=some v:=wao e;refine⟨p,rfl,?_⟩;cases z:σ0[p.1]? with
     |none=>rw[z]at e';cases e'
     |some o=>rw[z]at e';have:o=some v:=e';rw[this]
  · rw[wau,wau]at e
    cases q:caps[j]? with
    |none=>rw[q]at e;cases e
    |some p=>
     rw[q]at e;have e':(σ[p.1]?).join=some r:=wao e;have e'':σ[p.1]? =some (some r):=by
      cases z:σ[p.1]? with
      |none=>rw[z]at e';cases e'
      |some o=>rw[z]at e';have:o=some r:=e';rw[this]
     obtain⟨v,h1,h2⟩:=hst.2 p.1 r e'';refine⟨v,?_,Rep.ext e2 r v h2⟩;rw[wau,q];show some ((σ0[p.1]?).join)=_;rw[h1];rfl
 obtain⟨cv,cvl,cv1,cv2⟩:=capsV;have I3:Inv (blk X scope cl C (nm++caps.map Prod.snd) s2 H2 fp) [(D,{ cls:=.type "list",data:=.seq ([]:LVl).toArray })] (List.replicate nm.length none++cv) H2 { s2 with heap:=h₁,toks:=s2.toks+([]:List (Str×Value)).length }:=by
  refine⟨okB,rfl,I2.bare,Un.kept old,⟨_,hns₁,fun i y v a b c=>?_⟩,fun y c e=>?_,fr C hCle,fun y c e=>I2.freeC y c (hcl1 y c e),fun p hp=>?_,I2.hok.kept old,?_⟩
  · by_cases hi0:i<nm.length
    · rw[waK (by rw[wbo];exact hi0),List.getElem?_replicate]at b
      split at b<;>cases b
    · obtain⟨j,rfl⟩:=Nat.exists_eq_add_of_le (Nat.le_of_not_lt hi0)
      rw[List.getElem?_append_right (by rw[wbo];omega),wbo,wbj]at b
      have a:(caps.map Prod.snd)[j]? =some y:=by
       have a':(nm++caps.map Prod.snd)[nm.length+j]? =some y:=a;rw[List.getElem?_append_right (by omega),wbj]at a';exact a'
      obtain⟨p,q1,q2⟩:=cv1 j v b;have hy:p.2=y:=by
       have a':(caps.map Prod.snd)[j]? =some y:=a;rw[wau,q1]at a';exact wao a'
      subst hy;obtain⟨z1,z2,z3⟩:=hcaps p (waF q1);obtain⟨m,hn,hl⟩:=I2.loc;have vis:Vis X.env.scope p.2:=by rcases z3 with z|z;exact .inr (.inl z);exact .inr (.inr z)
      obtain⟨u,ru,lk⟩:=hl p.1 p.2 v z1 q2 vis;refine⟨u,ru,.inr ⟨qdo z2,?_⟩⟩;obtain⟨c,ec⟩:=hcl2 (p.2,.free) (PySem.mem_of_lookup z2) rfl;have ec':=hcl1 p.2 c ec;rcases lk with⟨k,_⟩|⟨_,c',e',ic⟩
      · have k':X.env.scope.names.lookup p.2=some .local:=k
        rcases z3 with z|z<;>(rw[z]at k';cases k')
      · rw[ec']at e';cases e'
        obtain⟨o,ho,hd⟩:=ic;exact⟨c,ec,o,old c o ho,hd⟩
  · obtain⟨v,o,ho,hd⟩:=I2.cell y c (hcl1 y c e)
    exact⟨v,o,old c o ho,hd⟩
  · have hp':p=(D,{ cls:=.type "list",data:=.seq ([]:LVl).toArray }):=by simpa[blk]using hp
    subst hp';refine⟨hacc,fr D (waf _),hDC,fun z=>?_,fun v=>by simp⟩
    have:=I2.stkFree D z;rcases waH.mp (I2.stkSub D z)with e|e
    · exact waI I2.lt (by rw[<-e,hD];exact wa6 _)
    · exact I2.nofs (by rw[hD];exact waf _) e
  · show(List.replicate nm.length none++cv).length=(nm++caps.map Prod.snd).length
    simp[cvl]
 have W:∀ s3:Shared,s3= { s2 with heap:=h₁,toks:=s2.toks+([]:List (Str×Value)).length }->codeAny (model X.prog X.w) X.A (.compLoop (.ListComp elt [⟨tg,iter,ifs,0⟩] scope pos) 0 (.ref it) (.ref D) (compEnvC scope cl C X.env))
  (compPost (model X.prog X.w) X.A X.xe use PP (.ref D) C) s3:=by
  rintro s3 rfl;refine qmi (fun n s'=>∃ (i:Nat) (v0:List (Option V)) (H':Hp) (M':RM) (accR:LR) (accV:LV) (its:LVl) (k:Nat),n=xs.length-i/\v0.length=nm.length/\i<=xs.length/\accR.length<=i/\
   Inv (blk X scope cl C (nm++caps.map Prod.snd) s2 H2 fp) [(D,{ cls:=.type "list",data:=.seq its.toArray k })] (v0++cv) H' s'/\View X.K H' M'/\Ext H2 H'/\Reps X.K H' accR accV/\Vals accV its/\tn i s'.heap/\(∀ b∈fp,H' b=none)/\
   qaV bd md ok un tt te ((caps.map Prod.fst).map fun i=>(σ[i]?).join) (xs.drop i) accR M' Q) ?_ xs.length ⟨0,List.replicate nm.length none,H2,M1,[],[],[],0,rfl,by simp,wbi _,waf _,I3,w2,.refl _,Reps.nil,.nil,T.keep _ _ _ st2 fun b _ o e=>old b o e,fun b hb=>(f2 b hb).1,by simpa using hq⟩
  rintro n s' ⟨i,v0,H',M',accR,accV,its,k,rfl,hv0,hi,hal,I4,w4,e4,ra,rl,st4,f4,hq4⟩;have fpB:∀ (pins':LAO) (H'':Hp),(∀ b∈fp,H'' b=none)->(∀ p∈pins',∀ b∈fp,p.1≠b)->∀ b∈fp,qoj (blk X scope cl C (nm++caps.map Prod.snd) s2 H2 fp) pins' H'' b:=fun pins' H'' h1 h2 b hb=>
   ⟨h1 b hb,(okB.exf b hb).1,okB.exfs b hb,.inl hb,(okB.exf b hb).2,fun p hp=>h2 p (by simpa[blk]using hp) b hb⟩
  have pD:∀ (o:Obj),∀ p∈[(D,o)],∀ b∈fp,p.1≠b:=fun o p hp b hb=>by
   have:p=(D,o):=by simpa using hp
   subst this;exact(hDfp b hb).symm
  by_cases hlt:i<xs.length
  · have ed:xs.drop i=xs[i]::xs.drop (i+1):=by simp
    rw[ed]at hq4;obtain⟨hok,hq4⟩:=hq4;obtain⟨hgo,hy⟩:=hJ.turn i H' M' e4 w4 hok xs[i] (by simp)
    refine thn (T.item (blk X scope cl C (nm++caps.map Prod.snd) s2 H2 fp) rfl rfl rfl hc i _ s' _ H' Nv I4 (fpB _ _ f4 (pD _)) st4 hgo) fun r s5 ⟨u,hr,h5⟩=>.inr ⟨u,hr,?_⟩
    refine thn h5 fun _ s6 zz=>?_;obtain⟨xv,H6,I6,r6,y6,st6,f6⟩:=zz
    obtain⟨e6,w6,rr6⟩:=hy xv H6 y6;have I6':=I6.pinned (fpB _ _ f6 (pD _)) (T.obj _ _ st6);obtain⟨bs,ebs,hq4⟩:∃ bs,bd xs[i]=some bs/\tt (bs.map some++(caps.map Prod.fst).map fun i=>(σ[i]?).join) M' fun c M1=>(c=true->te (bs.map some++(caps.map Prod.fst).map fun i=>(σ[i]?).join) M1 fun v M2=>qaV bd md ok un tt te ((caps.map Prod.fst).map fun i=>(σ[i]?).join) (xs.drop (i+1)) (accR++ [v]) M2 Q)/\(c=false->qaV bd md ok un tt te ((caps.map Prod.fst).map fun i=>(σ[i]?).join) (xs.drop (i+1)) accR M1 Q):=by
     split at hq4
     · rename_i bs e;exact⟨bs,e,hq4⟩
     · exact hq4.elim
    refine hpg cl C s2 H2 fp _ s6 v0 cv H6 xs[i] xv u bs _ hv0 I6' r6 rr6 ebs fun vs6 s7 rp6 I7=>?_
    have lv6:vs6.length=nm.length:=by rw[<-rp6.length];exact hb _ _ ebs
    have base:∀ {Hx:Hp},Ext H6 Hx->RepSt X.K Hx (bs.map some++(caps.map Prod.fst).map fun i=>(σ[i]?).join) (vs6.map some++cv):=fun {Hx} ex=>by
     have lb:=rp6.length;refine⟨by simp[cvl,lb],fun j r e=>?_⟩
     by_cases hj:j<bs.length
     · rw[waK (by simpa using hj),wau]at e
       cases q:bs[j]? with
       |none=>rw[q]at e;cases e
       |some r'=>
        rw[q]at e;have:r'=r:=wao (wao e);subst this;obtain⟨v,q1,q2⟩:=rp6.get q;exact⟨v,by rw[waK (by rw[waj];omega),wau,q1];rfl,Rep.ext ex _ _ q2⟩
     · obtain⟨k,rfl⟩:=Nat.exists_eq_add_of_le (Nat.le_of_not_lt hj)
       rw[List.getElem?_append_right (by simp),waj,wbj]at e
       obtain⟨v,q1,q2⟩:=cv2 k r e;exact⟨v,by rw[List.getElem?_append_right (by rw[waj];omega),waj,<-lb,wbj];exact q1,Rep.ext (e4.trans (e6.trans ex)) r v q2⟩
    have next:∀ (M8:RM) (H8:Hp) (s8:Shared) (accR':LR) (accV':LV) (its':LVl) (k':Nat),accR'.length<=i+1->
     Inv (blk X scope cl C (nm++caps.map Prod.snd) s2 H2 fp) ([(D,{ cls:=.type "list",data:=.seq its'.toArray k' })]++qdq fp s6.heap) (vs6.map some++cv) H8 s8->View X.K H8 M8->Ext H6 H8->Reps X.K H8 accR' accV'->Vals accV' its'->
     qaV bd md ok un tt te ((caps.map Prod.fst).map fun i=>(σ[i]?).join) (xs.drop (i+1)) accR' M8 Q->∃ m,m<xs.length-i/\∃ (i:Nat) (v0:List (Option V)) (H':Hp) (M':RM) (accR:LR) (accV:LV) (its:LVl) (k:Nat),m=xs.length-i/\v0.length=nm.length/\i<=xs.length/\accR.length<=i/\
     Inv (blk X scope cl C (nm++caps.map Prod.snd) s2 H2 fp) [(D,{ cls:=.type "list",data:=.seq its.toArray k })] (v0++cv) H' s8/\View X.K H' M'/\Ext H2 H'/\Reps X.K H' accR accV/\Vals accV its/\tn i s8.heap/\(∀ b∈fp,H' b=none)/\
     qaV bd md ok un tt te ((caps.map Prod.fst).map fun i=>(σ[i]?).join) (xs.drop i) accR M' Q:=by
     intro M8 H8 s8 accR' accV' its' k' hl' I8 w8 e8 ra' rl' hq8;have keep8:∀ b∈fp,∀ o,s6.heap.get? b=some o->s8.heap.get? b=some o/\H8 b=none:=fun b hb o e=>by
      have:=I8.pin (b,o) (waw _ (waw _ (qdd hb e)));exact⟨this.1,this.2.1⟩
     refine⟨xs.length-(i+1),by omega,i+1,vs6.map some,H8,M8,accR',accV',its',k',rfl,by rw[waj];exact lv6,hlt,hl',I8.unpinned,w8,e4.trans (e6.trans e8),ra',rl',T.keep _ _ _ st6 fun b hb o e=>(keep8 b hb o e).1,fun b hb=>?_,hq8⟩
     obtain⟨o,e,_⟩:=T.obj _ _ st6 b hb;exact(keep8 b hb o e).2
    refine thn (hif cl C s2 H2 fp _ s7 _ H6 (fun oc H8=>∃ M8,View X.K H8 M8/\Ext H6 H8/\(oc=true->te (bs.map some++(caps.map Prod.fst).map fun i=>(σ[i]?).join) M8 fun v M2=>qaV bd md ok un tt te ((caps.map Prod.fst).map fun i=>(σ[i]?).join) (xs.drop (i+1)) (accR++ [v]) M2 Q)/\
     (oc=false->qaV bd md ok un tt te ((caps.map Prod.fst).map fun i=>(σ[i]?).join) (xs.drop (i+1)) accR M8 Q)) I7 ⟨_,M',_,base (.refl _),w6 M' w4,hq4,fun b M8 H8 q e w=>⟨M8,w,e,q.1,q.2⟩⟩) fun oc s8 ⟨H8,I8,M8,w8,e8,qt,qf⟩=>?_
    cases oc with
    |false=>
     exact next M8 H8 s8 accR accV its k (by omega) I8 w8 e8 (Reps.ext (e6.trans e8) _ _ ra) rl (qf rfl)
    |true=>
     refine thn (hel cl C s2 H2 fp _ s8 _ H8 (fun v H9=>∃ rv M9,View X.K H9 M9/\Ext H8 H9/\Rep X.K H9 rv v/\qaV bd md ok un tt te ((caps.map Prod.fst).map fun i=>(σ[i]?).join) (xs.drop (i+1)) (accR++ [rv]) M9 Q) I8 ⟨_,M8,_,base e8,w8,qt rfl,fun rv M9 v H9 q e w r=>⟨rv,M9,w,e,r,q⟩⟩) fun y s9 zz=>?_;obtain⟨yv,H9,I9,r9,rv,M9,w9,e9,rr9,hq9⟩:=zz
     have pD9:=I9.pin (D,{ cls:=.type "list",data:=.seq its.toArray k }) (waw _ (wbs _ waz));have hlen:its.length<=i:=by rw[<-rl.length,<-ra.length];exact hal
     refine call_meets F.slot_list_append ⟨_,pD9.1,rfl⟩ F.entry_list_append (F.args_list_append_2 _ _) (PySem.list_append D its.toArray k y (by rw[wak];omega)) ⟨pD9.1,?_⟩
     have q:=PySem.IsL.update pD9.1 (fun x_1=>x_1.push y)
     have hpush:its.toArray.push y=(its++ [y]).toArray:=by simp
     rw[hpush]at q;obtain⟨k',q⟩:∃ k',(s9.heap.update D (Obj.mapSeq fun x_1=>x_1.push y)).get? D=some { cls:=.type "list",data:=.seq (its++ [y]).toArray k' }:=⟨_,q⟩
     have I10:Inv (blk X scope cl C (nm++caps.map Prod.snd) s2 H2 fp) (qdq fp s6.heap) (vs6.map some++cv) H9 { s9 with heap:=s9.heap.update D (Obj.mapSeq fun x_1=>x_1.push y),toks:=s9.toks }:=by
      refine Inv.turned (it:=D) (I9.pins_of fun p hp=>I9.pin p (waw _ (waw _ hp))) (fun b o hb e=>(Heap.get?_update_other _ _ (wa4 hb)).trans e) pD9.2.1 pD9.2.2.1 (.inr (by show s2.heap.objs.size<=D;rw[hD];exact waf _)) (fun z c e=>?_) fun p hp=>?_
      · obtain⟨v,o,ho,hd⟩:=I2.cell z c (hcl1 z c e)
        exact waq (by have:=wai ho;rw[hD]at this;exact this)
      · have hp':p∈qdq fp s6.heap:=by simpa[blk]using hp
        exact hDfp p.1 (qgV hp').1
     have I11:Inv (blk X scope cl C (nm++caps.map Prod.snd) s2 H2 fp) ([(D,{ cls:=.type "list",data:=.seq (its++ [y]).toArray k' })]++qdq fp s6.heap) (vs6.map some++cv) H9 { s9 with heap:=s9.heap.update D (Obj.mapSeq fun x_1=>x_1.push y),toks:=s9.toks }:=by
      refine I10.pins_of fun p hp=>?_
      rcases wa1.mp hp with hp|hp
      · have:p=(D,{ cls:=.type "list",data:=.seq (its++ [y]).toArray k' }):=by simpa using hp
        subst this;exact⟨q,pD9.2.1,pD9.2.2.1,pD9.2.2.2.1,fun v=>by simp⟩
      · exact I10.pin p (waw _ hp)
     exact next M9 H9 _ (accR++ [rv]) (accV++ [yv]) (its++ [y]) k' (by rw[waC,List.length_singleton];omega) I11 w9 (e8.trans e9) ((Reps.ext (e6.trans (e8.trans e9)) _ _ ra).append (Reps.cons rr9 Reps.nil)) (rl.append (.cons r9 .nil)) hq9
  · have ei:i=xs.length:=by omega
    subst ei;refine thn (T.done (blk X scope cl C (nm++caps.map Prod.snd) s2 H2 fp) rfl rfl rfl hc _ _ s' _ H' Nv I4 (fpB _ _ f4 (pD _)) st4 (hJ.stop _ H' M' e4 w4 (by rw[List.drop_length]at hq4;exact hq4.1) (waf _))) fun r s5 ⟨hr,I5⟩=>.inl ⟨hr,?_⟩
    rw[List.drop_length]at hq4;obtain⟨hok4,hq4⟩:=hq4;obtain⟨m5,hn5,_⟩:=I5.loc;have pD5:=I5.pin (D,{ cls:=.type "list",data:=.seq its.toArray k }) (waw _ waz);have hC5:H' C=none:=I5.free;have lC:X.env.locals<C:=wam I2.lt (by rw[hD];exact hCle)
    obtain⟨HD,oHD,wHD,qHD⟩:∃ HD:HO,(∀ h':Heap,h'.get? D=some { cls:=.type "list",data:=.seq its.toArray k }->accV.length<=sizeLine->ObjOk X.prog X.w (upd H' D HD) h' D HD)/\(∀ o u,HD= .frz o u->qlD u=false)/\∃ H5,Thaw X.H₀ (upd H' D HD) H5/\Q0 (.ref D) H5/\H5 C=none:=by
     have keyD:∀ (HD:HO),∃ H5,Thaw X.H₀ (upd H' D HD) H5/\H5 C=none/\∃ H4,ExtW H' H4/\Ext H H4/\View X.K H4 (un M')/\H4 D=none/\H5=upd H4 D HD:=fun HD=>by
      obtain⟨H4,t4,e4',x4',v4⟩:=hJ.thaw H' M' e4 w4 hok4;rcases t4 with h4|⟨d,ob,u,h1,du,h0,rfl⟩
      · rw[h4]at v4 x4'
        exact⟨_,.inl rfl,by rw[qaa (wa4 hDC)];exact hC5,H',(Ext.refl _).w,x4',v4,pD5.2.1,rfl⟩
      · have nd:d≠D:=fun z=>by rw[z,pD5.2.1]at h1;cases h1
        have nc:d≠C:=fun z=>by rw[z,hC5]at h1;cases h1
        have h1':upd H' D HD d=some (.frz ob u):=by rw[qaa nd];exact h1
        have eq:upd (upd H' D HD) d u=upd (upd H' d u) D HD:=by
         funext b;unfold upd
         by_cases b1:b=d
         · subst b1;rw[wag rfl,wad nd,wag rfl]
         · rw[wad b1]
           by_cases b2:b=D
           · rw[wag b2,wag b2]
           · rw[wad b2,wad b2,wad b1]
        exact⟨_,.inr ⟨d,ob,u,h1',du,h0,rfl⟩,by rw[qaa nc.symm,qaa (wa4 hDC)];exact hC5,_,e4',x4',v4,by rw[qaa nd.symm];exact pD5.2.1,eq⟩
     cases md with
     |false=>
      obtain⟨H5,t5,c5,H4,x4,y4,v4,n4,rfl⟩:=keyD (.frz { cls:=.type "list",data:=.seq its.toArray k } (.lst accV));exact⟨.frz { cls:=.type "list",data:=.seq its.toArray k } (.lst accV),fun h' e z=>⟨e,z,its,k,rl,e⟩,fun o u z=>by cases z;rfl,_,t5,hk _ _ _ _ hq4 (y4.trans (Ext.new n4)) (v4.new n4) (qbZ n4 (Reps.extw x4 _ _ ra)),c5⟩
     |true=>
      obtain⟨H5,t5,c5,H4,x4,y4,v4,n4,rfl⟩:=keyD (.lst accV);exact⟨.lst accV,fun h' e z=>⟨z,its,k,rl,e⟩,fun o u z=>(by cases z),_,t5,hk _ _ _ _ (hq4 D (v4.free n4)) (y4.trans (Ext.new n4)) (v4.newPut n4 ⟨accV,rfl,Reps.extw (x4.trans (Ext.new n4).w) _ _ ra⟩) (by simp only[Rep]),c5⟩
    obtain⟨H5,t5,q5,c5⟩:=qHD;refine fin D C s5 m5 H5 hn5 (fun h' sb=>t5.inv ?_) q5 c5 (Nat.ne_of_gt lC) (was I2.ok.above (wbm lC)) (fun y c e=>?_) fun p hp=>?_
    rotate_left
    · obtain⟨v,o,ho,_⟩:=I2.cell y c e
      exact waq (wam (wai ho) (by rw[hD];exact hCle))
    · exact waq (wam (wai (I2.pin p hp).1) (by rw[hD];exact hCle))
    have hDh:h'.get? D=some { cls:=.type "list",data:=.seq its.toArray k }:=sb.extBut _ _ hDC pD5.1;have hz':accV.length<=sizeLine:=by rw[<-ra.length];omega
    have hok5:HOk X.prog X.w (upd H' D HD) h':=fun b u q=>by
     by_cases hb:b=D
     · subst hb;rw[qag]at q;cases q
       exact oHD h' hDh hz'
     · rw[qaa hb]at q
       refine(I5.hok b u q).stay (fun c v hcb e=>sb.extBut c v ?_ e) (fun c e=>?_) fun c ys e=>?_
       · rcases hcb with rfl|e'
         · exact qab q hC5
         · exact qab e' hC5
       · rw[qaa (qab e pD5.2.1)];exact e
       · rw[qaa (qab e pD5.2.1)];exact e
    have un5:Un (frs X.stack) fp H2 (upd H' D HD) s2.heap h':=by
     have B:Un (frs X.stack) fp H2 H' s2.heap s5.heap:=I5.base;have nC:∀ b o,s2.heap.get? b=some o->b≠C:=fun b o e=>waq (wam (wai e) (by rw[hD];exact hCle))
     have nD:∀ b o,s2.heap.get? b=some o->b≠D:=fun b o e=>waq (by have:=wai e;rw[hD]at this;exact this)
     refine⟨fun b o a1 a2 a3 a4=>sb.extBut b o (nC b o a1) (B.keep b o a1 a2 a3 a4),fun b o a1 a2 a3 a4=>?_,fun b o a1 a2 a4=>?_,fun b o a1 a4=>?_,fun b ys a=>?_,fun b o u a=>?_,fun b ps a=>?_⟩
     · obtain⟨sl,e⟩:=B.slot b o a1 a2 a3 a4
       exact⟨sl,sb.extBut b _ (nC b o a1) e⟩
     · rw[qaa (nD b o a1)];exact B.free b o a1 a2 a4
     · obtain⟨o',e⟩:=B.there b o a1 a4
       exact⟨o',sb.extBut b o' (nC b o a1) e⟩
     · have e:=B.tups b ys a;rw[qaa (qab e pD5.2.1)];exact e
     · have e:=B.frzs b o u a;rw[qaa (qab e pD5.2.1)];exact e
     · obtain⟨more,e⟩:=B.tbls b ps a;exact⟨more,by rw[qaa (qab e pD5.2.1)];exact e⟩
    have I6:Inv X pins σ0 (upd H' D HD) { s5 with heap:=h' }:=I2.call' (ch:=fp) I5.os un5 hok5 I5.bare fun b hb=>⟨(f2 b hb).2.2.2.1,(f2 b hb).2.1,(f2 b hb).2.2.2.2.1,(f2 b hb).2.2.2.2.2⟩
    exact I6
 exact codeAny_compStart_list (W _ rfl) (T.self X.A 0 _ _ _ (T.keep _ _ _ st2 fun b _ o e=>old b o e) (W _ rfl))
def qgw:LEx->Option (LSt)
 | []=>some []
 | .Name x _::r=>(qgw r).map (x:: ·)
 |_::_=>none
def qEj(n:Nat):RV->Option (LR)
 | .tup xs=>if xs.length=n then some xs else none
 |_=>none
def qEk(r:RV):Option (LR):=some [r]
theorem qi9{es:LEx}{xs:LSt}:∀ (es:LEx) (xs:LSt) (j:Nat),qgw es=some xs->X.N.Nodup->(∀ i x,xs[i]? =some x->X.N[j+i]? =some x)->(∀ x∈xs,X.env.scope.names.lookup x=some .local)->PGs X es (qnT (List.range' j xs.length))/\(assignEach es X.env).length=xs.length/\(assignEach es X.env).findIdx? (·.1)=none
 | [],xs,j,h,_,_,_=>by cases h;exact⟨qk0,rfl,rfl⟩
 |e::r,xs,j,h,hnd,hN,hl=>by
  cases e<;>first|(cases h;done)|skip
  rename_i x p;cases e:qgw r with
  |none=>simp only[qgw,e]at h;cases h
  |some ys=>
   simp only[qgw,e]at h;cases h;obtain⟨a,b,c⟩:=qi9 (es:=es) (xs:=xs) r ys (j+1) e hnd (fun i y hy=>by have:=hN (i+1) y (by simpa using hy);rw[<-this];congr 1;omega) fun y hy=>hl y (wat _ hy)
   have hx:=hl x waz;have hd:(assignEach (.Name x p::r) X.env)=(false,assign (.Name x p) X.env)::assignEach r X.env:=rfl;refine⟨?_,by rw[hd,wal,b];rfl,?_⟩
   · rw[wal,List.range'_succ]
     exact qi1 (qfN (i:=j) hnd (by simpa using hN 0 x rfl) (.inl hx) (.inr hx)) a
   · rw[hd,List.findIdx?_cons,c];rfl
theorem qlZ{H:Hp}{Q:L2.St->Hp->Prop}:∀ (vs:LV) (pre vs0 cv:List (Option V)),vs0.length=vs.length->Q (pre++(vs.map some++cv)) H->qnT (List.range' pre.length vs.length) vs (pre++(vs0++cv)) H Q
 | [],pre,vs0,cv,h,q=>by
  have:vs0= []:=List.eq_nil_of_length_eq_zero h;subst this;exact⟨rfl,q⟩
 |v::vs,pre,vs0,cv,h,q=>by
  cases vs0 with
  |nil=>cases h
  |cons o r=>
   rw[wal,List.range'_succ];refine⟨v,vs,rfl,?_⟩;show qnT _ vs ((pre++(o::r++cv)).set pre.length (some v)) H Q;have e:(pre++(o::r++cv)).set pre.length (some v)=(pre++ [some v])++(r++cv):=by simp
   rw[e];have:=qlZ (H:=H) (Q:=Q) vs (pre++ [some v]) r cv (by simpa using h) (by simpa using q)
   simpa using this
def qrP(tup:Bool)(tg:Expr)(nm:LSt):Prop:=match tup,tg with
 |false,.Name x _=>nm= [x]
 |true,.Tuple es _ _=>qgw es=some nm
 |_,_=>False
def qod(tup:Bool)(n:Nat):RV->Option (LR):=match tup with
 |true=>qEj n
 |false=>qEk
theorem qjk{elt iter tg:Expr}{nm:LSt}{tup md:Bool}{scope:Scope}{pos:Pos}{ti:RTI}{tt:RTT}{te:RTE}{ifs:LEx}(caps:List (Nat×Str)){osc:Scope}{oN:LSt}(htg:qrP tup tg nm)
 (hc:X.calm=true) (hi:RPI X tg iter ti)
 (hif:∀ cl C s H fp,qrn (blk X scope cl C (nm++caps.map Prod.snd) s H fp) ifs tt)
 (hel:∀ cl C s H fp,RPE (blk X scope cl C (nm++caps.map Prod.snd) s H fp) elt te)
 (hX:X.env.scope=osc) (hN:X.N=oN)
 (hcaps:∀ p∈caps,oN[p.1]? =some p.2/\scope.names.lookup p.2=some .free/\(osc.names.lookup p.2=some .cell∨osc.names.lookup p.2=some .free))
 (hfr:∀ y∈scope.names,y.2= .free->(osc.names.lookup y.1=some .cell∨osc.names.lookup y.1=some .free))
 (hcell:∀ y∈scope.names,y.2≠.cell) (hkind:scope.kind= .function) (hnames:∀ y∈scope.names,y.2= .local->scope.names.lookup y.1=some .local) (hx:∀ x∈nm,scope.names.lookup x=some .local) (hnd:(nm++caps.map Prod.snd).Nodup)
 (hs:∀ v,foldedSetIterable iter X.env v=pure v) {pos':Pos} {pins:LAO} {s:Shared} {σ0:L2.St} {H:Hp} {Q0:VK} (I:Inv X pins σ0 H s) (hw:up X.K (qfk (qod tup nm.length) md ti (caps.map Prod.fst) tt te) σ0 H Q0) {use:Option (Value->Sem Unit)} {PP:VSP}
 (fin:∀ (D C:Addr) (s5:Shared) (m5:SOV) (H5:Hp),s5.heap.Ns C m5->(∀ h',Heap.SameBut C s5.heap h'->Inv X pins σ0 H5 { s5 with heap:=h' })->Q0 (.ref D) H5->H5 C=none->C≠X.env.locals->X.s₀.heap.objs.size<=C->(∀ y c,X.env.cells.lookup y=some c->c≠C)->(∀ p∈X.pn++pins,p.1≠C)->compPost (model X.prog X.w) X.A X.xe use PP (.ref D) C (.ok .next) s5):
 wpAny (model X.prog X.w) X.A (comprehension (.ListComp elt [⟨tg,iter,ifs,0⟩] scope pos) scope X.env pos' (newList []) false (eval iter X.env) use) PP X.xe s:=by
 refine qmj (bd:=qod tup nm.length) (md:=md) (nm:=nm) caps hc hi hif hel hX hN hcaps hfr hcell hkind hnames (fun r bs e=>?_) (fun cl C s2 H2 fp pins' s6 vs0 cv H6 rv xv u bs Q1 hl I6 r6 rr6 eb hQ=>?_) hs I hw fin
 · cases tup with
   |false=>
    cases tg<;>first|(exact False.elim htg)|skip
    have htg:nm=_:=htg;subst htg;cases e;rfl
   |true=>
    cases r<;>first|(cases(show none=some bs from e))|skip
    rename_i xs;have e':(if xs.length=nm.length then some xs else none)=some bs:=e
    split at e'
    · rename_i hh;cases e';exact hh
    · cases e'
 · have hls:∀ x∈nm,(blk X scope cl C (nm++caps.map Prod.snd) s2 H2 fp).env.scope.names.lookup x=some .local:=fun x h=>lookup_relabel_local (hx x h)
   cases tup with
   |false=>
    cases tg<;>first|(exact False.elim htg)|skip
    rename_i x px;have htg:nm=_:=htg;subst htg;cases eb;obtain⟨v0,rfl⟩:=List.length_eq_one_iff.mp hl;have hx0:=hls x (by simp)
    refine thn (qfN (X:=blk X scope cl C (x::caps.map Prod.snd) s2 H2 fp) (i:=0) hnd rfl (.inl hx0) (.inr hx0) _ s6 _ H6 xv u (fun σ' H'=>σ'=(some xv::cv)/\H'=H6) I6 r6 ⟨rfl,rfl⟩) fun _ s7 h7=>?_
    obtain⟨σ7,H7,I7,q7,q7'⟩:=h7;subst q7 q7';exact hQ [xv] s7 (Reps.cons rr6 Reps.nil) I7
   |true=>
    cases tg<;>first|(exact False.elim htg)|skip
    rename_i es tk tp;have htg:qgw es=some nm:=htg;cases rv<;>first|(cases(show none=some bs from eb))|skip
    rename_i xs;have e':(if xs.length=nm.length then some xs else none)=some bs:=eb
    split at e'
    · rename_i hh;cases e'
      simp only[Rep]at rr6;obtain⟨pa,pvs,rfl,sq6,rp6⟩:=rr6;have hlen:pvs.length=nm.length:=by rw[<-rp6.length];exact hh
      obtain⟨g1,g2,g3⟩:=qi9 (X:=blk X scope cl C (nm++caps.map Prod.snd) s2 H2 fp) (es:=es) (xs:=nm) es nm 0 htg hnd (fun i x e=>by
       show(nm++caps.map Prod.snd)[0+i]? =some x;rw[waL,waK (wax.mp e).1];exact e) hls
      have pg:PG (blk X scope cl C (nm++caps.map Prod.snd) s2 H2 fp) (.Tuple es tk tp) (qAH X.K nm.length (qnT (List.range' 0 nm.length))):=qoC (n:=nm.length) hc g1 g2 g3;refine thn (pg _ s6 _ H6 _ u (fun σ' H'=>σ'=(pvs.map some++cv)/\H'=H6) I6 r6 ⟨pa,pvs,rfl,SqT.of sq6,hlen,?_⟩) fun _ s7 h7=>?_
      · have:=qlZ (H:=H6) (Q:=fun σ' H'=>σ'=(pvs.map some++cv)/\H'=H6) pvs [] vs0 cv (by rw[hlen];exact hl) ⟨rfl,rfl⟩
        rw[hlen]at this;exact this
      · obtain⟨σ7,H7,I7,q7,q7'⟩:=h7
        subst q7 q7';exact hQ pvs s7 rp6 I7
    · cases e'
end
def qgm:RV->Option Key
 | .int i=>some (.inl i)
 | .str x=>some (.inr x)
 |_=>none
def qbC{α:Type}(kvs:List (Key×α))(k:Key):Option α:=(kvs.find? fun p=>decide (p.1=k)).map (·.2)
theorem qdj{K:Frg}{H:Hp}{a:RV}{x:V}{k:Key}(e:qgm a=some k)(r:Rep K H a x):x=kV k:=by
 cases a with
 |int i=>cases e;simp only[Rep]at r;exact r
 |str y=>cases e;simp only[Rep]at r;exact r
 |_=>cases e
theorem qcB{K:Frg}{H:Hp}{k:Key}:∀ {kvs:LKR} {ws:List (Key×V)},RepP K H kvs ws->(∀ r,qbC kvs k=some r->∃ v,qeU ws k=some v/\Rep K H r v)/\(qbC kvs k=none->qeU ws k=none)
 | [],ws,h=>by
  have h:ws= []:=h;subst h;exact⟨fun r e=>(by cases e),fun _=>rfl⟩
 |(j,x)::t,ws,h=>by
  obtain⟨v,u,rfl,h1,h2⟩:=h;have ih:=qcB (k:=k) h2;unfold qbC;rw[waN]
  by_cases hj:j=k
  · rw[wba (show(j,x).1=k from hj)]
    refine⟨fun r e=>⟨v,qcz (p:=(j,v)) hj,?_⟩,fun e=>(by cases e)⟩
    cases e;exact h1
  · rw[waB (show ¬(j,x).1=k from hj)]
    refine⟨fun r e=>?_,fun e=>?_⟩
    · rw[qbM (p:=(j,v)) hj];exact ih.1 r e
    · rw[qbM (p:=(j,v)) hj];exact ih.2 e
theorem qdr:∀ (ws acc:List (Key×V)),((acc++ws).map Prod.fst).Nodup->qcF acc ws=acc++ws
 | [],acc,_=>by simp[qcF]
 |p::r,acc,h=>by
  have e:qeU acc p.1=none:=by
   cases q:qeU acc p.1 with
   |none=>rfl
   |some v=>
    have m:=qpi q;rw[wbw,wan,List.nodup_append]at h;exact waI rfl (h.2.2 p.1 m p.1 waz)
  show qcF (putK acc p.1 p.2) r=_;rw[qnd _ e,qdr r (acc++ [(p.1,p.2)]) (by simpa using h)]
  simp
structure KTab(P:Program)(w:World)(K:Frg)(mg:SOV)(x:Str)(kvs:LKR):Prop where
 ex:∃ (a:Addr) (vs:List (Key×Value)) (ws:List (Key×V)),mg x=some (.ref a)/\(a==sysModules)=false/\(∀ h:Heap,K.In h->h.DictOf (qai P w) a vs)/\KV ws vs/\∀ H,RepP K H kvs ws
noncomputable def qmJ (w:World):List DictEntry->List (Str×Value)->Prop
 | [],[]=>True
 |e::es,(x,v)::r=>(∃ t,e.key= .str x t)/\e.hash=hashStr w x/\e.val=v/\qmJ w es r
 |_,_=>False
theorem qey{P:Program}{w:World}:∀ {es:List DictEntry} {vs:List (Str×Value)},qmJ w es vs->
 (∀ e∈es,∃ k,(qai P w).is k e.key=true/\e.hash=(qai P w).hash k)/\Pairs (qai P w) es (vs.map fun p=>((Sum.inr p.1:Key),p.2))
 | [],[],_=>⟨fun _ h=>(by cases h),Pairs.nil⟩
 |e::es,(x,v)::r,h=>by
  obtain⟨⟨t,h1⟩,h2,h3,h4⟩:=h;obtain⟨ih1,ih2⟩:=qey (P:=P) (w:=w) h4;have hi:(qai P w).is (.inr x) e.key=true:=by rw[h1];exact qep P w x t
  refine⟨fun e' he=>?_,?_⟩
  · rcases waH.mp he with rfl|he
    · exact⟨.inr x,hi,h2⟩
    · exact ih1 e' he
  · subst h3
    exact Pairs.cons hi rfl ih2
theorem qen:∀ {l:LSt},l.Nodup->(l.map (Sum.inr:Str->Key)).Nodup
 | [],_=>List.nodup_nil
 |a::r,h=>by
  obtain⟨h1,h2⟩:=waU.mp h;rw[wan];refine waU.mpr ⟨fun m=>?_,qen h2⟩
  obtain⟨b,hb,e⟩:=waE.mp m;cases e;exact h1 hb
theorem qlp{P:Program}{w:World}{K:Frg}{mg:SOV}{x:Str}{a:Addr}{es:Array DictEntry}{ep:Nat}{sl:Array (OVl)}{vs:List (Str×Value)}{kvs:LKR}{ws:List (Key×V)}
 (hm:mg x=some (.ref a)) (l:K.lookup a=some ⟨.type "dict",none,.dict es ep,sl⟩) (ha:(a==sysModules)=false) (hr:qmJ w es.toList vs) (hn:(vs.map Prod.fst).Nodup)
 (hsl:Obj.ExactDict ⟨.type "dict",none,.dict es ep,sl⟩) (hk:KV ws (vs.map fun p=>((Sum.inr p.1:Key),p.2))) (hp:∀ H,RepP K H kvs ws):KTab P w K mg x kvs:=by
 obtain⟨h1,h2⟩:=qey (P:=P) hr;refine⟨a,_,ws,hm,ha,fun h X=>⟨_,es,ep,X _ _ l,hsl,rfl,fun e he=>h1 e (by simpa using he),h2,?_⟩,hk,hp⟩
 have:(vs.map fun p=>((Sum.inr p.1:Key),p.2)).map (·.1)=(vs.map Prod.fst).map Sum.inr:=by simp[waG,Function.comp_def]
 rw[this];exact qen hn
section
variable {X:Cx}
noncomputable def quU (kvs:LKR)(te:RTE):RTE:=fun σ M Q=>te σ M fun k M1=>match qgm k with
 |some key=>(match qbC kvs key with|some v=>Q v M1|none=>False)
 |none=>False
theorem qDq{x:Str}{kvs:LKR}{e:Expr}{te:RTE}{p pos:Pos}(T:KTab X.prog X.w X.K X.mg x kvs)(he:RPE X e te)(hs:qvh e:=by intro _ _;rfl)(hg:Gl X x:=by rfl)(hd:(x==("__debug__":Str))=false:=by decide):
 RPE X (.Subscript (.Name x p) e pos) (quU kvs te):=by
 obtain⟨a,vs,ws,hm,ha,hD,hk,hr⟩:=T.ex;intro pins s σ0 H Q0 I h;obtain⟨σ,M,Q,hs',hv,ht,hq⟩:=h;refine qkq PySem.F.slot_dict_getitem.lookup hs (qb8 I hg hm (thn (he pins s σ0 H (fun v H1=>∃ r M1,Rep X.K H1 r v/\Ext H H1/\View X.K H1 M1/\(match qgm r with
  |some key=>(match qbC kvs key with|some v=>Q v M1|none=>False)
  |none=>False)) I ⟨σ,M,_,hs',hv,ht,fun r M1 v H1 q e w r1=>⟨r,M1,r1,e,w,q⟩⟩) fun iv s2 ⟨y,H2,I2,ry,r,M2,rr,e2,w2,q2⟩=>?_) hd)
 have dd:=hD _ I2.kIn;refine⟨dd.typeIs,?_⟩;cases ek:qgm r with
 |none=>rw[ek]at q2;exact q2.elim
 |some key=>
  rw[ek]at q2;simp only at q2;cases el:qbC kvs key with
  |none=>rw[el]at q2;exact q2.elim
  |some rv=>
   rw[el]at q2;simp only at q2;obtain⟨v,e1,r1⟩:=(qcB (k:=key) (hr H2)).1 rv el;have:=qdj ek rr;subst this;obtain⟨w',hw,rw'⟩:=RelO.some_of (v:=v) (o:=valueAt vs key) (by rw[<-e1];exact hk.val key)
   exact wpAny_getItem_of (qdk ry) dd.mapOf hw ⟨v,H2,I2.tok _,rw',hq rv M2 v H2 q2 e2 w2 r1⟩
theorem qjt{K:Frg}{H:Hp}{kvs:LKR}{ws:List (Key×V)}{vs:List (Key×Value)}{key:Key}(hk:KV ws vs)(hr:RepP K H kvs ws):(valueAt vs key).isSome=(qbC kvs key).isSome:=by
 rw[<-(hk.val key).isSome_eq];cases el:qbC kvs key with
 |none=>rw[(qcB (k:=key) hr).2 el];rfl
 |some rv=>obtain⟨v,e1,_⟩:=(qcB (k:=key) hr).1 rv el;rw[e1];rfl
def drop(M:RM)(p:Addr):RM:=fun b=>if b=p then none else M b
def kvI(l:List (Str×Int)):LKR:=l.map fun p=>((Sum.inr p.1:Key),RV.int p.2)
def wsI(l:List (Str×Int)):List (Key×V):=l.map fun p=>((Sum.inr p.1:Key),V.int p.2)
theorem qor{K:Frg}{H:Hp}:∀ l:List (Str×Int),RepP K H (kvI l) (wsI l)
 | []=>rfl
 |p::r=>⟨V.int p.2,wsI r,rfl,by simp only[Rep],qor r⟩
end
theorem qwh{P:Program}{w:World}{K:Frg}{mg:SOV}{base:Heap}{x qual:Str}{st:Stmt}{f:Addr}{fd:FuncData}{N ps:LSt}{k:Nat}{sp:RSp}{t:RTS}(F:Fun K x qual st f fd)(S:qdn N ps (qas st))
 (len:∀ rs M Q,sp rs M Q->rs.length=ps.length)
 (term:∀ (cdv:Value),fd.code=cdv->∀ (A:Around) (outer:List Env) (s:Shared) (H:Hp) (E:XK),Room k (A.deeper (envOfC qual (qas st) s.heap.objs.size f cdv))->qmN (qo7 CX0 P w K mg base N qual (qas st) f cdv A outer s H E).nox (qcy st) t)
 (body:∀ rs M Q,sp rs M Q->t { nx:=fun _ M'=>Q .non M',rt:=Q } (qbY N rs) M):qc4 P w K mg base CX0 (k+1) f fd ps (qfB K sp):=by
 refine F.ok S (fun vs H Q0 E h=>?_) fun cdv hcd A outer s H vs Q0 E hr h=>?_
 · obtain⟨rs,M,Q,rr,hv,hq,hk⟩:=h
   rw[<-rr.length];exact len rs M Q hq
 · obtain⟨rs,M,Q,rr,hv,hq,hk⟩:=h
   refine⟨_,term cdv hcd A outer s H E hr,qbY N rs,M,{ nx:=fun _ M'=>Q .non M',rt:=Q },qks rr,hv,body rs M Q hq,⟨fun σ M' σ0 H' q e w r=>hk .non M' .non H' q e w (by simp only[Rep]),hk,fun _ _ _ _ z=>z.elim,fun _ _ _ _ z=>z.elim⟩⟩
theorem qus:bootBuiltins "len" =some (.builtin "len"):=by decide+kernel
theorem qge:bootBuiltins "isinstance" =some (.builtin "isinstance"):=by decide+kernel
theorem quq:bootBuiltins "ord" =some (.builtin "ord"):=by decide+kernel
theorem quu:bootBuiltins "all" =some (.builtin "all"):=by decide+kernel
theorem qjm:bootBuiltins "tuple" =some (.type "tuple"):=by decide+kernel
theorem qmr:bootBuiltins "list" =some (.type "list"):=by decide+kernel
theorem qpa:bootBuiltins "int" =some (.type "int"):=by decide+kernel
theorem qrf:bootBuiltins "bool" =some (.type "bool"):=by decide+kernel
theorem qup:bootBuiltins "str" =some (.type "str"):=by decide+kernel
section
variable {X:Cx}{pos:Pos}
theorem qpE(hm:X.mg "int" =none)(hg:Gl X "int":=by rfl):RPE X (.Name "int" pos) (rC (.ty "int")):=qkH hm qpa (v:=.ty "int") rfl (fun H=>by simp only[Rep]) hg
theorem qm0(hm:X.mg "bool" =none)(hg:Gl X "bool":=by rfl):RPE X (.Name "bool" pos) (rC (.ty "bool")):=qkH hm qrf (v:=.ty "bool") rfl (fun H=>by simp only[Rep]) hg
theorem qpD(hm:X.mg "str" =none)(hg:Gl X "str":=by rfl):RPE X (.Name "str" pos) (rC (.ty "str")):=qkH hm qup (v:=.ty "str") rfl (fun H=>by simp only[Rep]) hg
theorem qkA(hm:X.mg "tuple" =none)(hg:Gl X "tuple":=by rfl):RPE X (.Name "tuple" pos) (rC (.ty "tuple")):=qkH hm qjm (v:=.ty "tuple") rfl (fun H=>by simp only[Rep]) hg
theorem qmZ(hm:X.mg "list" =none)(hg:Gl X "list":=by rfl):RPE X (.Name "list" pos) (rC (.ty "list")):=qkH hm qmr (v:=.ty "list") rfl (fun H=>by simp only[Rep]) hg
def qya(mg:SOV)(x:Str)(i:Int):Prop:=∃ t,mg x=some (.int i t)
theorem rgi{x:Str}{i:Int}(h:qya X.mg x i)(hg:Gl X x:=by rfl)(hd:(x==("__debug__":Str))=false:=by decide):RPE X (.Name x pos) (rC (.int i)):=by
 obtain⟨t,hm⟩:=h;exact qsd hm (v:=.int i) ⟨t,rfl⟩ (fun H=>by simp only[Rep]) hg hd
def quK(K:Frg)(a:Addr)(ss:LSt):Prop:=∃ (o:Obj) (its:Array Value) (n:Nat),K.lookup a=some o/\o.cls= .type "tuple"/\o.data= .seq its n/\its.size<=sizeLine/\Vals (ss.map V.str) its.toList
def qry(K:Frg)(mg:SOV)(x:Str)(ss:LSt):Prop:=∃ a,mg x=some (.ref a)/\quK K a ss
def rCT(K:Frg)(ss:LSt):RTE:=fun _ M Q=>∀ p,quK K p ss->Q (.ref p) M
theorem rgt{x:Str}{ss:LSt}(h:qry X.K X.mg x ss)(hg:Gl X x:=by rfl)(hd:(x==("__debug__":Str))=false:=by decide):RPE X (.Name x pos) (rCT X.K ss):=by
 obtain⟨a,hm,hr⟩:=h;refine PE.imp (qsd (r:=.ref a) hm (v:=.ref a) rfl (fun H=>by simp only[Rep]) hg hd) fun σ0 H Q0 h=>?_
 obtain⟨σ,M,Q,hs,hv,ht,hk⟩:=h;exact⟨σ,M,Q,hs,hv,ht a hr,hk⟩
end
theorem qpn{K:Frg}{mg:SOV}{x:Str}{a:Addr}{ss:LSt}{its:Array Value}{n:Nat}{d:Option Addr}{sl:Array (OVl)}(hm:mg x=some (.ref a))(l:K.lookup a=some ⟨.type "tuple",d,.seq its n,sl⟩)(hz:its.size<=sizeLine)
 (hv:Vals (ss.map V.str) its.toList):qry K mg x ss:=⟨a,hm,_,its,n,l,rfl,rfl,hz,hv⟩
structure qpg(N:LSt)(sc:Scope):Prop where
 nd:N.Nodup
 loc:∀ x∈N,sc.names.lookup x=some .local∨sc.names.lookup x=some .cell
 dbg:∀ x∈N,(x==("__debug__":Str))=false/\(x==("__classdict__":Str))=false
section
variable {X:Cx}{x:Str}{pos pos':Pos}
structure VisB(X:Cx):Prop where
 vis:∀ x∈X.N,Vis X.env.scope x
 dbg:∀ x∈X.N,(x==("__debug__":Str))=false/\(x==("__classdict__":Str))=false
theorem glB{scope:Scope}{cl:List (Str×Addr)}{C:Addr}{Nc:LSt}{s:Shared}{H:Hp}{fp:List Addr}(h:scope.names.lookup x=some .globalImplicit):Gl (blk X scope cl C Nc s H fp) x:=by
 show(scope.names.map (qgO X.env)).lookup x=_;rw[qbO];rw[qbP]at h;cases e:scope.names.find? fun p=>x==p.1 with
 |none=>rw[e]at h;cases h
 |some p=>
  rw[e]at h;have h':p.2= .globalImplicit:=wao h;show some (qgO X.env p).2=_;rcases qfI X.env p with z|z
  · rw[z,h']
  · rw[h']at z;cases z.2
end
noncomputable def qmI (w:World):List DictEntry->List (Str×Int)->Prop
 | [],[]=>True
 |e::es,(x,i)::r=>(∃ t,e.key= .str x t)/\e.hash=hashStr w x/\(∃ t,e.val= .int i t)/\qmI w es r
 |_,_=>False
theorem qoM{w:World}:∀ {es:List DictEntry} {l:List (Str×Int)},qmI w es l->∃ vs:List (Str×Value),qmJ w es vs/\vs.map Prod.fst=l.map Prod.fst/\KV (wsI l) (vs.map fun p=>((Sum.inr p.1:Key),p.2))
 | [],[],_=>⟨[],trivial,rfl,.nil⟩
 |e::es,(x,i)::r,h=>by
  obtain⟨h1,h2,⟨t,h3⟩,h4⟩:=h;obtain⟨vs,a,b,c⟩:=qoM h4;exact⟨(x,.int i t)::vs,⟨h1,h2,h3,a⟩,by simp[b],.cons ⟨rfl,t,rfl⟩ c⟩
theorem qnM{P:Program}{w:World}{K:Frg}{mg:SOV}{x:Str}{a:Addr}{es:Array DictEntry}{ep:Nat}{l:List (Str×Int)}
 (hm:mg x=some (.ref a)) (lk:K.lookup a=some ⟨.type "dict",none,.dict es ep,#[]⟩) (ha:(a==sysModules)=false) (hr:qmI w es.toList l) (hn:(l.map Prod.fst).Nodup):KTab P w K mg x (kvI l):=by
 obtain⟨vs,h1,h2,h3⟩:=qoM hr;exact qlp hm lk ha h1 (by rw[h2];exact hn) ⟨rfl,rfl,rfl⟩ h3 fun H=>qor l
theorem qmu{h:Heap}{e:Value->Bool}{p:RV->Bool}:∀ {xs:LR} {us:LVl},Dens h xs us->(∀ x∈xs,∀ u,Den h x u->e u=p x)->us.any e=xs.any p
 | [],us,d,_=>by simp only[Dens]at d;subst d;rfl
 |x::xs,us,d,k=>by
  simp only[Dens]at d;obtain⟨u,r,rfl,d1,d2⟩:=d;rw[wa7,wa7,k x waz u d1,qmu d2 fun y hy=>k y (wat _ hy)]
theorem qld{h:Heap}:∀ {xs:LR} {us:LVl},Dens h xs us->∀ u∈us,∃ x∈xs,Den h x u
 | [],us,d,u,hu=>by simp only[Dens]at d;subst d;cases hu
 |x::xs,us,d,u,hu=>by
  simp only[Dens]at d;obtain⟨w,r,rfl,d1,d2⟩:=d;rcases waH.mp hu with rfl|hu
  · exact⟨x,waz,d1⟩
  · obtain⟨y,hy,dy⟩:=qld d2 u hu
    exact⟨y,wat _ hy,dy⟩
open Classical in
noncomputable def eqD (h:Heap)(a:RV)(w:Value):Bool:=if q:∃ r,okR 15 r=true/\Den h r w then eqR (choose q) a else false
theorem qo5{h:Heap}{a x:RV}{u:Value}(o:okR 15 x=true)(d:Den h x u):eqD h a u=eqR x a:=by
 have q:∃ r,okR 15 r=true/\Den h r u:=⟨x,o,d⟩;unfold eqD;rw[dif_pos q];have e:=qiC 15 _ x u (Classical.choose_spec q).1 o (Classical.choose_spec q).2 d;rw[e]
def inR(x:RV)(xs:LR):Bool:=xs.any fun y=>eqR y x
noncomputable def quY (neg:Bool):RR2:=fun x y M Q=>match y with
 | .tup xs=>okR 15 x=true/\xs.all (okR 15)=true/\Q (.bl (if neg then !inR x xs else inR x xs)) M
 | .ls xs=>okR 15 x=true/\xs.all (okR 15)=true/\Q (.bl (if neg then !inR x xs else inR x xs)) M
 |_=>False
section
variable {X:Cx}
theorem qcd{s:Shared}{A:Around}{xs:LR}{its:LVl}{a:RV}{v:Value}(hu:A.units+15<cLine)(os:xs.all (okR 15)=true)(oa:okR 15 a=true)(d:Dens s.heap xs its)(da:Den s.heap a v):
 (∀ w,w∈its.toArray->SeqAt.EqAt A s w v (eqD s.heap a w))/\its.toArray.any (eqD s.heap a)=inR a xs:=by
 have os':∀ x∈xs,okR 15 x=true:=by simpa[wap]using os
 refine⟨fun w hw=>?_,?_⟩
 · obtain⟨x,hx,dx⟩:=qld d w (by simpa using hw)
   rw[qo5 (os' x hx) dx];exact qf9 15 x a A s w v (os' x hx) oa dx da hu
 · rw[show its.toArray.any (eqD s.heap a)=its.any (eqD s.heap a) by simp]
   exact qmu d fun x hx u du=>qo5 (os' x hx) du
theorem qnw{xs:LR}(os:xs.all (okR 15)=true):okR 16 (.tup xs)=true/\okR 16 (.ls xs)=true:=⟨os,os⟩
theorem oin(hu:X.A.units+64<cLine):ROp X (compareOp .In) (quY false):=by
 intro pins s σ H x y v u Q0 I rx ry h;obtain⟨a,b,M,Q,ra,rb,hv,hq,hk⟩:=h;cases b with
 |tup xs=>
  obtain⟨oa,os,hq⟩:=hq;have d:=qcc I 16 (.tup xs) y u (qnw os).1 rb ry;simp only[Den]at d;obtain⟨p,its,rfl,ht,ds⟩:=d;have z:=qcd (A:=X.A.in1) (by rw[in1_units];omega) os oa ds (qcc I 15 a x v oa ra rx)
  refine SeqAt.in_tupleAt _ ht z.1 ⟨.bl (inR a xs),H,I,by rw[z.2];rfl,hk _ M _ H hq (.refl H) hv (by simp only[Rep];rfl)⟩
 |ls xs=>
  obtain⟨oa,os,hq⟩:=hq;have d:=qcc I 16 (.ls xs) y u (qnw os).2 rb ry;simp only[Den]at d;obtain⟨p,its,rfl,ht,ds⟩:=d;have z:=qcd (A:=X.A.in1) (by rw[in1_units];omega) os oa ds (qcc I 15 a x v oa ra rx)
  refine SeqAt.in_listAt _ ht z.1 ⟨.bl (inR a xs),H,I,by rw[z.2];rfl,hk _ M _ H hq (.refl H) hv (by simp only[Rep];rfl)⟩
 |_=>exact(show False from hq).elim
theorem qs8(hu:X.A.units+64<cLine):ROp X (compareOp .NotIn) (quY true):=by
 intro pins s σ H x y v u Q0 I rx ry h;obtain⟨a,b,M,Q,ra,rb,hv,hq,hk⟩:=h;cases b with
 |tup xs=>
  obtain⟨oa,os,hq⟩:=hq;have d:=qcc I 16 (.tup xs) y u (qnw os).1 rb ry;simp only[Den]at d;obtain⟨p,its,rfl,ht,ds⟩:=d;have z:=qcd (A:=X.A.in1) (by rw[in1_units];omega) os oa ds (qcc I 15 a x v oa ra rx)
  refine SeqAt.notIn_tupleAt _ ht z.1 ⟨.bl (!inR a xs),H,I,by rw[z.2];rfl,hk _ M _ H hq (.refl H) hv (by simp only[Rep];rfl)⟩
 |ls xs=>
  obtain⟨oa,os,hq⟩:=hq;have d:=qcc I 16 (.ls xs) y u (qnw os).2 rb ry;simp only[Den]at d;obtain⟨p,its,rfl,ht,ds⟩:=d;have z:=qcd (A:=X.A.in1) (by rw[in1_units];omega) os oa ds (qcc I 15 a x v oa ra rx)
  refine SeqAt.notIn_listAt _ ht z.1 ⟨.bl (!inR a xs),H,I,by rw[z.2];rfl,hk _ M _ H hq (.refl H) hv (by simp only[Rep];rfl)⟩
 |_=>exact(show False from hq).elim
def qAg:LR->RM->RVK->Prop:=fun rs M Q=>match rs with
 | [.str x]=>x.length=1/\Q (.int (x.cps.getD 0 0:Nat)) M
 |_=>False
theorem qD4:qaQ X (.builtin "ord") (upC X.K qAg):=by
 intro pins s σ H xs us Q0 I rl h;obtain⟨rs,M,Q,rr,hv,hq,hk⟩:=h
 match rs,hq with
 | [.str x],hq=>
  obtain⟨hl,hq⟩:=hq;simp only[Reps,Rep]at rr;obtain⟨v,r,rfl,rfl,rfl⟩:=rr;exact qn7 pins s σ H _ us Q0 I rl ⟨x,rfl,hl,hk _ M _ H hq (.refl H) hv (by simp only[Rep])⟩
noncomputable def quX (K:Frg)(neg:Bool):RR2:=fun x y M Q=>match y with
 | .ref p=>∃ ss,quK K p ss/\okR 15 x=true/\Q (.bl (if neg then !inR x (ss.map RV.str)else inR x (ss.map RV.str))) M
 |_=>False
theorem qht{h:Heap}:∀ {ss:LSt} {its:LVl},Vals (ss.map V.str) its->Dens h (ss.map RV.str) its
 | [],_,r=>by rw[wbh]at r;cases r;simp only[wbh,Dens]
 |s::ss,_,r=>by
  rw[wan]at r;cases r with
  |cons a t=>rw[wan];simp only[Dens,Den];exact⟨_,_,rfl,a,qht t⟩
theorem qoY{pins:LAO}{s:Shared}{σ:L2.St}{H:Hp}(hu:X.A.units+64<cLine)(I:Inv X pins σ H s){a:RV}{x:V}{v:Value}{p:Addr}{ss:LSt}(hp:quK X.K p ss)(oa:okR 15 a=true)(ra:Rep X.K H a x)(rx:RelV x v):
 ∃ its:LVl,IsTup s.heap p its.toArray/\(∀ w,w∈its.toArray->SeqAt.EqAt X.A.in1 s w v (eqD s.heap a w))/\its.toArray.any (eqD s.heap a)=inR a (ss.map RV.str):=by
 obtain⟨its,hvs,ht,_⟩:=I.tuple (a:=p) (xs:=ss.map V.str) (.inr hp);have os:(ss.map RV.str).all (okR 15)=true:=by simp[wap,okR]
 have z:=qcd (A:=X.A.in1) (by rw[in1_units];omega) os oa (qht hvs) (qcc I 15 a x v oa ra rx)
 exact⟨its,ht,z.1,z.2⟩
theorem qDM(hu:X.A.units+64<cLine):ROp X (compareOp .In) (quX X.K false):=by
 intro pins s σ H x y v u Q0 I rx ry h;obtain⟨a,b,M,Q,ra,rb,hv,hq,hk⟩:=h;cases b with
 |ref p=>
  obtain⟨ss,hp,oa,hq⟩:=hq;simp only[Rep]at rb;subst rb;cases(show u=Value.ref p from ry)
  obtain⟨its,ht,z1,z2⟩:=qoY hu I hp oa ra rx;exact SeqAt.in_tupleAt _ ht z1 ⟨.bl (inR a (ss.map RV.str)),H,I,by rw[z2];rfl,hk _ M _ H hq (.refl H) hv (by simp only[Rep];rfl)⟩
 |_=>exact(show False from hq).elim
theorem qqi(hu:X.A.units+64<cLine):ROp X (compareOp .NotIn) (quX X.K true):=by
 intro pins s σ H x y v u Q0 I rx ry h;obtain⟨a,b,M,Q,ra,rb,hv,hq,hk⟩:=h;cases b with
 |ref p=>
  obtain⟨ss,hp,oa,hq⟩:=hq;simp only[Rep]at rb;subst rb;cases(show u=Value.ref p from ry)
  obtain⟨its,ht,z1,z2⟩:=qoY hu I hp oa ra rx;exact SeqAt.notIn_tupleAt _ ht z1 ⟨.bl (!inR a (ss.map RV.str)),H,I,by rw[z2];rfl,hk _ M _ H hq (.refl H) hv (by simp only[Rep];rfl)⟩
 |_=>exact(show False from hq).elim
noncomputable def qrr (neg:Bool)(ss:LSt)(ty:RTE):RTE:=fun σ M Q=>ty σ M fun x M1=>okR 15 x=true/\Q (.bl (if neg then !inR x (ss.map RV.str)else inR x (ss.map RV.str))) M1
def qAw:LR->RM->RVK->Prop:=fun rs M Q=>∃ bs:List Bool,rs= [.ls (bs.map RV.bl)]/\Q (.bl (bs.all id)) M
theorem qh2{K:Frg}{H:Hp}:∀ {bs:List Bool} {vs:LV},Reps K H (bs.map RV.bl) vs->vs=bs.map V.bl
 | [],vs,h=>by simpa only[wbh,Reps]using h
 |b::bs,vs,h=>by
  simp only[wan,Reps,Rep]at h;obtain⟨v,r,rfl,rfl,h2⟩:=h;rw[qh2 h2];rfl
theorem qhP:∀ {bs:List Bool} {us:LVl},Vals (bs.map V.bl) us->us=bs.map Value.bool
 | [],us,h=>by cases h;rfl
 |b::bs,us,h=>by
  obtain⟨u,r,rfl,h1,h2⟩:=Vals.cons_inv h;cases h1;rw[qhP h2];rfl
theorem range_all(bs:List Bool):(List.range bs.length).all (fun i=>bs.getD i true)=bs.all id:=by
 induction bs with
 |nil=>rfl
 |cons b bs ih=>
  rw[wal,List.range_succ_eq_map,wav,List.all_map,wav];have:((fun i=>(b::bs).getD i true) ∘ Nat.succ)=fun i=>bs.getD i true:=by funext i;rfl
  rw[this,ih];rfl
theorem qn9(hc:X.calm=true):qaQ X (.builtin "all") (upC X.K qAw):=by
 intro pins s σ H xs us Q0 I rl h;obtain⟨rs,M,Q,rr,hv,⟨bs,rfl,hq⟩,hk⟩:=h;obtain⟨v,rfl,r1⟩:=rr.one;simp only[Rep]at r1;obtain⟨a,vs,rfl,h1,h2⟩:=r1;have:=qh2 h2;subst this;obtain⟨u,rfl,ru⟩:=rl.one;cases ru;obtain⟨its,rv,p,hz⟩:=I.list h1.sq;have:=qhP rv;subst this;have hlt:a<s.heap.objs.size:=by obtain⟨o,n,e,_⟩:=p;exact wai e
 refine call_all_walk (wpAny_pyIter_list p.isList ?_);have hd:X.A.in1.handled=none:=I.ok.hd hc;refine⟨s.heap.objs.size,_,_,_,_,_,fun i=>bs.getD i true,rfl,Walks.list hd s.heap.objs.size a (waq hlt) (bs.map Value.bool).toArray,⟨⟨_,wah _ rfl,rfl,rfl⟩,p.isList.push _⟩,?_,?_⟩
 · intro i v s' Q' E' hP hQ'
   have hP':(bs.map Value.bool)[i]? =some v:=by simpa using hP
   rw[wau]at hP';cases e:bs[i]? with
   |none=>rw[e]at hP';cases hP'
   |some b=>
    rw[e]at hP';have hb:bs.getD i true=b:=by rw[List.getD_eq_getElem?_getD,e];rfl
    cases hP';have hQ2:Q' (bs.getD i true) s':=hQ';rw[hb]at hQ2;exact waJ hQ2
 · intro h' tk hk'
   have I1:Inv X pins σ H { s with heap:=s.heap.push { cls:=.type "list_iterator",data:=.fields #[.ref a,.int 0 0] } }:=I.kept (t':=s.toks) fun b o e=>wab _ e
   obtain⟨f0,f1,f2,f3,f4,f5⟩:=I.fpOk (waf _) (I.hok.fresh (waf _));have I2:Inv X pins σ H { s with heap:=h',toks:=tk }:=by
    have z:=I1.turned (h':=h') (t':=tk) (it:=s.heap.objs.size) (fun b o hb e=>hk' b o (by simpa using hb) e) f0 f1 f3 f4 f5
    exact z
   refine⟨.bl (bs.all id),H,I2,?_,hk _ M _ H hq (.refl H) hv (by simp only[Rep])⟩
   show _=_;rw[<-range_all];simp
def Its(x:Str):It:=⟨fun i _=>i<x.cps.size,fun i H v H'=>H'=H/\∃ c,x.cps[i]? =some c/\v= .str ⟨#[c]⟩,fun i _=>x.cps.size<=i⟩
def qbb(x:Str):LR:=x.cps.toList.map fun c=>.str ⟨#[c]⟩
theorem qiO{P:Program}{w:World}{K:Frg}{tg:Expr}(it:Addr)(n:String)(x:Str)(t:Tok)
 (hn:["enumerate","zip","dict_itemiterator","dict_reverseitemiterator","odict_iterator","itertools.zip_longest","itertools.pairwise"].contains n=false)
 (W:∀ A:Around,A.handled=none->Walks P w A it [it] [it] x.cps.size (SignAt x) (fun i h=>h.IsStrIter it n x t i))
 (hend:∀ (A:Around) (i:Nat) (s:Shared) (Q:OVl->Shared->Prop) (E:VSP),A.handled=none->s.heap.IsStrIter it n x t i->x.cps.size<=i->(∀ h',(∀ b o,b≠it->s.heap.get? b=some o->h'.get? b=some o)->Q none { s with heap:=h' })->wpAny (model P w) A (pyNext (.ref it)) Q E s)
 (hself:∀ (A:Around) (i:Nat) (s:Shared) (Q:VSP) (E:VSP),s.heap.IsStrIter it n x t i->Q (.ref it) s->wpAny (model P w) A (pyIter (.ref it)) Q E s):
 Turn P w K tg (Its x) [it] it (fun i h=>h.IsStrIter it n x t i) where
 mem:=by simp
 obj:=fun i h st b hb=>by
  have e:b=it:=by simpa using hb
  subst e;obtain⟨o,e,c,d⟩:=st;exact⟨o,e,fun v z=>by rw[d]at z;cases z⟩
 keep:=fun i h h' st k=>by
  obtain⟨o,e,r⟩:=st;exact⟨o,k it (by simp) o e,r⟩
 item:=by
  intro X hP hw hK hc i pins s σ H E I hf st hg;subst hP hw hK;obtain⟨f0,f1,f2,f3,f4,f5⟩:=hf it (by simp)
  refine(W X.A (I.ok.hd hc)).item i s _ _ hg st fun v h' tk hv st' kk=>?_
  obtain⟨c,u,hcu,rfl⟩:=hv;have I1:Inv X pins σ H { s with heap:=h',toks:=tk }:=I.turned (fun b o hb e=>kk b o (by simpa using hb) e) f0 f1 f3 f4 f5
  obtain⟨o,e,hcl,hd⟩:=id st';exact⟨_,rfl,qlX (s:={ s with heap:=h',toks:=tk }) (n:=n) e hcl hd hn ⟨.str ⟨#[c]⟩,H,I1,⟨u,rfl⟩,⟨rfl,c,hcu,rfl⟩,st',fun b hb=>(hf b hb).1⟩⟩
 done:=by
  intro X hP hw hK hc i pins s σ H E I hf st hg;subst hP hw hK;obtain⟨f0,f1,f2,f3,f4,f5⟩:=hf it (by simp)
  exact hend X.A i s _ _ (I.ok.hd hc) st hg fun h' eb=>⟨rfl,I.turned (t':=s.toks) (fun b o hb e=>eb b o hb e) f0 f1 f3 f4 f5⟩
 self:=hself
theorem qoP{H0 Hs:Hp}{K:Frg}{H1:Hp}(x:Str)(es:Ext Hs H1):qke H0 Hs K (Its x) (qbb x) okT id H1 where
 turn:=fun i H M e _ _ r hr=>by
  have hi:i<x.cps.size:=by have:=(wax.mp hr).1;simpa[qbb]using this
  refine⟨hi,fun v' H' y=>?_⟩
  obtain⟨rfl,c,hcx,rfl⟩:=y;refine⟨.refl _,fun _ w=>w,?_⟩
  have:r= .str ⟨#[c]⟩:=by
   have h2:x.cps.toList[i]? =some c:=by simpa using hcx
   simp only[qbb,wau,h2,Option.map_some,wbB]at hr;exact hr.symm
  subst this;simp only[Rep]
 stop:=fun i H M e _ _ hi=>by
  have:(qbb x).length=x.cps.size:=by simp[qbb]
  rw[this]at hi;exact hi
 thaw:=qb4 es
def qAo(te:RTE):RTI:=fun σ M Q=>te σ M fun v M1=>match v with| .str x=>Q (qbb x) okT id M1|_=>False
theorem qDQ{tg:Expr}{l:Expr}{te:RTE}(hl:RPE X l te):RPI X tg l (qAo te):=by
 intro pins s σ0 H R I h;obtain⟨σ,M,Q,hs,hv,ht,hk⟩:=h;refine thn (hl pins s σ0 H (fun v H1=>∃ x M1,v= .str x/\Q (qbb x) okT id M1/\Ext H H1/\View X.K H1 M1) I ⟨σ,M,_,hs,hv,ht,fun rv M1 v H1 q e1 v1 r1=>?_⟩) fun v s1 ⟨xv,H1,I1,r1,q1⟩=>?_
 · cases rv with
   |str x=>simp only[Rep]at r1;exact⟨x,M1,r1,q,e1,v1⟩
   |_=>exact(show False from q).elim
 · obtain⟨x,M1,rfl,q,e1,v1⟩:=q1
   obtain⟨t,rfl⟩:=r1;have hf:∀ b∈[s1.heap.objs.size],qoj X pins H1 b:=fun b hb=>by
    have e:b=s1.heap.objs.size:=by simpa using hb
    subst e;exact I1.fpOk (waf _) (I1.hok.fresh (waf _))
   cases ha:x.cps.all (· < 128)
   · refine wpAny_pyIter_wide ha ?_
     exact⟨s1.heap.objs.size,[s1.heap.objs.size],_,Its x,H1,rfl,I1.kept (t':=s1.toks) fun b o e=>wab _ e,qiO _ "str_iterator" x t (by decide) (fun A hA=>Walks.strWide hA _ x t) (fun A i s Q E hA st hi hq=>wpAny_pyNext_wide_end hA st (by simp;exact hi) hq) (fun A i s Q E st hq=>wpAny_pyIter_striter_wide st hq),⟨_,wah _ rfl,rfl,rfl⟩,hf,hk _ okT id M1 _ H1 q e1 v1 (qoP x e1)⟩
   · refine wpAny_pyIter_ascii ha ?_
     exact⟨s1.heap.objs.size,[s1.heap.objs.size],_,Its x,H1,rfl,I1.kept (t':=s1.toks) fun b o e=>wab _ e,qiO _ "str_ascii_iterator" x t (by decide) (fun A hA=>Walks.strAscii hA _ x t) (fun A i s Q E hA st hi hq=>wpAny_pyNext_ascii_end hA st (by simp;exact hi) hq) (fun A i s Q E st hq=>wpAny_pyIter_striter_ascii st hq),⟨_,wah _ rfl,rfl,rfl⟩,hf,hk _ okT id M1 _ H1 q e1 v1 (qoP x e1)⟩
noncomputable def qu0 (to:RTE)(t:RTA):RTE:=fun σ M Q=>to σ M fun x M1=>match x with
 | .ref p=>(∃ ys,M1 p=some (.lst ys))/\t σ M1 fun rs M2=>∃ ys y,rs= [y]/\M2 p=some (.lst ys)/\ys.length<sizeLine/\Q .non (put M2 p (.lst (ys++ [y])))
 |_=>False
theorem qpN{o e:Expr}{to:RTE}{t:RTA}{apos cpos:Pos}(ho:RPE X o to)(ha:RPA X [e] t)
 (hbase:attributeBase o "append" X.env (eval o X.env)=eval o X.env:=by rfl)
 (hfew:((backTo cpos (starEach [e] X.env)).all (fun x=>!x.1)&&(backToKw cpos (keywordEach [] X.env)).all (fun x=>x.1.isSome)&&decide ([e].length+([]:List Keyword).length+(if([]:List Keyword).isEmpty then 0 else 1)<30))=true:=by rfl)
 (hline:(apos.endLine==cpos.line)=true:=by rfl) (hs:starEach [e] X.env=(false,eval e X.env)::starEach [] X.env:=by rfl) (hplain:(backTo cpos (starEach [] X.env)).any (·.1)=false:=by rfl):
 RPE X (.Call (.Attribute o "append" apos) [e] [] cpos) (qu0 to t):=PE.imp (qsV PySem.F.plainAttrs_list PySem.F.slot_list_append PySem.F.type_list_append qla ho ha hbase hfew hline hs hplain) fun σ0 H Q0 h=>by
 obtain⟨σ,M,Q,hs,hv,ht,hk⟩:=h;refine⟨σ,M,_,hs,hv,ht,fun rx M1 x H1 q e1 v1 r1=>?_⟩
 cases rx with
 |ref p=>
  obtain⟨⟨ys,hm⟩,q⟩:=q;simp only[Rep]at r1;subst r1;obtain⟨ho',e0,r0⟩:=v1 p _ hm;obtain⟨vs0,rfl,rr0⟩:=r0;refine⟨.inl ⟨rfl,_,SqL.of e0⟩,σ,M1,_,hs.ext e1,v1,q,fun rs M2 vs H2 q2 e2 v2 r2=>?_⟩
  obtain⟨ys2,y,rfl,hm2,hz,q2⟩:=q2;obtain⟨v,rfl,r3⟩:=r2.one;obtain⟨ho2,e3,r4⟩:=v2 p _ hm2;obtain⟨vs2,rfl,rr2⟩:=r4;have ex:Ext H2 (upd H2 p (.lst (vs2++ [v]))):=Ext.write e3 rfl;refine⟨p,vs2,v,rfl,rfl,e3,by rw[<-rr2.length];exact hz,hk _ _ _ _ q2 ((e1.trans e2).trans ex) (v2.write hm2 ⟨_,rfl,?_⟩) (by simp only[Rep])⟩
  exact(Reps.ext ex _ _ rr2).append (Reps.cons (Rep.ext ex _ _ r3) Reps.nil)
 |_=>exact(show False from q).elim
def qpR:LR->RM->RVK->Prop:=fun rs M Q=>match rs with
 | [.tup xs]=>Q (.ls xs) M
 | [.ls xs]=>Q (.ls xs) M
 |_=>False
theorem qxF:qaQ X (.type "list") (upC X.K qpR):=by
 intro pins s σ H xs us Q0 I rl h;obtain⟨rs,M,Q,rr,hv,hq,hk⟩:=h;have key:∀ (p:Addr) (vs:LV) (ys:LR),xs= [.ref p]->(SqL X.K H p vs∨SqT X.K H p vs)->Reps X.K H ys vs->Q (.ls ys) M->wpAny (model X.prog X.w) X.A (call (.type "list") us) (EP X pins σ Q0) X.xe s:=by
  intro p vs ys e hp hr hq;subst e;refine thn (qhy pins s σ H _ us (fun v H'=>∃ H1 p xs,v= .ref p/\H1 p=none/\H'=upd H1 p (.lst xs)/\∀ o,Q0 (.ref p) (upd H1 p (.frz o (.lst xs)))) I rl ⟨p,vs,rfl,hp,fun l hl=>⟨H,l,vs,rfl,hl,rfl,fun o=>?_⟩⟩) fun _ _ e=>frozen e
  exact hk _ M _ _ hq (Ext.new hl) (hv.new hl) (qbZ hl hr)
 unfold qpR at hq;split at hq
 · obtain⟨v,rfl,r1⟩:=rr.one
   simp only[Rep]at r1;obtain⟨q,vs,rfl,hp,hr⟩:=r1;exact key q vs _ rfl (.inr hp) hr hq
 · obtain⟨v,rfl,r1⟩:=rr.one
   simp only[Rep]at r1;obtain⟨q,vs,rfl,hp,hr⟩:=r1;exact key q vs _ rfl (.inl hp.sq) hr hq
 · exact hq.elim
noncomputable def qoz (fs:List (Addr×RSp))(tx:RTE)(t:RTA):RTE:=fun σ M Q=>tx σ M fun v M1=>match v with
 | .ref f=>∃ sp,(f,sp)∈fs/\t σ M1 fun rs M2=>sp rs M2 Q
 |_=>False
theorem qsk{x:Str}{p pos:Pos}{e:Expr}{es:LEx}{t:RTA}{tx:RTE}(fs:List (Addr×RSp))
 (hF:∀ q∈fs,∃ fd ps k,Room k X.A/\PySem.W.keepIn X.K (.ref q.1)=true/\Binds X.K fd ps []/\qc4 X.prog X.w X.K X.mg X.base CX0 k q.1 fd ps (qfB X.K q.2)) (hx:RPE X (.Name x p) tx) (ha:RPA X (e::es) t)
 (he:starEach (e::es) X.env=(false,eval e X.env)::starEach es X.env:=by rfl) (hpl:(backTo pos (starEach es X.env)).any (·.1)=false:=by rfl):RPE X (.Call (.Name x p) (e::es) [] pos) (qoz fs tx t):=by
 intro pins s σ0 H Q0 I h;obtain⟨σ,M,Q,hs,hv,ht,hk⟩:=h;refine wpAny_Call_Name_kw (thn (hx pins s σ0 H (fun v H1=>∃ f sp M1,v= .ref f/\(f,sp)∈fs/\Ext H H1/\View X.K H1 M1/\t σ M1 fun rs M2=>sp rs M2 Q) I ⟨σ,M,_,hs,hv,ht,fun rv M1 v H1 q e1 v1 r1=>?_⟩) fun v s1 ⟨y,H1,I1,r1,q1⟩=>?_)
 · cases rv with
   |ref f=>simp only[Rep]at r1;obtain⟨sp,hm,q⟩:=q;exact⟨f,sp,M1,r1,hm,e1,v1,q⟩
   |_=>exact(show False from q).elim
 · obtain⟨f,sp,M1,rfl,hm,e1,v1,q⟩:=q1
   cases r1;obtain⟨fd,ps,k,hr,hkp,hb,F⟩:=hF _ hm;refine wbv (h₀:=X.base) I1.ok.mod.kin hkp (thn (ha pos pins s1 σ0 H1 (fun vs H2=>qfB X.K sp (vs++ []) H2 Q0 (fun _ _ _=>False)) I1 ⟨σ,M1,_,hs.ext e1,v1,q,fun rs M2 vs H2 q2 e2 v2 r2=>?_⟩) fun us s2 ⟨vs,H2,I2,r,q⟩=>⟨I2.kIn,?_⟩) he hpl
   · exact⟨rs,M2,Q,by rw[wbn];exact r2,v2,q2,hk.ext (e1.trans e2)⟩
   · exact qgK F hr hb .nil qh8 I2 r q
end
theorem qk3{P:Program}{w:World}{es:List DictEntry}{vs:List (Key×Value)}(h:Pairs (qai P w) es vs):Pairs (optKind P w) es (vs.map fun p=>(some p.1,p.2)):=by
 induction h with
 |nil=>exact .nil
 |cons a b _ ih=>exact .cons (kv:=(some _,_)) a b ih
theorem qfm:∀ {l:List Key},l.Nodup->(l.map some).Nodup
 | [],_=>List.nodup_nil
 |a::r,h=>by
  obtain⟨h1,h2⟩:=waU.mp h;rw[wan];refine waU.mpr ⟨fun m=>?_,qfm h2⟩
  obtain⟨b,hb,e⟩:=waE.mp m;cases e;exact h1 hb
theorem qn0{P:Program}{w:World}{h:Heap}{a:Addr}{vs:List (Key×Value)}(d:h.DictOf (qai P w) a vs):h.DictOf (optKind P w) a (vs.map fun p=>(some p.1,p.2)):=by
 obtain⟨o,es,ep,h1,h2,h3,h4,h5,h6⟩:=d;refine⟨o,es,ep,h1,h2,h3,fun e he=>?_,qk3 h5,?_⟩
 · obtain⟨k,q1,q2⟩:=h4 e he
   exact⟨some k,q1,q2⟩
 · rw[waG]
   have:((fun x:Option Key×Value=>x.1) ∘ fun p:Key×Value=>(some p.1,p.2))=some ∘ fun p=>p.1:=rfl
   rw[this,<-waG];exact qfm h6
theorem qqn{vs:List (Key×Value)}:valueAt (vs.map fun p=>(some p.1,p.2)) (none:Option Key)=none:=by
 unfold valueAt;rw[List.find?_eq_none.mpr]
 · rfl
 · intro x hx
   obtain⟨p,_,rfl⟩:=waE.mp hx;simp
section
variable {X:Cx}
noncomputable def qlt (neg:Bool)(kvs:LKR)(Q:RVK):RVK:=fun k M1=>match qgm k with
 |some key=>Q (.bl (if neg then !(qbC kvs key).isSome else(qbC kvs key).isSome)) M1
 |none=>False
def qd3(kvs:LKR)(Q:RVK):RVK:=fun k M1=>match k with
 | .non=>Q (.bl true) M1
 |k=>qlt true kvs Q k M1
def qfK(kvs:LKR)(te:RTE):RTE:=fun σ M Q=>te σ M (qd3 kvs Q)
theorem qfG{x:Str}{kvs:LKR}{e:Expr}{te:RTE}{p:Pos}(T:KTab X.prog X.w X.K X.mg x kvs)(he:RPE X e te)(hg:Gl X x)(hd:(x==("__debug__":Str))=false):
 PC X .NotIn e (.Name x p) (up X.K (qfK kvs te)):=by
 obtain⟨a,vs,ws,hm,ha,hD,hk,hr⟩:=T.ex;intro pins s σ0 H Q0 I h;obtain⟨σ,M,Q,hs',hv,ht,hq⟩:=h;refine thn (he pins s σ0 H (fun v H1=>∃ r M1,Rep X.K H1 r v/\Ext H H1/\View X.K H1 M1/\qd3 kvs Q r M1) I ⟨σ,M,_,hs',hv,ht,fun r M1 v H1 q e w r1=>⟨r,M1,r1,e,w,q⟩⟩) fun iv s2 zz=>?_;obtain⟨y,H2,I2,ry,r,M2,rr,e2,w2,q2⟩:=zz
 refine qb8 I2 hg hm ?_ hd;have dd:=hD _ I2.kIn
 by_cases hn:r= .non
 · subst hn
   have q2:Q (.bl true) M2:=q2;have:y=V.non:=by simpa only[Rep]using rr
   subst this;have:iv=Value.none:=ry;subst this;refine wpAny_notIn_of (knd:=optKind X.prog X.w) (k:=none) rfl ha (qn0 dd).mapOf ?_;rw[qqn];exact⟨.bl true,H2,I2.tok _,rfl,hq _ M2 _ H2 q2 e2 w2 (by simp only[Rep])⟩
 · have q2:qlt true kvs Q r M2:=by
    cases r<;>first|exact q2|exact waI rfl hn
   unfold qlt at q2;cases ek:qgm r with
   |none=>rw[ek]at q2;exact q2.elim
   |some key=>
    rw[ek]at q2;simp only at q2;have:=qdj ek rr;subst this;refine wpAny_notIn_of (qdk ry) ha dd.mapOf ?_;rw[qjt hk (hr H2)];exact⟨.bl (!(qbC kvs key).isSome),H2,I2.tok _,rfl,hq _ M2 _ H2 q2 e2 w2 (by simp only[Rep];rfl)⟩
theorem qkB{x:Str}{kvs:LKR}{e:Expr}{te:RTE}{p pos:Pos}(T:KTab X.prog X.w X.K X.mg x kvs)(he:RPE X e te)(hg:Gl X x:=by rfl)(hd:(x==("__debug__":Str))=false:=by decide)(h1:behindInMarks .NotIn (Expr.Name x p)=false:=by with_unfolding_all rfl):
 RPT X (.Compare e [.NotIn] [.Name x p] pos) (qfJ (qfK kvs te)):=PT.imp (qkW (qfG T he hg hd) h1) fun σ0 H Q0 h=>by
 obtain⟨σ,M,Q,hs,hv,ht,hk⟩:=h;exact⟨σ,M,_,hs,hv,ht,qcq hk⟩
end
theorem qbN{K:Frg}{H:Hp}{f:Str}:∀ {fs:List (Str×RV)} {gs:List (Str×V)} {v:RV},RepP K H fs gs->fs.lookup f=some v->∃ u,gs.lookup f=some u/\Rep K H v u
 | [],gs,v,h,e=>by cases e
 |(g,x)::r,gs,v,h,e=>by
  obtain⟨u,t,rfl,h1,h2⟩:=h;rw[waW]at e;cases hb:f==g with
  |true=>rw[hb]at e;cases e;exact⟨u,by rw[waW,hb],h1⟩
  |false=>
   rw[hb]at e;obtain⟨w,e1,r1⟩:=qbN h2 e;exact⟨w,by rw[waW,hb];exact e1,r1⟩
theorem qeg{K:Frg}{H:Hp}{f:Str}:∀ {fs:List (Str×RV)} {gs:List (Str×V)},RepP K H fs gs->fs.lookup f=none->gs.lookup f=none
 | [],gs,h,e=>by have h':gs= []:=h;subst h';rfl
 |(g,x)::r,gs,h,e=>by
  obtain⟨u,t,rfl,h1,h2⟩:=h;rw[waW]at e ⊢;cases hb:f==g with
  |true=>rw[hb]at e;cases e
  |false=>rw[hb]at e;exact qeg h2 e
def qe0(f:Str)(v:RV):List (Str×RV)->List (Str×RV)
 | []=>[(f,v)]
 |(g,x)::r=>if g=f then(g,v)::r else(g,x)::qe0 f v r
theorem qef{K:Frg}{H:Hp}{f:Str}{v:RV}{u:V}(hv:Rep K H v u):∀ {fs:List (Str×RV)} {gs:List (Str×V)},RepP K H fs gs->RepP K H (qe0 f v fs) (qe1 f u gs)
 | [],gs,h=>by have h':gs= []:=h;subst h';exact⟨u,[],rfl,hv,rfl⟩
 |(g,x)::r,gs,h=>by
  obtain⟨w,t,rfl,h1,h2⟩:=h;unfold qe0 qe1
  by_cases e:g=f
  · rw[wag e,wag e];exact⟨u,t,rfl,hv,h2⟩
  · rw[wad e,wad e];exact⟨w,_,rfl,h1,qef hv h2⟩
theorem qaJ{κ:Type}{K:Frg}{H:Hp}:∀ {fs:List (κ×RV)} {gs:List (κ×V)},RepP K H fs gs->fs.length=gs.length
 | [],gs,h=>by have h':gs= []:=h;subst h';rfl
 |(g,x)::r,gs,h=>by
  obtain⟨w,t,rfl,h1,h2⟩:=h;rw[wal,wal,qaJ h2]
section
variable {X:Cx}{o e value:Expr}{f:Str}{pos pos':Pos}{ta tv:RTE}{C:Addr}
noncomputable def qDD (C:Addr)(f:Str)(ta:RTE):RTE:=fun σ M Q=>ta σ M fun x M1=>match x with
 | .ref a=>∃ fs v,M1 a=some (.ins C fs)/\fs.lookup f=some v/\Q v M1
 |_=>False
theorem qDu(hc:Cls X.K C)(hn:NoAttr X.K C f)(he:RPE X e ta)(hb:attributeBase e f X.env (eval e X.env)=eval e X.env:=by rfl):RPE X (.Attribute e f pos) (qDD C f ta):=PE.imp (qsU he hb) fun σ0 H Q0 h=>by
 obtain⟨σ,M,Q,hs,hv,ht,hk⟩:=h;refine⟨σ,M,_,hs,hv,ht,fun rx M1 x H1 q e1 v1 r1=>?_⟩
 cases rx with
 |ref a=>
  obtain⟨fs,v,hm,hl,q⟩:=q;simp only[Rep]at r1;subst r1;obtain⟨ho,eo,dx,gs,rfl,hg⟩:=v1 a _ hm;obtain⟨u,hu,ru⟩:=qbN hg hl;exact⟨a,C,dx,gs,u,rfl,eo,hc,hn,hu,hk _ M1 _ H1 q e1 v1 ru⟩
 |_=>exact(show False from q).elim
noncomputable def qwr (C:Addr)(f:Str)(ta tv:RTE):RTS:=fun D σ M=>tv σ M fun y M1=>ta σ M1 fun x M2=>match x with
 | .ref a=>∃ fs,M2 a=some (.ins C fs)/\fs.length<1000/\D.nx σ (put M2 a (.ins C (qe0 f y fs)))
 |_=>False
theorem qC0(hc:Cls X.K C)(hn:NoAttr X.K C f)(ha:RPE X o ta)(hv:RPE X value tv)(hs:swapsWith value (some (.Attribute o f pos')) pos.line X.env=pure false:=by rfl):RPS X (.Assign [.Attribute o f pos'] value pos) (qwr C f ta tv):=PS.imp (qsK ha hv hs) fun D0 σ0 H h=>by
 obtain⟨σ,M,D,hs,hv,ht,hd⟩:=h;refine⟨σ,M,_,hs,hv,ht,fun ry M1 y H1 q e1 v1 r1=>⟨σ,M1,_,hs.ext e1,v1,q,fun rx M2 x H2 q2 e2 v2 r2=>?_⟩⟩
 cases rx with
 |ref a=>
  obtain⟨fs,hm,hl,q2⟩:=q2;simp only[Rep]at r2;subst r2;obtain⟨ho,eo,dx,gs,rfl,hg⟩:=v2 a _ hm;have ex:Ext H2 (upd H2 a (.ins C dx (qe1 f y gs))):=Ext.write eo rfl;refine⟨a,C,dx,gs,rfl,eo,hc,hn,by rw[<-qaJ hg];exact hl,hd.nx σ _ _ _ q2 ((e1.trans e2).trans ex) (v2.write hm ⟨dx,_,rfl,?_⟩) (hs.ext ((e1.trans e2).trans ex))⟩
  exact qef (Rep.ext (e2.trans ex) _ _ r1) (hg.ext ex)
 |_=>exact(show False from q2).elim
end
section
variable {K:Frg}{H:Hp}{k:Key}{v:RV}{u:V}
theorem qiW{κ:Type}:∀ {xs:List (κ×RV)} {ws:List (κ×V)} {ys:List (κ×RV)} {zs:List (κ×V)},RepP K H xs ws->RepP K H ys zs->RepP K H (xs++ys) (ws++zs)
 | [],ws,ys,zs,h,t=>by have h':ws= []:=h;subst h';exact t
 |(j,x)::r,ws,ys,zs,h,t=>by
  obtain⟨w,t',rfl,h1,h2⟩:=h;exact⟨w,_,rfl,h1,qiW h2 t⟩
end
section
variable {X:Cx}{o i value:Expr}{pos pos':Pos}{td ty tv:RTE}
def qsA:RTE:=fun _ M Q=>∀ p,M p=none->Q (.ref p) (put M p (.dk []))
theorem qwi:RPE X (.Dict [] [] pos) qsA:=PE.imp qnn fun σ0 H Q0 h=>by
 obtain⟨σ,M,Q,hs,hv,ht,hk⟩:=h;intro p hp;exact hk _ _ _ _ (ht p (hv.free hp)) (Ext.new hp) (hv.newPut hp ⟨[],rfl,rfl⟩) (by simp only[Rep])
def atKey(M:RM)(x y:RV)(P:Addr->LKR->Key->Prop):Prop:=match x with
 | .ref a=>(match M a with|some (.dk kvs)=>(match qgm y with|some k=>P a kvs k|none=>False)|_=>False)
 |_=>False
end
section
variable {X:Cx}{x m:Str}{p pos apos:Pos}{o e:Expr}{es:LEx}{t:RTA}{ta:RTE}{k:Nat}{ps:LSt}{sp:RSp}{C g:Addr}{fd:FuncData}
noncomputable def qkT (C:Addr)(m:Str)(sp:RSp)(ta:RTE)(t:RTA):RTE:=fun σ M Q=>ta σ M fun x M1=>match x with
 | .ref a=>∃ fs,M1 a=some (.ins C fs)/\fs.lookup m=none/\t σ M1 fun rs M2=>sp (.ref a::rs) M2 Q
 |_=>False
theorem qlc{σ0:L2.St}{H:Hp}{Q0:VK}(h:up X.K (qkT C m sp ta t) σ0 H Q0):qpt C m (qfB X.K sp) [] (fun _ _ _=>False) (up X.K ta) (upA X.K t) σ0 H Q0:=by
 obtain⟨σ,M,Q,hs,hv,ht,hk⟩:=h;refine⟨σ,M,_,hs,hv,ht,fun rx M1 x H1 q e1 v1 r1=>?_⟩
 cases rx with
 |ref a=>
  obtain⟨fs,hm,hl,q⟩:=q;simp only[Rep]at r1;subst r1;obtain⟨ho,eo,dx,gs,rfl,hg⟩:=v1 a _ hm;refine⟨a,dx,gs,rfl,eo,qeg hg hl,σ,M1,_,hs.ext e1,v1,q,fun rs M2 vs H2 q2 e2 v2 r2=>?_⟩
  exact⟨.ref a::rs,M2,Q,by rw[wbn];exact Reps.cons (by simp only[Rep]) r2,v2,q2,hk.ext (e1.trans e2)⟩
 |_=>exact(show False from q).elim
theorem qwf{pl:Sem Bool}(he:RPE X o ta)(c:Cls X.K C)(hm:Meth X.K C m g)(F:qc4 X.prog X.w X.K X.mg X.base CX0 k g fd ps (qfB X.K sp))(hr:Room k X.A)(hb:Binds X.K fd ps [])(ha:RPA X (e::es) t)
 (hst:starEach (e::es) X.env=(false,eval e X.env)::starEach es X.env:=by rfl) (hpl:(backTo pos (starEach es X.env)).any (·.1)=false:=by rfl)
 (ht:eval (.Call (.Attribute o m apos) (e::es) [] pos) X.env=(do
  let ov<-eval o X.env
  standAt apos.atName
  let(f,first) <-holding [ov] (getMethod ov m pl)
  callWith pos f first (backTo pos (starEach (e::es) X.env)) (backToKw pos (keywordEach [] X.env))):=by rfl):
 RPE X (.Call (.Attribute o m apos) (e::es) [] pos) (qkT C m sp ta t):=PE.imp (qp6 he c hm F hr hb .nil qh8 ha hst hpl ht) fun σ0 H Q0 h=>qlc h
noncomputable def qjB (C:Addr)(sp:RSp)(t:RTA):RTE:=fun σ M Q=>t σ M fun rs M1=>∀ a,M1 a=none->sp (.ref a::rs) (put M1 a (.ins C [])) (fun v M2=>v= .non/\Q (.ref a) M2)
theorem qwg{h0:Nat}(Mk1:Mk X.K C g)(F:qc4 X.prog X.w X.K X.mg X.base CX0 k g fd ps (qfB X.K sp))(hr:Room (k+1) X.A)(hm:X.mg x=some (.ref C))(hb:Binds X.K fd ps [])(ha:RPA X (e::es) t)(hg:Gl X x:=by rfl)(hdb:(x==("__debug__":Str))=false:=by decide)
 (he:starEach (e::es) X.env=(false,eval e X.env)::starEach es X.env:=by rfl) (hpl:(backTo pos (starEach es X.env)).any (·.1)=false:=by rfl):RPE X (.Call (.Name x p) (e::es) [] pos) (qjB C sp t):=PE.imp (qp7 Mk1 F hr hg hm hb .nil qh8 ha hdb he hpl) fun σ0 H Q0 h=>by
 obtain⟨σ,M,Q,hs,hv,ht,hk⟩:=h;refine⟨σ,M,_,hs,hv,ht,fun rs M1 vs H1 q e1 v1 r1 a dx na nd ne=>?_⟩
 have ex1:Ext H1 (upd H1 dx (.own a)):=Ext.new nd;have na':(upd H1 dx (.own a)) a=none:=by rw[qaa (wa4 ne)];exact na
 have ex2:Ext H1 (upd (upd H1 dx (.own a)) a (.ins C dx [])):=ex1.trans (Ext.new na');refine⟨.ref a::rs,put M1 a (.ins C []),_,by rw[wbn];exact Reps.cons (by simp only[Rep]) (Reps.ext ex2 _ _ r1),(v1.new nd).newPut na' ⟨dx,[],rfl,rfl⟩,q a (v1.free na),fun rv M2 v H2 q2 e2 v2 r2=>?_⟩
 obtain⟨rfl,q2⟩:=q2;simp only[Rep]at r2;exact⟨r2,hk _ M2 _ H2 q2 ((e1.trans ex2).trans e2) v2 (by simp only[Rep])⟩
end
section
variable {X:Cx}{o e f:Expr}{apos cpos:Pos}{td ty tx:RTE}
def qws:LR->RM->RVK->Prop:=fun rs M Q=>∃ a kvs,rs= [.ref a]/\M a=some (.dk kvs)/\Q (.int kvs.length) M
theorem qxH:qaQ X (.builtin "len") (upC X.K qws):=by
 intro pins s σ H xs us Q0 I rl h;obtain⟨rs,M,Q,rr,hv,⟨a,kvs,rfl,hm,hq⟩,hk⟩:=h;obtain⟨v,rfl,r1⟩:=rr.one;simp only[Rep]at r1;subst r1;obtain⟨ho,eo,ws,rfl,hg⟩:=hv a _ hm;exact qmp pins s σ H _ us Q0 I rl ⟨a,ws,rfl,eo,hk _ M _ H hq (.refl H) hv (by simp only[Rep];rw[qaJ hg])⟩
end
section
variable {X:Cx}{m:Str}{p pos apos:Pos}{o a b tg:Expr}{ta t1 t2:RTE}{k:Nat}{ps:LSt}{sp:RSp}{C g:Addr}{fd:FuncData}
theorem qsa{pl:Sem Bool}(he:RPE X o ta)(c:Cls X.K C)(hm:Meth X.K C m g)(F:qc4 X.prog X.w X.K X.mg X.base CX0 k g fd ps (qfB X.K sp))(hr:Room k X.A)(hb:Binds X.K fd ps [])
 (ht:eval (.Call (.Attribute o m apos) [] [] pos) X.env=(do
  let ov<-eval o X.env
  standAt apos.atName
  let(f,first) <-holding [ov] (getMethod ov m pl)
  callWith pos f first (backTo pos (starEach [] X.env)) (backToKw pos (keywordEach [] X.env))):=by rfl):
 RPE X (.Call (.Attribute o m apos) [] [] pos) (qkT C m sp ta qm9):=PE.imp (qnj he c hm F hr hb .nil qh8 ht) fun σ0 H Q0 h=>by
 obtain⟨σ,M,Q,hs,hv,ht,hk⟩:=h;refine⟨σ,M,_,hs,hv,ht,fun rx M1 x H1 q e1 v1 r1=>?_⟩
 cases rx with
 |ref a=>
  obtain⟨fs,hm,hl,q⟩:=q;simp only[Rep]at r1;subst r1;obtain⟨ho,eo,dx,gs,rfl,hg⟩:=v1 a _ hm;exact⟨a,dx,gs,rfl,eo,qeg hg hl,[.ref a],M1,Q,Reps.cons (by simp only[Rep]) Reps.nil,v1,q,hk.ext e1⟩
 |_=>exact(show False from q).elim
def qd0(lo:Int)(n:Nat):LR:=(List.range n).map fun(i:Nat)=>RV.int (lo+(i:Int))
end
section
variable {prog:Program}{w:World}{A:Around}{E:VSP}{s:Shared}
theorem qjg:∀ {vs:LVl} {ns:List Int},vs.length=ns.length->(∀ (j:Nat) v,vs[j]? =some v->∃ t,v= .int (ns.getD j 0) t)->IntsAre vs ns
 | [],[],_,_=>.nil
 |v::vs,n::ns,hl,h=>by
  obtain⟨t,e⟩:=h 0 v rfl;have e:v= .int n t:=e;subst e;exact .cons _ _ (qjg (by simpa using hl) fun j u hu=>h (j+1) u (by simpa using hu))
theorem qh0{d:Addr}{kvs:List (Key×Value)}{ns:List Int}{Q:VSP}(hh:A.handled=none)(hd:s.heap.DictOf (qai prog w) d kvs)(lo:(d==sysModules)=false)(hk:kvs.map (·.1)=ns.map Sum.inl)(h64:ns.length<64)
 (h:∀ (B:Addr) (h':Heap) (tk e:Nat) (vs':LVl) (ns':List Int),(∀ b o,s.heap.get? b=some o->h'.get? b=some o)->s.heap.get? B=none->h'.get? B=some { cls:=.type "list",data:=.seq vs'.toArray e }->IntsAre vs' ns'->ns'.Perm ns->ns'.Pairwise (· <= ·)->Q (.ref B) { s with heap:=h',toks:=tk }):
 wpAny (model prog w) A (call (.builtin "sorted") [.ref d]) Q E s:=by
 have hlk:kvs.length=ns.length:=by have:=congrArg List.length hk;simpa using this
 obtain⟨o,es,ep,g1,g2,g3,g4,g5,g6⟩:=id hd;have hat:s.heap.DictAt (qai prog w) d kvs ep:=⟨o,es,g1,g2,g3,g4,g5,g6⟩;refine Calls.call_function_entry kind_sorted plain_sorted entry_sorted (args_sorted1 (.ref d)) ?_;unfold Builtin.«sorted»;refine waa (m:=checkCount "sorted" 1 1 _) (wae ?_);refine waa (PySem.W.kdu_collect (A:=A.in1) (PySem.W.kdl_dict (knd:=qai prog w) (kvs:=kvs) (ep:=ep) lo) hh hat (by rw[hlk];exact was (wbm h64) (by decide)) fun g tk acc kp hacc=>?_)
 have hl:acc.toList.length=ns.length:=by rw[Array.length_toList,hacc.1,hlk]
 have hI:IntsAre acc.toList ns:=qjg hl fun j v e=>by
  obtain⟨k,x,hx,hki⟩:=hacc.2 j v (by rw[<-Array.getElem?_toList];exact e)
  have e2:(kvs.map (·.1))[j]? =some k:=by rw[wau,hx];rfl
  rw[hk,wau]at e2;cases q:ns[j]? with
  |none=>rw[q]at e2;cases e2
  |some m=>
   rw[q]at e2;have e3:(Sum.inl m:Key)=k:=wao e2;subst e3;obtain⟨t,rfl⟩:=Value.isInt_shape (show Value.isInt m v=true from hki)
   refine⟨t,?_⟩;rw[List.getD_eq_getElem?_getD,q];rfl
 refine waa (wpAny_newList ?_ (by rw[hl];exact was (wbm h64) (by decide)))
 have hoL:(g.push { cls:=.type "list",data:=.seq acc.toList.toArray }).get? g.objs.size=some (seqObj "list" acc.toList.toArray 0):=wah _ rfl;refine waa (wa0 (waO PyProof.Rows.slot_list_sort ⟨_,hoL,rfl⟩ PyProof.Rows.entry_list_sort (list_sort_tree (s:={ s with heap:=g.push { cls:=.type "list",data:=.seq acc.toList.toArray },toks:=tk }) hoL hI (by rw[hl];exact h64) fun out ns' a1 a2 a3=>⟨_,rfl,?_⟩) (args_list_sort _)))
 obtain⟨e,he⟩:=sortedHeap_at (out:=out) hoL;refine wae ⟨_,rfl,h g.objs.size _ tk e out.toList ns' (fun b o' q=>?_) ?_ (by rw[Array.toArray_toList];exact he) a1 a2 a3⟩
 · have q1:=kp b o' q
   have q2:b<g.objs.size:=wai q1;rw[sortedHeap_old (waq q2) (by rw[size_push'];exact wbz q2)]
   exact wab _ q1
 · cases q:s.heap.get? g.objs.size with
   |none=>rfl
   |some u=>exact waI (wai (kp _ u q)) (wa6 _)
end
theorem qk8{P:Program}{w:World}{H:Hp}{h:Heap}{a:Addr}{o:HO}(x:ObjOk P w H h a o):∃ u,h.get? a=some u:=by
 cases o with
 |lst xs=>obtain⟨_,_,_,_,e⟩:=x;exact⟨_,e⟩
 |tup xs=>obtain⟨_,_,_,o,e,_⟩:=x;exact⟨o,e⟩
 |dK kvs=>obtain⟨_,_,_,_,o,_,_,e,_⟩:=x;exact⟨_,e⟩
 |dT kvs=>obtain⟨_,_,_,_,o,_,_,e,_⟩:=x;exact⟨_,e⟩
 |set S n=>obtain⟨o,_,_,_,e,_⟩:=x;exact⟨_,e⟩
 |ins C dx fs=>obtain⟨_,_,_,e,_⟩:=x;exact⟨_,e⟩
 |own y=>obtain⟨_,e⟩:=x;exact⟨_,e⟩
 |xd fs=>obtain⟨_,⟨_,_,_,e,_⟩,_⟩:=x;exact⟨_,e⟩
 |rng lo hi=>obtain⟨_,_,_,e⟩:=x;exact⟨_,e⟩
 |frz ob u=>obtain⟨e,_⟩:=x;exact⟨_,e⟩
 |tbl ps=>exact⟨_,(show h.get? a=some _ from x)⟩
 |met f y=>exact⟨_,(show h.get? a=some _ from x)⟩
 |ext φ=>obtain⟨_,⟨_,e⟩,_⟩:=x;exact⟨_,e⟩
section
variable {X:Cx}{pins:LAO}{σ:L2.St}{H:Hp}{s:Shared}{h':Heap}{a:Addr}{o:HO}
theorem none_of(I:Inv X pins σ H s)(hn:s.heap.get? a=none):H a=none:=by
 cases q:H a with
 |none=>rfl
 |some u=>
  obtain⟨v,e⟩:=qk8 (I.hok a u q);rw[hn]at e;cases e
theorem qtq{t':Nat}(I:Inv X pins σ H s)(k:∀ b u,s.heap.get? b=some u->h'.get? b=some u)(hg:s.heap.get? a=none)(new:ObjOk X.prog X.w (upd H a o) h' a o):Inv X pins σ (upd H a o) { s with heap:=h',toks:=t' }:=by
 have hn:=none_of I hg;have ne:∀ b u,s.heap.get? b=some u->b≠a:=fun b u e z=>by rw[z,hg]at e;cases e
 refine I.un ⟨fun b u q _ _ _=>k b u q,fun b u q _ _ _=>⟨u.slots,k b u q⟩,fun b u q n _=>by rw[qaa (ne b u q)];exact n,fun b u q _=>⟨u,k b u q⟩,fun b xs q=>by rw[qaa (qab q hn)];exact q,fun b u xs q=>by rw[qaa (qab q hn)];exact q,fun b ps q=>⟨#[],by rw[qaa (qab q hn),q];simp⟩⟩ fun b u e=>?_
 by_cases hb:b=a
 · subst hb;rw[qag]at e;cases e;exact new
 · rw[qaa hb]at e
   exact(I.hok b u e).stay (fun c v _ q=>k c v q) (fun c q=>by rw[qaa (qab q hn)];exact q) fun c xs q=>by rw[qaa (qab q hn)];exact q
end
theorem vals_ints:∀ {vs:LVl} {ns:List Int},IntsAre vs ns->Vals (ns.map V.int) vs
 |_,_,.nil=>.nil
 |_,_,.cons _ t r=>.cons ⟨t,rfl⟩ (vals_ints r)
theorem qee{K:Frg}{H:Hp}:∀ (ns:List Int),Reps K H (ns.map RV.int) (ns.map V.int)
 | []=>Reps.nil
 |n::r=>Reps.cons (by simp only[Rep]) (qee r)
theorem qei{κ:Type}{K:Frg}{H:Hp}:∀ {kvs:List (κ×RV)} {ws:List (κ×V)},RepP K H kvs ws->kvs.map (·.1)=ws.map (·.1)
 | [],ws,h=>by have h':ws= []:=h;subst h';rfl
 |(j,x)::r,ws,h=>by
  obtain⟨w,t,rfl,h1,h2⟩:=h;rw[wan,wan,qei h2]
theorem qlo{κ:Type}:∀ {ws:List (κ×V)} {vs:List (κ×Value)},KV ws vs->ws.map (·.1)=vs.map (·.1)
 |_,_,.nil=>rfl
 |_,_,.cons r t=>by rw[wan,wan,r.1,qlo t]
section
variable {X:Cx}
noncomputable def qou:LR->RM->RVK->Prop:=fun rs M Q=>∃ a kvs ns,rs= [.ref a]/\M a=some (.dk kvs)/\kvs.map (·.1)=ns.map Sum.inl/\ns.length<64/\∀ ns':List Int,ns'.Perm ns->ns'.Pairwise (· <= ·)->Q (.ls (ns'.map RV.int)) M
theorem qn3(hc:X.calm=true):qaQ X (.builtin "sorted") (upC X.K qou):=by
 intro pins s σ H xs us Q0 I rl h;obtain⟨rs,M,Q,rr,hv,hq,hk⟩:=h;obtain⟨a,kvs,ns,rfl,hm,hkk,h64,hq⟩:=hq;simp only[Reps,Rep]at rr;obtain⟨v,r,rfl,rfl,rfl⟩:=rr;obtain⟨u,rfl,ru⟩:=vals1 rl;cases ru;obtain⟨ho,eo,ws,rfl,hg⟩:=hv a _ hm;obtain⟨hz,hS,vs,r,m⟩:ws.length<=sizeLine/\(a==sysModules)=false/\∃ vs,KV ws vs/\s.heap.DictOf (qai X.prog X.w) a vs:=I.hok a _ eo;refine qh0 (I.ok.hd hc) m hS (by rw[<-qlo r,<-qei hg];exact hkk) h64 fun B h' tk e vs' ns' kp hB hget hI hp ho=>?_
 have hn:=none_of I hB;have hl:ns'.length<=sizeLine:=by rw[hp.length_eq];exact was (wbm h64) (by decide)
 refine frozen ⟨.ref B,upd H B (.lst (ns'.map V.int)),qtq I kp hB ⟨by rw[waj];exact hl,vs',e,vals_ints hI,hget⟩,rfl,H,B,_,rfl,hn,rfl,fun o=>?_⟩
 exact hk _ M _ _ (hq ns' hp ho) (Ext.new hn) (hv.new hn) (qbZ hn (qee ns'))
def qsv:LR->RM->RVK->Prop:=fun rs M Q=>match rs with
 | [.int i,.int j]=>Q (.int (if j > i then j else i)) M
 |_=>False
theorem qD5(hc:X.calm=true):qaQ X (.builtin "max") (upC X.K qsv):=by
 intro pins s σ H xs us Q0 I rl h;obtain⟨rs,M,Q,rr,hv,hq,hk⟩:=h
 match rs,hq with
 | [.int i,.int j],hq=>
  simp only[Reps,Rep]at rr;obtain⟨v,r,rfl,rfl,v',r',rfl,rfl,rfl⟩:=rr;exact qmo hc pins s σ H _ us Q0 I rl ⟨i,j,rfl,hk _ M _ H hq (.refl H) hv (by simp only[Rep])⟩
end
open PySem.W
section
variable {X:Cx}{pins:LAO}{σ:L2.St}{H:Hp}{s:Shared}
def qa3(M:RM):RV->RV
 | .ref a=>(match M a with|some (.lst xs)=>.ls xs|_=>.ref a)
 |x=>x
theorem ql9(I:Inv X pins σ H s){n:Nat}:∀ {rs:LR} {vs:LV} {us:LVl},rs.all (okR n)=true->Reps X.K H rs vs->Vals vs us->Dens s.heap rs us
 | [],vs,us,_,r,w=>by
  have e:vs= []:=by simpa only[Reps]using r
  subst e;cases w;simp only[Dens]
 |x::rs,vs,us,o,r,w=>by
  rw[wav,wac]at o;simp only[Reps]at r;obtain⟨v,vs',rfl,r1,r2⟩:=r;obtain⟨u,us',rfl,w1,w2⟩:=Vals.cons_inv w;simp only[Dens];exact⟨u,us',rfl,qcc I n x v u o.1 r1 w1,ql9 I o.2 r2 w2⟩
theorem qd5(I:Inv X pins σ H s){M:RM}(hv:View X.K H M){a:RV}{x:V}{v:Value}(o:okR 16 (qa3 M a)=true)(ra:Rep X.K H a x)(rx:RelV x v):Den s.heap (qa3 M a) v:=by
 cases a with
 |ref p=>
  cases q:M p with
  |none=>rw[show qa3 M (.ref p)= .ref p by simp only[qa3,q]]at o;cases o
  |some ob=>
   cases ob with
   |lst xs=>
    have e:qa3 M (.ref p)= .ls xs:=by simp only[qa3,q]
    rw[e]at o ⊢;simp only[Rep]at ra;subst ra;cases rx;obtain⟨ho,e0,vs,rfl,hr⟩:=hv p _ q;obtain⟨its,rv,pl,hz⟩:=I.list (SqL.of e0);simp only[Den];exact⟨p,its,rfl,pl.isList,ql9 I (n:=15) o hr rv⟩
   |_=>rw[show qa3 M (.ref p)= .ref p by simp only[qa3,q]]at o;cases o
 |_=>exact qcc I 16 _ x v o ra rx
def qAt:RR2:=fun x y M Q=>okR 16 (qa3 M x)=true/\okR 16 (qa3 M y)=true/\Q (.bl (eqR (qa3 M x) (qa3 M y))) M
def qAj:RR2:=fun x y M Q=>okR 16 (qa3 M x)=true/\okR 16 (qa3 M y)=true/\Q (.bl (!eqR (qa3 M x) (qa3 M y))) M
theorem qDN(hu:X.A.units+64<cLine):ROp X (compareOp .Eq) qAt:=by
 intro pins s σ H x y v u Q0 I rx ry h;obtain⟨a,b,M,Q,ra,rb,hv,⟨o1,o2,hq⟩,hk⟩:=h;exact qm2 15 _ _ X.A s v u o1 o2 (qd5 I hv o1 ra rx) (qd5 I hv o2 rb ry) (by omega) _ _ _ _ ⟨.bl _,H,I,rfl,hk _ M _ H hq (.refl H) hv (by simp only[Rep])⟩
theorem qDJ(hu:X.A.units+64<cLine):ROp X (compareOp .NotEq) qAj:=by
 intro pins s σ H x y v u Q0 I rx ry h;obtain⟨a,b,M,Q,ra,rb,hv,⟨o1,o2,hq⟩,hk⟩:=h;exact qjy 15 _ _ X.A s v u o1 o2 (qd5 I hv o1 ra rx) (qd5 I hv o2 rb ry) (by omega) _ _ _ _ ⟨.bl _,H,I,rfl,hk _ M _ H hq (.refl H) hv (by simp only[Rep])⟩
end
section
variable {X:Cx}
noncomputable def qm8:List (Str×RTE)->RSt->RM->(LKR->RM->Prop)->Prop
 | [],_,M,Q=>Q [] M
 |(k,tv)::r,σ,M,Q=>tv σ M fun y M2=>qm8 r σ M2 fun ps M3=>Q ((Sum.inr k,y)::ps) M3
def quL(X:Cx)(pos:Pos)(ks:List (Option Expr))(vs:LEx)(kvs:List (Str×RTE)):Prop:=
 ∃ trs,PPs X pos ks vs trs/\∀ σ0 H (Q0:List (V×V)->Hp->Prop) σ M Q,RepSt X.K H σ σ0->View X.K H M->qm8 kvs σ M Q->
  (∀ ps M' ws H',Q ps M'->Ext H H'->View X.K H' M'->RepP X.K H' ps ws->ps.map (·.1)=kvs.map (fun p=>(Sum.inr p.1:Key))->Q0 (ws.map fun kv=>(kV kv.1,kv.2)) H')->qiP trs σ0 H Q0
theorem qBL{pos:Pos}:quL X pos [] [] []:=⟨[],qp0,fun σ0 H Q0 σ M Q hs hv h k=>k [] M [] H h (.refl H) hv rfl rfl⟩
theorem qvl{pos p:Pos}{x:Str}{j:Nat}{v:Expr}{ks:List (Option Expr)}{vs:LEx}{tv:RTE}{kvs:List (Str×RTE)}(hv:RPE X v tv)(hr:quL X pos ks vs kvs):
 quL X pos (some (.Constant (.str x) j p)::ks) (v::vs) ((x,tv)::kvs):=by
 obtain⟨trs,h1,h2⟩:=hr;refine⟨_,qng qoD hv h1,fun σ0 H Q0 σ M Q hs hw h k=>?_⟩
 refine⟨σ,M,_,hs,hw,h,fun ry M1 y H1 q e1 v1 r1=>?_⟩
 refine h2 σ0 H1 _ σ M1 _ (hs.ext e1) v1 q fun ps M' ws H' q' e' v' r' ek=>?_
 exact k _ M' ((Sum.inr x,y)::ws) H' q' (e1.trans e') v' ⟨y,ws,rfl,Rep.ext e' _ _ r1,r'⟩ (by rw[wan,wan,ek])
noncomputable def qsz (kvs:List (Str×RTE)):RTE:=fun σ M Q=>∀ p,M p=none->qm8 kvs σ (put M p (.dk [])) fun ps M2=>M2 p=some (.dk [])/\Q (.ref p) (put M2 p (.dk ps))
theorem qwj{pos:Pos}{keys:List (Option Expr)}{values:LEx}{kvs:List (Str×RTE)}(h:quL X pos keys values kvs)(hnd:(kvs.map (·.1)).Nodup)(hlen:kvs.length<=15)(hall:keys.all (·.isSome)=true:=by rfl)(hl:keys.length=values.length:=by rfl)(h0:keys≠[])
 (h15:keys.length<=15):RPE X (.Dict keys values pos) (qsz kvs):=by
 obtain⟨trs,h1,h2⟩:=h;refine PE.imp (qp9 h1 hall hl h0 h15) fun σ0 H Q0 h=>?_
 obtain⟨σ,M,Q,hs,hv,ht,hk⟩:=h;intro p hp;refine h2 σ0 (upd H p (.dK [])) _ σ (put M p (.dk [])) _ (hs.ext (Ext.new hp)) (hv.newPut hp ⟨[],rfl,rfl⟩) (ht p (hv.free hp)) fun ps M' ws H' q' e' v' r' ek=>?_
 obtain⟨hm,q'⟩:=q';obtain⟨ho,e0,ws2,rfl,g2⟩:=v' p _ hm;have hz:ws2= []:=g2;subst hz;have kk:ws.map (·.1)=kvs.map (fun p=>(Sum.inr p.1:Key)):=by rw[<-qei r'];exact ek
 have kn:(ws.map Prod.fst).Nodup:=by
  have e:ws.map Prod.fst=(kvs.map (·.1)).map (Sum.inr:Str->Key):=by rw[waG];exact kk
  rw[e];exact qen hnd
 have kl:ws.length=kvs.length:=by have:=congrArg List.length kk;simpa using this
 refine⟨e0,ws,rfl,by omega,?_⟩
 have em:qcF [] ws=ws:=qdr ws [] (by simpa using kn)
 rw[em];have ex:Ext H' (upd H' p (.dK ws)):=Ext.write e0 rfl;exact hk _ _ _ _ q' (((Ext.new hp).trans e').trans ex) (v'.write hm ⟨ws,rfl,r'.ext ex⟩) (by simp only[Rep])
noncomputable def kLR (Q:RVK):LR->RM->Prop:=fun rs M=>match rs with
 | [.int i,.int j]=>(-1000000<=i/\i<=1000000/\-1000000<=j/\j<=1000000)/\(j-i).toNat<=1000/\Q (.ls (qd0 i (j-i).toNat)) M
 |_=>False
def qow(ta tb:RTE):RTE:=fun σ M Q=>qjC ta (qjC tb qm9) σ M (kLR Q)
theorem qgu(a:Int):∀ (vs:LVl) (k:Nat),(∀ (j:Nat) v,vs[j]? =some v->∃ t,v= .int (a+((k+j:Nat):Int)) t)->Vals ((List.range' k vs.length).map fun(j:Nat)=>V.int (a+(j:Int))) vs
 | [],_,_=>.nil
 |v::vs,k,h=>by
  obtain⟨t,e⟩:=h 0 v rfl;rw[wal,List.range'_succ,wan];refine .cons ⟨t,e⟩ (qgu a vs (k+1) fun j u hu=>?_)
  obtain⟨t',e'⟩:=h (j+1) u (by simpa using hu)
  refine⟨t',?_⟩;rw[e',show k+(j+1)=k+1+j by omega]
theorem qgL{K:Frg}{H:Hp}(a:Int):∀ (l:List Nat),Reps K H (l.map fun(j:Nat)=>RV.int (a+(j:Int))) (l.map fun(j:Nat)=>V.int (a+(j:Int)))
 | []=>Reps.nil
 |j::r=>Reps.cons (by simp only[Rep]) (qgL a r)
theorem boot_list:bootBuiltins "list" =some (.type "list"):=by decide+kernel
theorem qsc{a b:Expr}{t1 t2:RTE}{p1 p2 pos2 pos:Pos}(hml:X.mg "list" =none)(hmr:X.mg "range" =none)(hc:X.calm=true)(ha:RPE X a t1)(hb:RPE X b t2)(hgl:Gl X "list")(hgr:Gl X "range")
 (hst:starEach [a,b] X.env= [(false,eval a X.env),(false,eval b X.env)]:=by rfl) (hs2:starEach [b] X.env= [(false,eval b X.env)]:=by rfl)
 (he1:starEach [a,b] X.env=(false,eval a X.env)::starEach [b] X.env:=by rfl) (he2:starEach [b] X.env=(false,eval b X.env)::starEach [] X.env:=by rfl)
 (he0:starEach [Expr.Call (.Name "range" p2) [a,b] [] pos2] X.env=(false,eval (Expr.Call (.Name "range" p2) [a,b] [] pos2) X.env)::starEach [] X.env:=by rfl):
 RPE X (.Call (.Name "list" p1) [.Call (.Name "range" p2) [a,b] [] pos2] [] pos) (qow t1 t2):=by
 intro pins s σ0 H Q0 I h;obtain⟨σ,M,Q,hs,hv,ht,hk⟩:=h;have args:RPA X [a,b] (qjC t1 (qjC t2 qm9)):=qoe ha (qoe hb qxY he2) he1;refine Call_ (qds I hgl hml boot_list (waT ?_ he0 rfl));rw[he0];show wpAny _ _ (spliced ((false,eval (Expr.Call (.Name "range" p2) [a,b] [] pos2) X.env)::backTo pos (starEach [] X.env))) _ _ s;refine Calls.spliced_cons (Call_ (qds I hgr hmr boot_range (waT (thn (args pos2 pins s σ0 H (fun vs H1=>∃ i j M1,vs= [V.int i,V.int j]/\kLR Q [.int i,.int j] M1/\Ext H H1/\View X.K H1 M1) I ⟨σ,M,_,hs,hv,ht,fun rs M1 vs H1 q e1 v1 r1=>?_⟩) fun us s1 q1=>?_) (by rw[hst,hs2]) (by rw[hs2];rfl))))
 · unfold kLR at q
   split at q
   · simp only[Reps,Rep]at r1
     obtain⟨v,r,rfl,rfl,v',r',rfl,rfl,rfl⟩:=r1;exact⟨_,_,M1,rfl,q,e1,v1⟩
   · exact q.elim
 · obtain⟨vs,H1,I1,rv,i,j,M1,rfl,q,e1,v1⟩:=q1
   obtain⟨u1,us1,rfl,q1,rv⟩:=Vals.cons_inv rv;obtain⟨u2,us2,rfl,q2,rv⟩:=Vals.cons_inv rv;cases rv;obtain⟨tt1,rfl⟩:=q1;obtain⟨tt2,rfl⟩:=q2;obtain⟨⟨b1,b2,b3,b4⟩,hn,q⟩:=q;refine call_range_2 ?_;have I2:=I1.kept (h':=s1.heap.push { cls:=.type "range",data:=.fields #[.int i tt1,.int j tt2,.int 1 s1.toks] }) (t':=s1.toks+1) (fun b o e=>wab _ e)
   refine Calls.spliced_nil ?_;have hsz:Builtin.Range.rangeSize i j 1=((j-i).toNat:Int):=by rw[rangeSize_one];split<;>omega
   refine call_list_range (I2.ok.hd hc) (IsRange.new s1.heap i j 1 tt1 tt2 s1.toks) (small_one (by omega) (by omega) (by omega) (by omega)) hsz (by omega) fun h' tk acc c' kp hget hit=>?_
   have hfr:=I2.hok.fresh (waf _);have hv2:Vals ((List.range (j-i).toNat).map fun(k:Nat)=>V.int (i+(k:Int))) acc.toList:=by
    have:=qgu i acc.toList 0 fun k v e=>by
     obtain⟨t,e'⟩:=hit.2 k v (by rw[<-Array.getElem?_toList];exact e)
     exact⟨t,by rw[e'];simp⟩
    rw[Array.length_toList,hit.1]at this;rw[List.range_eq_range'];exact this
   refine frozen ⟨.ref _,_,I2.laid kp (waf _) (o:=.lst ((List.range (j-i).toNat).map fun(k:Nat)=>V.int (i+(k:Int)))) ⟨by rw[waj,wbA];exact was hn (by decide),acc.toList,c',hv2,by rw[Array.toArray_toList];exact hget⟩,rfl,H1,_,_,rfl,hfr,rfl,fun o=>?_⟩
   exact hk _ M1 _ _ q (e1.trans (Ext.new hfr)) (v1.new hfr) (qbZ hfr (qgL i _))
end
structure RMt(P:Program)(w:World)(K:Frg)(mg:SOV)(base:Heap)(C:Addr)(k:Nat)(m:Str)(ps:LSt)(sp:RSp):Prop where
 ex:∃ (g:Addr) (fd:FuncData),Meth K C m g/\Binds K fd ps []/\qc4 P w K mg base CX0 k g fd ps (qfB K sp)
structure RIn(P:Program)(w:World)(K:Frg)(mg:SOV)(base:Heap)(C:Addr)(k:Nat)(ps:LSt)(sp:RSp):Prop where
 ex:∃ (g:Addr) (fd:FuncData),Mk K C g/\Binds K fd ps []/\qc4 P w K mg base CX0 k g fd ps (qfB K sp)
section
variable {X:Cx}{x m:Str}{p pos apos:Pos}{o e:Expr}{es:LEx}{t:RTA}{ta:RTE}{k:Nat}{ps:LSt}{sp:RSp}{C:Addr}
theorem qr9{pl:Sem Bool}(F:RMt X.prog X.w X.K X.mg X.base C k m ps sp)(c:Cls X.K C)(hr:Room k X.A)(he:RPE X o ta)(ha:RPA X (e::es) t)
 (hst:starEach (e::es) X.env=(false,eval e X.env)::starEach es X.env:=by rfl) (hpl:(backTo pos (starEach es X.env)).any (·.1)=false:=by rfl)
 (ht:eval (.Call (.Attribute o m apos) (e::es) [] pos) X.env=(do
  let ov<-eval o X.env
  standAt apos.atName
  let(f,first) <-holding [ov] (getMethod ov m pl)
  callWith pos f first (backTo pos (starEach (e::es) X.env)) (backToKw pos (keywordEach [] X.env))):=by rfl):
 RPE X (.Call (.Attribute o m apos) (e::es) [] pos) (qkT C m sp ta t):=by
 obtain⟨g,fd,hm,hb,F⟩:=F.ex;exact qwf he c hm F hr hb ha hst hpl ht
theorem qpK{pl:Sem Bool}(F:RMt X.prog X.w X.K X.mg X.base C k m ps sp)(c:Cls X.K C)(hr:Room k X.A)(he:RPE X o ta)
 (ht:eval (.Call (.Attribute o m apos) [] [] pos) X.env=(do
  let ov<-eval o X.env
  standAt apos.atName
  let(f,first) <-holding [ov] (getMethod ov m pl)
  callWith pos f first (backTo pos (starEach [] X.env)) (backToKw pos (keywordEach [] X.env))):=by rfl):
 RPE X (.Call (.Attribute o m apos) [] [] pos) (qkT C m sp ta qm9):=by
 obtain⟨g,fd,hm,hb,F⟩:=F.ex;exact qsa he c hm F hr hb ht
theorem qsb(F:RIn X.prog X.w X.K X.mg X.base C k ps sp)(hr:Room (k+1) X.A)(hm:X.mg x=some (.ref C))(ha:RPA X (e::es) t)(hg:Gl X x:=by rfl)(hdb:(x==("__debug__":Str))=false:=by decide)
 (he:starEach (e::es) X.env=(false,eval e X.env)::starEach es X.env:=by rfl) (hpl:(backTo pos (starEach es X.env)).any (·.1)=false:=by rfl):RPE X (.Call (.Name x p) (e::es) [] pos) (qjB C sp t):=by
 obtain⟨g,fd,hM,hb,F⟩:=F.ex;exact qwg (h0:=0) hM F hr hm hb ha hg hdb he hpl
end
section
variable {X:Cx}
noncomputable def qsw:LR->RM->RVK->Prop:=fun rs M Q=>match rs with
 | [.ref a,.ty T']=>T'= "list"/\(match M a with|some (.lst _)=>Q (.bl true) M|_=>False)
 |_=>False
theorem qkb:qaQ X (.builtin "isinstance") (upC X.K qsw):=by
 intro pins s σ H xs us Q0 I rl h;obtain⟨rs,M,Q,rr,hv,hq,hk⟩:=h;unfold qsw at hq;split at hq
 · rename_i a T'
   obtain⟨rfl,hq⟩:=hq;obtain⟨v,w,rfl,r1,r2⟩:=rr.two;obtain⟨u,u',rfl,w1,w2⟩:=vals2 rl;simp only[Rep]at r1 r2;subst r1;subst r2;obtain rfl:u'=Value.type "list":=w2;cases(show u=Value.ref a from w1)
   split at hq
   · rename_i ys em
     obtain⟨ho,e,r⟩:=hv a _ em;obtain⟨vs,rfl,hr⟩:=r;obtain⟨its,_,pt,_⟩:=I.list (SqL.of e);obtain⟨o,h1,h2,_⟩:=pt.isList;exact wbg PySem.W.kitx_list I.kIn ⟨o,h1,h2⟩ (qez X.K) (fun z=>nomatch z) fun tk=>⟨.bl true,H,I.tok tk,rfl,hk _ M _ H hq (.refl H) hv (by simp only[Rep])⟩
   · exact hq.elim
 · exact hq.elim
end
abbrev TK:=List (Option Key)
def qta:RV->Option (Option Key)
 | .non=>some none
 | .int i=>some (some (.inl i))
 | .str x=>some (some (.inr x))
 |_=>none
def qk6:LR->Option TK
 | []=>some []
 |r::rs=>match qta r,qk6 rs with
  |some k,some ks=>some (k::ks)
  |_,_=>none
def qgl:RV->Option TK
 | .tup rs=>qk6 rs
 |_=>none
def qe9(kvs:List (TK×Str))(k:TK):RV:=match kvs.find? fun p=>decide (p.1=k)with
 |some p=>.str p.2
 |none=>.non
noncomputable def quJ:List (TK×Str)->List (TK×Addr×Value)->Prop
 | [],[]=>True
 |(k,y)::r,(k',_,v)::r'=>k=k'/\(∃ t,v= .str y t)/\quJ r r'
 |_,_=>False
theorem qgv{k:TK}:∀ {kvs:List (TK×Str)} {xs:List (TK×Addr×Value)},quJ kvs xs->
 (∃ y t,qe9 kvs k= .str y/\((PySem.atKey xs k).map (·.2)).getD .none= .str y t)∨(qe9 kvs k= .non/\((PySem.atKey xs k).map (·.2)).getD .none= .none)
 | [],[],_=>.inr ⟨rfl,rfl⟩
 |(k1,y)::r,(k',a,v)::r',⟨e,⟨t,ev⟩,h⟩=>by
  subst e;subst ev
  by_cases q:k1=k
  · subst q
    exact .inl ⟨y,t,by simp[qe9],by simp[PySem.atKey]⟩
  · have e1:qe9 ((k1,y)::r) k=qe9 r k:=by simp[qe9,q]
    have e2:PySem.atKey ((k1,a,Value.str y t)::r') k=PySem.atKey r' k:=by simp[PySem.atKey,q]
    rw[e1,e2];exact qgv h
structure qiL(P:Program)(w:World)(K:Frg)(mg:SOV)(x:Str)(kvs:List (TK×Str)):Prop where
 ex:∃ a xs,mg x=some (.ref a)/\(a==sysModules)=false/\(∀ h:Heap,K.In h->h.DictOfH (tupleKind (optKind P w)) a xs)/\quJ kvs xs
theorem qnL{P:Program}{w:World}{K:Frg}{mg:SOV}{x:Str}{a:Addr}{es:Array DictEntry}{ep:Nat}{sl:Array (OVl)}{xs:List (TK×Addr×Value)}{kvs:List (TK×Str)}
 (hm:mg x=some (.ref a)) (l:K.lookup a=some ⟨.type "dict",none,.dict es ep,sl⟩) (ha:(a==sysModules)=false) (hsl:Obj.ExactDict ⟨.type "dict",none,.dict es ep,sl⟩)
 (he:es.toList=xs.map (entryOfKey (tupleKind (optKind P w)))) (hi:∀ y∈xs,∃ o items n,K.lookup y.2.1=some o/\o.cls= .type "tuple"/\o.data= .seq items n/\ItemsAre (optKind P w) y.1 items.toList)
 (hn:(xs.map (·.1)).Nodup) (hv:quJ kvs xs):qiL P w K mg x kvs:=
 ⟨a,xs,hm,ha,fun h X=>⟨_,es,ep,X _ _ l,hsl,rfl,he,fun y hy=>by
  obtain⟨o,items,n,h1,h2,h3,h4⟩:=hi y hy;exact⟨o,items,n,X _ _ h1,h2,h3,h4⟩,hn⟩,hv⟩
theorem qi3{P:Program}{w:World}{K:Frg}{H:Hp}:∀ {rs:LR} {ks:TK} {vs:LV} {its:LVl},qk6 rs=some ks->Reps K H rs vs->Vals vs its->ItemsAre (optKind P w) ks its
 | [],ks,vs,its,e,r,v=>by
  cases e;simp only[Reps]at r;subst r;cases v;exact .nil
 |r::rs,ks,vs,its,e,hr,v=>by
  obtain⟨x,xs,rfl,h1,h2⟩:=(by simpa only[Reps]using hr:∃ v r',vs=v::r'/\Rep K H r v/\Reps K H rs r')
  cases v with
  |cons v1 v2=>
   rename_i u its';simp only[qk6]at e;cases e1:qta r with
   |none=>rw[e1]at e;cases e
   |some k=>
    cases e2:qk6 rs with
    |none=>rw[e1,e2]at e;cases e
    |some ks'=>
     rw[e1,e2]at e;cases e;refine .cons ?_ (qi3 e2 h2 v2);cases r with
     |non=>
      cases e1;have:x= .non:=by simpa only[Rep]using h1
      subst this;cases(show u=Value.none from v1)
      rfl
     |int i=>
      cases e1;have:x= .int i:=by simpa only[Rep]using h1
      subst this;exact qdk (P:=P) (w:=w) (k:=.inl i) v1
     |str y=>
      cases e1;have:x= .str y:=by simpa only[Rep]using h1
      subst this;exact qdk (P:=P) (w:=w) (k:=.inr y) v1
     |_=>cases e1
section
variable {X:Cx}
def qf1(kvs:List (TK×Str))(Q:RVK):RVK:=fun k M1=>match qgl k with
 |some ks=>Q (qe9 kvs ks) M1
 |none=>False
def qfL(kvs:List (TK×Str))(te:RTE):RTE:=fun σ M Q=>te σ M (qf1 kvs Q)
theorem qpG{x:Str}{kvs:List (TK×Str)}{e:Expr}{te:RTE}{p apos cpos:Pos}(hu:X.A.units+1<cLine)(T:qiL X.prog X.w X.K X.mg x kvs)(he:RPE X e te)(m:M1 X (.Name x p) "get" apos e cpos:=by exact⟨rfl,rfl,rfl,rfl⟩)
 (hg:Gl X x:=by rfl) (hd:(x==("__debug__":Str))=false:=by decide):RPE X (.Call (.Attribute (.Name x p) "get" apos) [e] [] cpos) (qfL kvs te):=by
 obtain⟨a,xs,hm,ha,hD,hk⟩:=T.ex;intro pins s σ0 H Q0 I h;obtain⟨σ,M,Q,hs',hv,ht,hq⟩:=h;have d0:=hD _ I.kIn;refine wpAny_Call_method m.base m.few m.line PySem.F.plainAttrs_dict PySem.F.slot_dict_get PySem.F.type_dict_get (qb8 I hg hm ⟨d0.typeIs,fun b q=>?_,?_⟩ hd)
 · cases q
   obtain⟨ob,_,_,h1,h2,_⟩:=d0;exact⟨ob,h1,h2.2.1⟩
 rw[m.trees];refine Calls.callWith_builtin rfl (Calls.evalArgs_plain (Calls.spliced_cons (thn (he pins s σ0 H (fun v H1=>∃ r M1,Rep X.K H1 r v/\Ext H H1/\View X.K H1 M1/\qf1 kvs Q r M1) I ⟨σ,M,_,hs',hv,ht,fun r M1 v H1 q e w r1=>⟨r,M1,r1,e,w,q⟩⟩)
  fun iv s2 ⟨y,H2,I2,ry,r,M2,rr,e2,w2,q2⟩=>Calls.spliced_nil ?_)))
 unfold qf1 at q2;cases ek:qgl r with
 |none=>rw[ek]at q2;exact q2.elim
 |some ks=>
  rw[ek]at q2;simp only at q2;cases r with
  |tup rs=>
   obtain⟨b,vs,rfl,hS,hR⟩:=(by simpa only[Rep]using rr:∃ a vs,y= .ref a/\H2 a=some (.tup vs)/\Reps X.K H2 rs vs)
   cases(show iv=Value.ref b from ry)
   obtain⟨its,hV,⟨o,h1,h2,n,h3⟩,_⟩:=I2.tuple (SqT.of hS);have key:IsTupleKey (optKind X.prog X.w) s2.heap ks b:=⟨o,its.toArray,n,h1,h2,h3,by simpa using qi3 ek hR hV⟩
   have dd:=hD _ I2.kIn;rcases qgv (k:=ks) hk with⟨z,t,e1,e2'⟩|⟨e1,e2'⟩
   · refine call_meetsIn PySem.F.slot_dict_get dd.typeIs PySem.F.entry_dict_get (PySem.F.args_dict_get_2 _ _) (meetsH_dict_get (tupleKind (optKind X.prog X.w)) a b ha) ⟨tupleKind_room_in1 hu,ks,xs,key,dd,.str z,H2,I2.tok _,by rw[e2'];exact⟨t,rfl⟩,?_⟩
     exact hq _ M2 _ H2 q2 e2 w2 (by rw[e1];simp only[Rep])
   · refine call_meetsIn PySem.F.slot_dict_get dd.typeIs PySem.F.entry_dict_get (PySem.F.args_dict_get_2 _ _) (meetsH_dict_get (tupleKind (optKind X.prog X.w)) a b ha) ⟨tupleKind_room_in1 hu,ks,xs,key,dd,.non,H2,I2.tok _,by rw[e2'];rfl,?_⟩
     exact hq _ M2 _ H2 q2 e2 w2 (by rw[e1];simp only[Rep])
  |_=>cases ek
end
section
variable {κ:Type}[DecidableEq κ]{K:Frg}{H:Hp}{k:κ}{v:RV}{u:V}
def lk{α:Type}(kvs:List (κ×α))(k:κ):Option α:=(kvs.find? fun p=>decide (p.1=k)).map (·.2)
theorem qaz{α:Type}{j:κ}{x:α}{r:List (κ×α)}:lk ((j,x)::r) k=if j=k then some x else lk r k:=by
 unfold lk;rw[waN]
 by_cases h:j=k
 · rw[wag h,wba (show(j,x).1=k from h)];rfl
 · rw[wad h,waB (show ¬(j,x).1=k from h)]
noncomputable def pt {α:Type}(kvs:List (κ×α))(k:κ)(v:α):List (κ×α):=
 if(kvs.any fun kv=>decide (kv.1=k))=true then kvs.map (fun kv=>if kv.1=k then(kv.1,v)else kv)else kvs++ [(k,v)]
theorem qbi:∀ {kvs:List (κ×RV)} {ws:List (κ×V)},RepP K H kvs ws->(∀ r,lk kvs k=some r->∃ v,qeU ws k=some v/\Rep K H r v)/\(lk kvs k=none->qeU ws k=none)
 | [],ws,h=>by
  have h:ws= []:=h;subst h;exact⟨fun r e=>(by cases e),fun _=>rfl⟩
 |(j,x)::t,ws,h=>by
  obtain⟨v,u,rfl,h1,h2⟩:=h;have ih:=qbi h2;rw[qaz]
  by_cases hj:j=k
  · rw[wag hj]
    refine⟨fun r e=>⟨v,qcz (p:=(j,v)) hj,?_⟩,fun e=>(by cases e)⟩
    cases e;exact h1
  · rw[wad hj]
    exact⟨fun r e=>by rw[qbM (p:=(j,v)) hj];exact ih.1 r e,fun e=>by rw[qbM (p:=(j,v)) hj];exact ih.2 e⟩
theorem qgN:∀ {kvs:List (κ×RV)} {ws:List (κ×V)},RepP K H kvs ws->(kvs.any fun kv=>decide (kv.1=k))=ws.any fun kv=>decide (kv.1=k)
 | [],ws,h=>by have h':ws= []:=h;subst h';rfl
 |(j,x)::r,ws,h=>by
  obtain⟨w,t,rfl,h1,h2⟩:=h;rw[wa7,wa7,qgN h2]
theorem qeh(hv:Rep K H v u):∀ {kvs:List (κ×RV)} {ws:List (κ×V)},RepP K H kvs ws->RepP K H (kvs.map fun kv=>if kv.1=k then(kv.1,v)else kv) (ws.map fun kv=>if kv.1=k then(kv.1,u)else kv)
 | [],ws,h=>by have h':ws= []:=h;subst h';rfl
 |(j,x)::r,ws,h=>by
  obtain⟨w,t,rfl,h1,h2⟩:=h;rw[wan,wan]
  by_cases e:j=k
  · rw[wag (show(j,x).1=k from e),wag (show(j,w).1=k from e)];exact⟨u,_,rfl,hv,qeh hv h2⟩
  · rw[wad (show ¬(j,x).1=k from e),wad (show ¬(j,w).1=k from e)];exact⟨w,_,rfl,h1,qeh hv h2⟩
theorem qkE(hv:Rep K H v u){kvs:List (κ×RV)}{ws:List (κ×V)}(h:RepP K H kvs ws):RepP K H (pt kvs k v) (putK ws k u):=by
 unfold pt putK;rw[qgN h];split
 · exact qeh hv h
 · exact qiW h ⟨u,[],rfl,hv,rfl⟩
end
theorem qnx{K:Frg}{H:Hp}{r:RV}{x:V}{k:Option Key}(e:qta r=some k)(h:Rep K H r x):x=oV k:=by
 cases r<;>first|(cases e;simp only[Rep]at h;exact h)|cases e
theorem qi4{K:Frg}{H:Hp}:∀ {rs:LR} {vs:LV} {ks:TK},qk6 rs=some ks->Reps K H rs vs->vs=ks.map oV
 | [],vs,ks,e,h=>by cases e;exact h
 |r::rs,vs,ks,e,h=>by
  simp only[Reps]at h;obtain⟨v,t,rfl,h1,h2⟩:=h;unfold qk6 at e;split at e
  · rename_i a b e1 e2
    cases e;rw[qnx e1 h1,qi4 e2 h2];rfl
  · cases e
theorem qd2{K:Frg}{H:Hp}{r:RV}{x:V}{k:TK}(e:qgl r=some k)(h:Rep K H r x):∃ b,x= .ref b/\H b=some (.tup (k.map oV)):=by
 cases r with
 |tup rs=>
  simp only[Rep]at h;obtain⟨a,vs,rfl,h1,h2⟩:=h;exact⟨a,rfl,by rw[h1,qi4 e h2]⟩
 |_=>cases e
noncomputable def qrx (o:RO)(y:RV):Option (Option RV):=match o with
 | .dk kvs=>(qgm y).map (lk kvs)
 | .dt kvs=>(qgl y).map (lk kvs)
 | .fk kvs=>(qgm y).map (lk kvs)
 | .ft kvs=>(qgl y).map (lk kvs)
 |_=>none
def dAt(M:RM)(x y:RV):Option (Option RV):=match x with
 | .ref a=>(M a).bind (qrx · y)
 |_=>none
def isD(M:RM)(x:RV):Prop:=match x with
 | .ref a=>match M a with
  |some (.dk _)=>True
  |some (.dt _)=>True
  |some (.fk _)=>True
  |some (.ft _)=>True
  |_=>False
 |_=>False
def dPt(M:RM)(x y v:RV)(N:RM->Prop):Prop:=match x with
 | .ref a=>match M a with
  |some (.dk kvs)=>match qgm y with
   |some k=>kvs.length<sizeLine/\N (put M a (.dk (pt kvs k v)))
   |none=>False
  |some (.dt kvs)=>match qgl y with
   |some k=>kvs.length<sizeLine/\N (put M a (.dt (pt kvs k v)))
   |none=>False
  |_=>False
 |_=>False
section
variable {X:Cx}{M:RM}{H:Hp}{x y:RV}{vx vy:V}
theorem qiE{K:Frg}{r:Option RV}(hv:View K H M)(e:dAt M x y=some r)(rx:Rep K H x vx)(ry:Rep K H y vy):
 ∃ a r0,vx= .ref a/\DGet H a vy r0/\(∀ z,r=some z->∃ v,r0=some v/\Rep K H z v)/\(r=none->r0=none):=by
 unfold dAt at e;split at e
 · rename_i a
   simp only[Rep]at rx;cases q:M a with
   |none=>rw[q]at e;cases e
   |some o=>
    rw[q]at e
    replace e:qrx o y=some r:=e
    obtain⟨ho,eo,ro⟩:=hv a o q;unfold qrx at e;split at e
    · rename_i kvs
      obtain⟨ws,rfl,hg⟩:=ro;cases ek:qgm y with
      |none=>rw[ek]at e;cases e
      |some k=>
       rw[ek]at e;have e:lk kvs k=r:=wao e;have:=qdj ek ry;subst this;exact⟨a,_,rx,DGet.k eo,fun z hz=>(qbi (k:=k) hg).1 z (e.trans hz),fun hz=>(qbi (k:=k) hg).2 (e.trans hz)⟩
    · rename_i kvs
      obtain⟨ws,rfl,hg⟩:=ro;cases ek:qgl y with
      |none=>rw[ek]at e;cases e
      |some k=>
       rw[ek]at e;have e:lk kvs k=r:=wao e;obtain⟨b,rfl,hb⟩:=qd2 ek ry;exact⟨a,_,rx,DGet.t eo hb,fun z hz=>(qbi (k:=k) hg).1 z (e.trans hz),fun hz=>(qbi (k:=k) hg).2 (e.trans hz)⟩
    · rename_i kvs
      obtain⟨ob,ws,rfl,hg⟩:=ro;cases ek:qgm y with
      |none=>rw[ek]at e;cases e
      |some k=>
       rw[ek]at e;have e:lk kvs k=r:=wao e;have:=qdj ek ry;subst this;exact⟨a,_,rx,.inl ⟨ws,k,.inr ⟨ob,eo⟩,rfl,rfl⟩,fun z hz=>(qbi (k:=k) hg).1 z (e.trans hz),fun hz=>(qbi (k:=k) hg).2 (e.trans hz)⟩
    · rename_i kvs
      obtain⟨ob,ws,rfl,hg⟩:=ro;cases ek:qgl y with
      |none=>rw[ek]at e;cases e
      |some k=>
       rw[ek]at e;have e:lk kvs k=r:=wao e;obtain⟨b,rfl,hb⟩:=qd2 ek ry;exact⟨a,_,rx,.inr ⟨ws,k,b,.inr ⟨ob,eo⟩,rfl,hb,rfl⟩,fun z hz=>(qbi (k:=k) hg).1 z (e.trans hz),fun hz=>(qbi (k:=k) hg).2 (e.trans hz)⟩
    · cases e
 · cases e
theorem qlC{K:Frg}(hv:View K H M)(d:isD M x)(rx:Rep K H x vx):∃ a,vx= .ref a/\IsD H a:=by
 unfold isD at d;split at d
 · rename_i a
   simp only[Rep]at rx;split at d
   · rename_i kvs e;obtain⟨ho,eo,ws,rfl,hg⟩:=hv a _ e;exact⟨a,rx,.inl ⟨ws,.inl eo⟩⟩
   · rename_i kvs e;obtain⟨ho,eo,ws,rfl,hg⟩:=hv a _ e;exact⟨a,rx,.inr ⟨ws,.inl eo⟩⟩
   · rename_i kvs e;obtain⟨ho,eo,ob,ws,rfl,hg⟩:=hv a _ e;exact⟨a,rx,.inl ⟨ws,.inr ⟨ob,eo⟩⟩⟩
   · rename_i kvs e;obtain⟨ho,eo,ob,ws,rfl,hg⟩:=hv a _ e;exact⟨a,rx,.inr ⟨ws,.inr ⟨ob,eo⟩⟩⟩
   · exact d.elim
 · exact d.elim
theorem qq6{K:Frg}{v:RV}{vv:V}{N:RM->Prop}(hv:View K H M)(d:dPt M x y v N)(rx:Rep K H x vx)(ry:Rep K H y vy)(rv:Rep K H v vv):
 ∃ a H' M',vx= .ref a/\DPut H a vy vv H'/\N M'/\Ext H H'/\View K H' M':=by
 unfold dPt at d;split at d
 · rename_i a
   simp only[Rep]at rx;split at d
   · rename_i kvs em
     obtain⟨ho,eo,ws,rfl,hg⟩:=hv a _ em;split at d
     · rename_i k ek
       have:=qdj ek ry;subst this;have ex:Ext H (upd H a (.dK (putK ws k vv))):=Ext.write eo rfl;exact⟨a,_,_,rx,DPut.k eo (by rw[<-qaJ hg];exact d.1),d.2,ex,hv.write em ⟨_,rfl,qkE (Rep.ext ex _ _ rv) (hg.ext ex)⟩⟩
     · exact d.elim
   · rename_i kvs em
     obtain⟨ho,eo,ws,rfl,hg⟩:=hv a _ em;split at d
     · rename_i k ek
       obtain⟨b,rfl,hb⟩:=qd2 ek ry;have ex:Ext H (upd H a (.dT (putK ws k vv))):=Ext.write eo rfl;exact⟨a,_,_,rx,DPut.t eo hb (by rw[<-qaJ hg];exact d.1),d.2,ex,hv.write em ⟨_,rfl,qkE (Rep.ext ex _ _ rv) (hg.ext ex)⟩⟩
     · exact d.elim
   · exact d.elim
 · exact d.elim
end
section
variable {X:Cx}{o i value e f:Expr}{pos pos' apos cpos:Pos}{td ty tv tx:RTE}
def qrI(Q:RVK)(x y:RV)(M:RM):Prop:=match dAt M x y with
 |some (some v)=>Q v M
 |_=>False
def qrJ(td ty:RTE):RTE:=fun σ M Q=>td σ M fun x M1=>ty σ M1 fun y M2=>qrI Q x y M2
theorem qpk{Q:RVK}{x y:RV}{M:RM}(h:qrI Q x y M):∃ v,dAt M x y=some (some v)/\Q v M:=by
 unfold qrI at h;split at h
 · rename_i v e;exact⟨v,e,h⟩
 · exact h.elim
theorem qvq(hu:X.A.units+1<cLine)(ho:RPE X o td)(hi:RPE X i ty)(hs:qvh i):RPE X (.Subscript o i pos) (qrJ td ty):=PE.imp (qqa hu ho hi hs) fun σ0 H Q0 h=>by
 obtain⟨σ,M,Q,hs,hv,ht,hk⟩:=h;refine⟨σ,M,_,hs,hv,ht,fun rx M1 x H1 q e1 v1 r1=>⟨σ,M1,_,hs.ext e1,v1,q,fun ry M2 y H2 q2 e2 v2 r2=>?_⟩⟩
 obtain⟨v,ev,q2⟩:=qpk q2;obtain⟨a,r0,rfl,g,g1,_⟩:=qiE v2 ev (Rep.ext e2 _ _ r1) r2;obtain⟨w,rfl,rw'⟩:=g1 v rfl;exact⟨a,w,rfl,g,hk _ M2 _ H2 q2 (e1.trans e2) v2 rw'⟩
def uIn(neg:Bool)(Q:RVK)(x y:RV)(M:RM):Prop:=match dAt M x y with
 |some r=>Q (.bl (if neg then !r.isSome else r.isSome)) M
 |none=>False
def qrp(neg:Bool)(ty td:RTE):RTE:=fun σ M Q=>ty σ M fun y M1=>td σ M1 fun x M2=>uIn neg Q x y M2
theorem qcA{neg:Bool}{σ0:L2.St}{H:Hp}{Q0:VK}(h:up X.K (qrp neg ty td) σ0 H Q0):up X.K ty σ0 H fun y H1=>up X.K td σ0 H1 fun x H2=>∃ a r,x= .ref a/\DGet H2 a y r/\Q0 (.bl (if neg then !r.isSome else r.isSome)) H2:=by
 obtain⟨σ,M,Q,hs,hv,ht,hk⟩:=h;refine⟨σ,M,_,hs,hv,ht,fun ry M1 y H1 q e1 v1 r1=>⟨σ,M1,_,hs.ext e1,v1,q,fun rx M2 x H2 q2 e2 v2 r2=>?_⟩⟩
 unfold uIn at q2;split at q2
 · rename_i r er
   obtain⟨a,r0,rfl,g,g1,g2⟩:=qiE v2 er r2 (Rep.ext e2 _ _ r1);refine⟨a,r0,rfl,g,hk _ M2 _ H2 q2 (e1.trans e2) v2 ?_⟩;have:r0.isSome=r.isSome:=by
    cases r with
    |none=>rw[g2 rfl];rfl
    |some z=>obtain⟨v,rfl,_⟩:=g1 z rfl;rfl
   rw[this];simp only[Rep]
 · exact q2.elim
theorem qB3(hu:X.A.units+1<cLine)(hi:RPE X i ty)(ho:RPE X o td)(h1:behindInMarks .In o=false):RPE X (.Compare i [.In] [o] pos) (qrp false ty td):=PE.imp (qoF (qoG hu hi ho) h1) fun σ0 H Q0 h=>qcA h
theorem qpl(hu:X.A.units+1<cLine)(hi:RPE X i ty)(ho:RPE X o td)(h1:behindInMarks .NotIn o=false):RPE X (.Compare i [.NotIn] [o] pos) (qrp true ty td):=PE.imp (qoF (qgU hu hi ho) h1) fun σ0 H Q0 h=>qcA h
theorem qvp(hu:X.A.units+1<cLine)(hi:RPE X i ty)(ho:RPE X o td)(h1:behindInMarks .In o=false):RPT X (.Compare i [.In] [o] pos) (qfJ (qrp false ty td)):=PT.imp (qkW (qoG hu hi ho) h1) fun σ0 H Q0 h=>by
 obtain⟨σ,M,Q,hs,hv,ht,hk⟩:=h;exact qcA (neg:=false) ⟨σ,M,_,hs,hv,ht,qcq hk⟩
theorem qmO(hu:X.A.units+1<cLine)(hi:RPE X i ty)(ho:RPE X o td)(h1:behindInMarks .NotIn o=false):RPT X (.Compare i [.NotIn] [o] pos) (qfJ (qrp true ty td)):=PT.imp (qkW (qgU hu hi ho) h1) fun σ0 H Q0 h=>by
 obtain⟨σ,M,Q,hs,hv,ht,hk⟩:=h;exact qcA (neg:=true) ⟨σ,M,_,hs,hv,ht,qcq hk⟩
def qhQ(Q:RVK)(x y z:RV)(M:RM):Prop:=match dAt M x y with
 |some r=>Q (r.getD z) M
 |none=>False
def qoo(td ty:RTE):RTE:=fun σ M Q=>td σ M fun x M1=>isD M1 x/\ty σ M1 fun y M2=>qhQ Q x y .non M2
def qon(td ty tx:RTE):RTE:=fun σ M Q=>td σ M fun x M1=>isD M1 x/\ty σ M1 fun y M2=>tx σ M2 fun z M3=>qhQ Q x y z M3
theorem qiN{K:Frg}{Q:RVK}{x y z:RV}{M:RM}{H:Hp}{a:Addr}{vy vz:V}(h:qhQ Q x y z M)(hv:View K H M)(rx:Rep K H x (.ref a))(ry:Rep K H y vy)(rz:Rep K H z vz):
 ∃ r r0,Q r M/\DGet H a vy r0/\Rep K H r (r0.getD vz):=by
 unfold qhQ at h;split at h
 · rename_i r er
   obtain⟨a',r0,ea,g,g1,g2⟩:=qiE hv er rx ry;cases ea;refine⟨_,r0,h,g,?_⟩;cases r with
   |none=>rw[g2 rfl];exact rz
   |some q=>obtain⟨v,rfl,rw'⟩:=g1 q rfl;exact rw'
 · exact h.elim
theorem qrH(hu:X.A.units+1<cLine)(ho:RPE X o td)(he:RPE X e ty)(m:M1 X o "get" apos e cpos):RPE X (.Call (.Attribute o "get" apos) [e] [] cpos) (qoo td ty):=PE.imp (qnp hu ho he m) fun σ0 H Q0 h=>by
 obtain⟨σ,M,Q,hs,hv,ht,hk⟩:=h;refine⟨σ,M,_,hs,hv,ht,fun rx M1 x H1 q e1 v1 r1=>?_⟩
 obtain⟨a,rfl,d⟩:=qlC v1 q.1 r1;refine⟨a,rfl,d,σ,M1,_,hs.ext e1,v1,q.2,fun ry M2 y H2 q2 e2 v2 r2=>?_⟩
 obtain⟨r,r0,q3,g,rr⟩:=qiN q2 v2 (Rep.ext e2 _ _ r1) r2 (show Rep X.K H2 .non .non by simp only[Rep])
 exact⟨r0,g,hk _ M2 _ H2 q3 (e1.trans e2) v2 rr⟩
theorem qrG(hu:X.A.units+1<cLine)(ho:RPE X o td)(he:RPE X e ty)(hf:RPE X f tx)(m:M2 X o "get" apos e f cpos):RPE X (.Call (.Attribute o "get" apos) [e,f] [] cpos) (qon td ty tx):=PE.imp (qno hu ho he hf m) fun σ0 H Q0 h=>by
 obtain⟨σ,M,Q,hs,hv,ht,hk⟩:=h;refine⟨σ,M,_,hs,hv,ht,fun rx M1 x H1 q e1 v1 r1=>?_⟩
 obtain⟨a,rfl,d⟩:=qlC v1 q.1 r1;refine⟨a,rfl,d,σ,M1,_,hs.ext e1,v1,q.2,fun ry M2 y H2 q2 e2 v2 r2=>⟨σ,M2,_,hs.ext (e1.trans e2),v2,q2,fun rz M3 z H3 q3 e3 v3 r3=>?_⟩⟩
 obtain⟨r,r0,q4,g,rr⟩:=qiN q3 v3 (Rep.ext (e2.trans e3) _ _ r1) (Rep.ext e3 _ _ r2) r3;exact⟨r0,g,hk _ M3 _ H3 q4 ((e1.trans e2).trans e3) v3 rr⟩
def qol(td ty tv:RTE):RTS:=fun D σ M=>tv σ M fun v M1=>td σ M1 fun x M2=>ty σ M2 fun y M3=>dPt M3 x y v (D.nx σ)
theorem qrD(hu:X.A.units+1<cLine)(ho:RPE X o td)(hi:RPE X i ty)(hv:RPE X value tv)(hs:swapsWith value (some (.Subscript o i pos')) pos.line X.env=pure false):RPS X (.Assign [.Subscript o i pos'] value pos) (qol td ty tv):=PS.imp (qpZ hu ho hi hv hs) fun D0 σ0 H h=>by
 obtain⟨σ,M,D,hs,hv,ht,hd⟩:=h;refine⟨σ,M,_,hs,hv,ht,fun rv M1 v H1 q e1 v1 r1=>⟨σ,M1,_,hs.ext e1,v1,q,fun rx M2 x H2 q2 e2 v2 r2=>⟨σ,M2,_,hs.ext (e1.trans e2),v2,q2,fun ry M3 y H3 q3 e3 v3 r3=>?_⟩⟩⟩
 obtain⟨a,H4,M4,rfl,g,n,ex,w⟩:=qq6 v3 q3 (Rep.ext e3 _ _ r2) r3 (Rep.ext (e2.trans e3) _ _ r1);have e13:=((e1.trans e2).trans e3).trans ex;exact⟨a,H4,rfl,g,hd.nx σ M4 σ0 H4 n e13 w (hs.ext e13)⟩
def qoy:RTE:=fun _ M Q=>∀ p,M p=none->Q (.ref p) (put M p (.dt []))
theorem qsg:RPE X (.Dict [] [] pos) qoy:=PE.imp qnm fun σ0 H Q0 h=>by
 obtain⟨σ,M,Q,hs,hv,ht,hk⟩:=h;exact fun p hp=>hk _ _ _ _ (ht p (hv.free hp)) (Ext.new hp) (hv.newPut hp ⟨[],rfl,rfl⟩) (by simp only[Rep])
end
section
variable {prog:Program}{w:World}{K:Type}[DecidableEq K]{knd:HeapKind prog w K}{A:Around}{E:VSP}{s:Shared}{d a:Addr}{k:K}{xs:List (K×Addr×Value)}
theorem ql1{xs:List (K×Addr×Value)}(hn:(xs.map (·.1)).Nodup):∀ {j:Nat} {p:Addr×Value},xs[j]? =some (k,p)->xs.eraseIdx j=xs.filter fun x=>decide (x.1≠k):=by
 induction xs with
 |nil=>intro j p h;simp at h
 |cons x r ih=>
  intro j p h;rw[wan,waU]at hn;cases j with
  |zero=>
   simp at h;subst h;rw[List.eraseIdx_cons_zero,waV];simp only[ne_eq,not_true_eq_false,decide_false,waD,if_false];exact(List.filter_eq_self.mpr fun y hy=>by
    have:y.1≠k:=fun z=>hn.1 (waE.mpr ⟨y,hy,z⟩)
    simpa using this).symm
  |succ j=>
   rw[List.eraseIdx_cons_succ,waV];have h':r[j]? =some (k,p):=by simpa using h
   have:x.1≠k:=fun z=>hn.1 (z ▸ waE.mpr ⟨_,waF h',rfl⟩)
   rw[wag (wba this),ih hn.2 h']
theorem qgx{Q:Option DictEntry->Shared->Prop}(hu:knd.room A)(hkey:knd.is s.heap k a)(hm:s.heap.DictOfH knd d xs)(ht:(PySem.atKey xs k).isSome=true)
 (hQ:∀ e h',h'.DictOfH knd d (xs.filter fun x=>decide (x.1≠k))->Heap.SameBut d s.heap h'->Q (some e) { s with heap:=h',toks:=s.toks+knd.draws k }) (hsz:xs.length<=sizeLine):wpAny (model prog w) A (Builtin.Dict.takeOut d (.ref a)) Q E s:=by
 obtain⟨o,es,ep,ho,hc,hd,he,his,hn⟩:=hm;unfold Builtin.Dict.takeOut
 try with_reducible refine wa0 ?_
 refine waa (knd.pyHash hu hkey ?_);refine waa (wpAny_dictFind_heap (s:={ s with toks:=s.toks+knd.draws k }) hu hkey ho hd he his hn (fun hno=>?_) fun j p hj=>?_)
 · rw[atKey_none_of_get hno]at ht;cases ht
 · refine waa (wbr (s:={ s with toks:=s.toks+knd.draws k }) ho hd ?_)
   rw[entry_at he j,hj];refine waa (wpAny_updateDictKeys (hz:=by have e:=size_of_entries he;omega) (s:={ s with toks:=s.toks+knd.draws k }) ho hd (wae (hQ _ _ ⟨_,_,ep+1,Heap.get?_update_self _ ho (Obj.isFreed_of_dict (Obj.data_mapDictKeys hd _)),hc.mapDictKeys _,Obj.data_mapDictKeys hd _,?_,fun x hx=>?_,?_⟩ (Heap.SameBut.update ..))))
   · rw[<-ql1 hn hj]
     have:(xs.eraseIdx j).map (entryOfKey knd)=es.toList.eraseIdx j:=by rw[he,List.eraseIdx_eq_take_drop_succ,List.eraseIdx_eq_take_drop_succ,wbw,List.map_take,List.map_drop]
     rw[this];obtain⟨l⟩:=es;simp
   · exact knd.keeps (his x ((wbd.mp hx).1)) ho hd (Heap.SameBut.update ..)
   · exact hn.sublist (List.filter_sublist.map _)
end
theorem qqu{H:Hp}{kvs:List (List qbE×V)}{xs:List (List qbE×Addr×Value)}(r:KT H kvs xs)(k:List qbE):KT H (qeN kvs k) (xs.filter fun x=>decide (x.1≠k)):=by
 unfold qeN
 induction r with
 |nil=>exact .nil
 | @cons p q ps qs h t ih=>
  rw[waV,waV,h.1];split
  · exact .cons h ih
  · exact ih
section
variable {X:Cx}{pins:LAO}{σ:L2.St}{H:Hp}{s:Shared}{a b:Addr}{kvs:List (List qbE×V)}{k:List qbE}{A:Around}{E:VSP}
theorem qub{Q:Unit->Shared->Prop}(hu:A.units+1<cLine)(I:Inv X pins σ H s)(e:H a=some (.dT kvs))(eb:H b=some (.tup (k.map oV)))(l:(qeU kvs k).isSome=true)(h:∀ s',Inv X pins σ (upd H a (.dT (qeN kvs k))) s'->Q () s'):
 wpAny (model X.prog X.w) A (delItem (.ref a) (.ref b)) Q E s:=by
 obtain⟨z,hd,xs,rel,dd⟩:=qq2 I.hok e;have hz:xs.length<=sizeLine:=by rw[<-Paired.length rel];exact z
 refine wpAny_delItem_slot dd.typeIs (by decide) PySem.F.slot_dict_delitem (waO PySem.F.slot_dict_delitem dd.typeIs PySem.F.entry_dict_delitem ?_ (PySem.F.args_dict_delitem_2 _ _))
 unfold Builtin.«dict.__delitem__»;refine waa ?_;unfold Builtin.Dict.dictSlotArgs;refine waa (wpAny_notOrdered_dict dd.typeIs ?_);show wpAny _ _ (pure (Value.ref a,Value.ref b)) _ _ s;refine wae ?_;show wpAny _ _ (Builtin.Dict.takeOut a (.ref b) >>= _) _ _ s;refine waa (qgx (tupleKind_room_in1 hu) (qdt I.hok eb) dd (by rw[<-wby,<-(rel.val k).isSome_eq];exact l) (fun en h' dd' hs=>?_) hz)
 refine waa (wpAny_letGo (wae ⟨.none,rfl,h _ ?_⟩));obtain⟨q,es,ep,hq,h2,h3,h4,_,h5⟩:=dd';refine qeP I (by rw[e];exact True.intro) hs ⟨q,hq⟩ ⟨was (wbp _ _) z,hd,_,(qqu rel k).keeps fun c ys ec=>?_,q,es,ep,hq,h2,h3,h4,h5⟩
 rw[qaa (qeo ec e (fun z=>nomatch z))]
 exact ec
end
def dr{κ β:Type}[DecidableEq κ](kvs:List (κ×β))(k:κ):List (κ×β):=kvs.filter fun p=>decide (p.1≠k)
theorem qh3{κ:Type}[DecidableEq κ]{K:Frg}{H:Hp}{k:κ}:∀ {xs:List (κ×RV)} {ws:List (κ×V)},RepP K H xs ws->RepP K H (dr xs k) (qeN ws k)
 | [],_,h=>by cases h;exact rfl
 |(j,x)::r,_,h=>by
  obtain⟨v,t,rfl,h1,h2⟩:=h;have ih:=qh3 (k:=k) h2;unfold dr qeN at ih ⊢;rw[waV,waV];split
  · exact⟨v,_,rfl,h1,ih⟩
  · exact ih
def dDl(M:RM)(x y:RV)(N:RM->Prop):Prop:=match x with
 | .ref a=>match M a with
  |some (.dk kvs)=>match qgm y with
   |some k=>(lk kvs k).isSome=true/\N (put M a (.dk (dr kvs k)))
   |none=>False
  |some (.dt kvs)=>match qgl y with
   |some k=>(lk kvs k).isSome=true/\N (put M a (.dt (dr kvs k)))
   |none=>False
  |_=>False
 |_=>False
section
variable {X:Cx}{o i:Expr}{td ty:RTE}{pos tpos:Pos}
def qom(td ty:RTE):RTS:=fun D σ M=>td σ M fun x M1=>ty σ M1 fun y M2=>dDl M2 x y (D.nx σ)
theorem qrE(hu:X.A.units+1<cLine)(ho:RPE X o td)(hi:RPE X i ty):RPS X (.Delete [.Subscript o i tpos] pos) (qom td ty):=by
 intro pins s σ0 H D0 I h;obtain⟨σ,M,D,hs,hv,ht,hd⟩:=h;refine wpAny_Delete (wpAny_deleteEach_cons (wpAny_delete_Subscript (thn (ho pins s σ0 H (fun x H1=>∃ rx M1,(ty σ M1 fun y M2=>dDl M2 rx y (D.nx σ))/\Ext H H1/\View X.K H1 M1/\Rep X.K H1 rx x) I ⟨σ,M,_,hs,hv,ht,fun rx M1 x H1 q e1 v1 r1=>⟨rx,M1,q,e1,v1,r1⟩⟩) fun u s1 ⟨x,H1,I1,ru,rx,M1,q1,e1,v1,r1⟩=>
  thn (hi pins s1 σ0 H1 (fun y H2=>∃ ry M2,dDl M2 rx ry (D.nx σ)/\Ext H1 H2/\View X.K H2 M2/\Rep X.K H2 ry y) I1 ⟨σ,M1,_,hs.ext e1,v1,q1,fun ry M2 y H2 q e2 v2 r2=>⟨ry,M2,q,e2,v2,r2⟩⟩) fun iv s2 ⟨y,H2,I2,riv,ry,M2,q2,e2,v2,r2⟩=>?_)))
 have r1:=Rep.ext e2 _ _ r1;have e12:=e1.trans e2;unfold dDl at q2;split at q2
 · rename_i a _ _
   simp only[Rep]at r1;subst r1;obtain rfl:u=Value.ref a:=ru;split at q2
   · rename_i kvs em
     obtain⟨ho',eo,ws,rfl,hg⟩:=v2 a _ em;split at q2
     · rename_i k ek
       have:=qdj ek r2;subst this;have ex:Ext H2 (upd H2 a (.dK (qeN ws k))):=Ext.write eo rfl;obtain⟨z,hz⟩:=wbe.mp q2.1;obtain⟨z',hz',_⟩:=(qbi (k:=k) hg).1 z hz;exact qmd I2 eo riv (by rw[hz'];rfl) fun s3 I3=>wpAny_deleteEach_nil ⟨σ0,_,I3,hd.nx σ _ _ _ q2.2 (e12.trans ex) (v2.write em ⟨_,rfl,qh3 (hg.ext ex)⟩) (hs.ext (e12.trans ex))⟩
     · exact q2.elim
   · rename_i kvs em
     obtain⟨ho',eo,ws,rfl,hg⟩:=v2 a _ em;split at q2
     · rename_i k ek
       obtain⟨b,rfl,hb⟩:=qd2 ek r2;obtain rfl:iv=Value.ref b:=riv;have ex:Ext H2 (upd H2 a (.dT (qeN ws k))):=Ext.write eo rfl;obtain⟨z,hz⟩:=wbe.mp q2.1;obtain⟨z',hz',_⟩:=(qbi (k:=k) hg).1 z hz;exact qub hu I2 eo hb (by rw[hz'];rfl) fun s3 I3=>wpAny_deleteEach_nil ⟨σ0,_,I3,hd.nx σ _ _ _ q2.2 (e12.trans ex) (v2.write em ⟨_,rfl,qh3 (hg.ext ex)⟩) (hs.ext (e12.trans ex))⟩
     · exact q2.elim
   · exact q2.elim
 · exact q2.elim
end
section
variable {X:Cx}{pins:LAO}{σ:L2.St}{H:Hp}{s:Shared}{a:Addr}{A:Around}{E:VSP}
theorem qt8{kvs:List (List qbE×V)}{Q:VSP}(I:Inv X pins σ H s)(e:H a=some (.dT kvs))(h:∀ t s',Inv X pins σ H s'->Q (.int kvs.length t) s'):wpAny (model X.prog X.w) A (call (.builtin "len") [.ref a]) Q E s:=by
 obtain⟨z,hd,xs,rel,dd⟩:=qq2 I.hok e;have ty:=dd.typeIs;obtain⟨o,es,ep,ho,hc,hdat,he,_,_⟩:=dd;have hl:es.size=kvs.length:=by rw[size_of_entries he,Paired.length rel]
 refine Calls.call_function_entry kind_len plain_len entry_len (args_len1 _) ?_;unfold Builtin.«len»;refine waa (m:=oneArg "len" _) (wae ?_);refine waa (m:=callSpecial? (.ref a) (Str.ofString "__len__")) (wpAny_callSpecial?_slot (name:=Str.ofString "__len__") ty F.slot_dict_len (waO F.slot_dict_len ty F.entry_dict_len ?_ (F.args_dict_len_1 _)));show wpAny _ _ (dictSize a >>= _) _ _ s;unfold dictSize;refine waa (waa (wbr ho hdat (wae ?_)));show wpAny _ _ (Builtin.Dict.pendingCount a >>= _) _ _ s;refine waa (wpAny_pendingCount_other hd ?_);refine wpAny_ret_mkInt ?_;rw[hl];show wpAny _ _ _ _ _ { s with toks:=s.toks+1 }
 refine waa (wa0 (wae ?_));refine waa (wpAny_letGo ?_);rw[sizeLine_eq]at z;show wpAny _ _ (if((kvs.length:Nat):Int)<0 then _ else _) _ _ _
 rw[wad (by omega)]
 show wpAny _ _ (if((kvs.length:Nat):Int) ≥ 2 ^ 63 then _ else _) _ _ _
 rw[wad (by omega)]
 exact waa (wpAny_mkInt (wae ⟨_,rfl,h _ _ (I.tok _)⟩))
theorem qxG:qaQ X (.builtin "len") (upC X.K fun rs M Q=>∃ a kvs,rs= [.ref a]/\M a=some (.dt kvs)/\Q (.int kvs.length) M):=by
 intro pins s σ H xs us Q0 I rl h;obtain⟨rs,M,Q,rr,hv,⟨a,kvs,rfl,hm,hq⟩,hk⟩:=h;obtain⟨v,rfl,r1⟩:=rr.one;simp only[Rep]at r1;subst r1;obtain⟨ho,eo,ws,rfl,hg⟩:=hv a _ hm;obtain⟨u,rfl,ru⟩:=vals1 rl;cases ru;exact qt8 I eo fun t s' I'=>⟨.int ws.length,H,I',⟨t,rfl⟩,hk _ M _ H hq (.refl H) hv (by simp only[Rep];rw[qaJ hg])⟩
end
section
variable {X:Cx}
def qAf(i j:Nat)(ta:RTA):RTS:=fun D σ M=>ta σ M fun rs M1=>match rs with
 | [v,w]=>D.nx ((σ.set i (some v)).set j (some w)) M1
 |_=>False
theorem qCX{i j:Nat}{x y:Str}{a b:Expr}{ta:RTA}{px py pt:Pos}{kt k2:Nat}{pt2 pos:Pos}(hc:X.calm=true)(hN:X.N.Nodup)(hi:X.N[i]? =some x)(hj:X.N[j]? =some y)(hij:i≠j)
 (hx:X.env.scope.names.lookup x=some .local) (hy:X.env.scope.names.lookup y=some .local) (ha:RPA X [a,b] ta)
 (hw:swappedStores [.Tuple [.Name x px,.Name y py] kt pt] (.Tuple [a,b] k2 pt2) X.env=pure (some [x,y])):
 RPS X (.Assign [.Tuple [.Name x px,.Name y py] kt pt] (.Tuple [a,b] k2 pt2) pos) (qAf i j ta):=PS.imp (qsI hc hN hi hj hij hx hy ha hw) fun D0 σ0 H h=>by
 obtain⟨σ,M,D,hs,hv,ht,hd⟩:=h;refine⟨σ,M,_,hs,hv,ht,fun rs M1 vs H1 q e1 v1 r1=>?_⟩
 split at q
 · rename_i v w
   obtain⟨v',w',rfl,a1,a2⟩:=r1.two;exact⟨v',w',rfl,hd.nx _ M1 _ H1 q e1 v1 (((hs.ext e1).set a1 i).set a2 j)⟩
 · exact q.elim
noncomputable def kAf (C:Addr)(f:Str)(tv:RTE)(σ:RSt)(N:RM->Prop):RVK:=fun x M=>match x with
 | .ref a=>match M a with
  |some (.ins C' fs)=>C'=C/\match fs.lookup f with
   |some (.int i)=>tv σ M fun y M2=>match y with
    | .int j=>match M2 a with
     |some (.ins C2 fs2)=>C2=C/\fs2.length<1000/\N (put M2 a (.ins C (qe0 f (.int (i+j)) fs2)))
     |_=>False
    |_=>False
   |_=>False
  |_=>False
 |_=>False
def uAf(C:Addr)(f:Str)(ta tv:RTE):RTS:=fun D σ M=>ta σ M (kAf C f tv σ (D.nx σ))
theorem saf{C:Addr}{f:Str}{o value:Expr}{ta tv:RTE}{tpos pos:Pos}(hc:Cls X.K C)(hn:NoAttr X.K C f)(ha:RPE X o ta)(hv:RPE X value tv):RPS X (.AugAssign (.Attribute o f tpos) .Add value pos) (uAf C f ta tv):=PS.imp (qkX ha hv qtN) fun D0 σ0 H h=>by
 obtain⟨σ,M,D,hs,hv,ht,hd⟩:=h;refine⟨σ,M,_,hs,hv,ht,fun rx M1 x H1 q e1 v1 r1=>?_⟩
 cases rx with
 |ref a=>
  simp only[Rep]at r1;subst r1;unfold kAf at q;simp only at q;split at q
  · rename_i C' fs em
    obtain⟨rfl,q⟩:=q;split at q
    · rename_i i el
      obtain⟨ho,eo,dx,gs,rfl,hg⟩:=v1 a _ em;obtain⟨u,eu,ru⟩:=qbN hg el;refine⟨a,C',dx,gs,u,rfl,eo,hc,hn,eu,σ,M1,_,hs.ext e1,v1,q,fun ry M2 y H2 q2 e2 v2 r2=>?_⟩
      cases ry with
      |int j=>
       simp only[Rep]at r2 ru;subst r2 ru;simp only at q2;split at q2
       · rename_i C2 fs2 em2
         obtain⟨rfl,hl,n⟩:=q2;obtain⟨ho2,eo2,dx2,gs2,rfl,hg2⟩:=v2 a _ em2;have ex:Ext H2 (upd H2 a (.ins C2 dx2 (qe1 f (.int (i+j)) gs2))):=Ext.write eo2 rfl;have e12:=(e1.trans e2).trans ex;exact⟨i,j,rfl,rfl,dx2,gs2,eo2,by rw[<-qaJ hg2];exact hl,hd.nx σ _ σ0 _ n e12 (v2.write em2 ⟨dx2,_,rfl,qef (by simp only[Rep]) (hg2.ext ex)⟩) (hs.ext e12)⟩
       · exact q2.elim
      |_=>exact(show False from q2).elim
    · exact q.elim
  · exact q.elim
 |_=>exact(show False from q).elim
end
def RawD(h:Heap)(d:Addr)(es:Array DictEntry)(ep:Nat):Prop:=∃ o,h.get? d=some o/\o.ExactDict/\o.data= .dict es ep
section
variable {prog:Program}{w:World}{A:Around}{E:VSP}{s:Shared}{d it:Addr}{es:Array DictEntry}{ep i:Nat}
theorem RawD.ty(x:RawD s.heap d es ep):s.TypeIs (.ref d) "dict":=by
 obtain⟨o,h1,h2,h3⟩:=x;exact⟨o,h1,h2.1⟩
theorem qb0{Q:OVl->Shared->Prop}(hit:s.heap.IsValIter it d i es.size ep)(hm:RawD s.heap d es ep)(hi:i<es.size)
 (hQ:∀ h',h'.IsValIter it d (i+1) es.size ep->Heap.SameBut it s.heap h'->Q (some es[i].val) { s with heap:=h' }):wpAny (model prog w) A (pyNext (.ref it)) Q E s:=by
 obtain⟨o,ho,hc,hd⟩:=id hit;obtain⟨od,hod,hcd,hdd⟩:=id hm;have ow:Builtin.Dict_items.ownsTuple "dict_valueiterator" =false:=by decide
 unfold pyNext;refine waa (wpAny_attempt (wpAny_callSpecial?_slot (name:=Str.ofString "__next__") hit.typeIs F.slot_dict_valueiterator_next (waO F.slot_dict_valueiterator_next hit.typeIs F.entry_dict_valueiterator_next ?_ (F.args_dict_valueiterator_next_1 _))));refine waa (wae (waa (waa ?_)))
 first|refine waa (wpAny_typeNameOfWhole_valiter hit.typeIs (wae (waa (wpAny_fieldsOf ho hd ?_))))|refine waa (wpAny_typeNameOf_valiter hit.typeIs (wae (waa (wpAny_fieldsOf ho hd ?_))))
 simp only[ow,waD,if_false];refine(?_:wpAny _ _ (if(Value.ref d==Value.none)=true then _ else _) _ _ s)
 rw[wad (show ¬(Value.ref d==Value.none)=true from fun z=>waA z)]
 refine waa (wae (waa (wbr hod hdd ?_)));rw[wad (by simp)];refine waa (wae (waa (wpAny_dictEpoch hod hdd ?_)))
 rw[wad (by simp)];refine wae ?_
 simp only[show ¬((i:Int)<0) by omega,if_false,Int.toNat_natCast,Array.getElem?_eq_getElem hi]
 first|refine waa (waa (wpAny_typeNameOfWhole_valiter hit.typeIs (wae (waa (wpAny_isOneOf_valiter hit.typeIs ?_)))))|refine waa (waa (wpAny_typeNameOf_valiter hit.typeIs (wae (waa (wpAny_isOneOf_valiter hit.typeIs ?_)))))
 refine(?_:wpAny _ _ (setField (.ref it) 1 (rawInt ((i:Int)+1)) >>= _) _ _ s);refine waa (wpAny_setField ho hd (by simp) ?_)
 have hit':(s.heap.update it (Obj.mapFields fun a=>a.setIfInBounds 1 (rawInt ((i:Int)+1)))).IsValIter it d (i+1) es.size ep:=⟨_,Heap.get?_update_self _ ho (Obj.isFreed_of_fields (Obj.data_mapFields hd _)),(Obj.cls_mapFields ..).trans hc,by rw[Obj.data_mapFields hd];simp[rawInt]⟩
 refine waa (wa0 (waa (wpAny_isOneOf_valiter (s:={ s with heap:=s.heap.update it (Obj.mapFields fun a=>a.setIfInBounds 1 (rawInt ((i:Int)+1))) }) hit'.typeIs ?_)))
 refine waa (wpAny_isOneOf_valiter (s:={ s with heap:=s.heap.update it (Obj.mapFields (·.setIfInBounds 1 (rawInt ((i:Int)+1)))) }) hit'.typeIs (?_:_))
 refine(?_:wpAny _ _ (pure es[i].val) _ _ _);exact wae (wae ⟨_,rfl,wae (hQ _ hit' (Heap.SameBut.update ..))⟩)
theorem qb6{Q:OVl->Shared->Prop}(hh:A.handled=none)(hit:s.heap.IsValIter it d i es.size ep)(hm:RawD s.heap d es ep)(hi:es.size<=i)(hQ:∀ h',Heap.ExtBut it s.heap h'->Q none { s with heap:=h' }):
 wpAny (model prog w) A (pyNext (.ref it)) Q E s:=by
 obtain⟨o,ho,hc,hd⟩:=id hit;obtain⟨od,hod,hcd,hdd⟩:=id hm;have ow:Builtin.Dict_items.ownsTuple "dict_valueiterator" =false:=by decide
 unfold pyNext;refine waa (wpAny_attempt (wpAny_callSpecial?_slot (name:=Str.ofString "__next__") hit.typeIs F.slot_dict_valueiterator_next (waO F.slot_dict_valueiterator_next hit.typeIs F.entry_dict_valueiterator_next ?_ (F.args_dict_valueiterator_next_1 _))));refine waa (wae (waa (waa ?_)))
 first|refine waa (wpAny_typeNameOfWhole_valiter hit.typeIs (wae (waa (wpAny_fieldsOf ho hd ?_))))|refine waa (wpAny_typeNameOf_valiter hit.typeIs (wae (waa (wpAny_fieldsOf ho hd ?_))))
 simp only[ow,waD,if_false];refine(?_:wpAny _ _ (if(Value.ref d==Value.none)=true then _ else _) _ _ s)
 rw[wad (show ¬(Value.ref d==Value.none)=true from fun z=>waA z)]
 refine waa (wae (waa (wbr hod hdd ?_)));rw[wad (by simp)];refine waa (wae (waa (wpAny_dictEpoch hod hdd ?_)))
 rw[wad (by simp)];refine wae ?_
 simp only[show ¬((i:Int)<0) by omega,if_false,Int.toNat_natCast,Array.getElem?_eq_none hi]
 first|refine waa (waa (wpAny_typeNameOfWhole_valiter hit.typeIs (wae ?_)))|refine waa (waa (wpAny_typeNameOf_valiter hit.typeIs (wae ?_)))
 refine(?_:wpAny _ _ (setField (.ref it) 0 .none >>= _) _ _ s);refine waa (wpAny_setField ho hd (by simp) ?_)
 refine(?_:wpAny _ _ (newExc (.type "StopIteration") [] >>= _) _ _ _);simp only[newExc,newTuple];refine waa (waa (waP ?_ (by size_fits)))
 refine waa (m:=firstArgMember _ _) (wpAny_of_eq (a:=Value.none) (by first|rfl|(simp only[firstArgMember];rfl)) (waP ?_ (by size_fits)))
 simp only[raiseNew];refine waa (wpAny_handled ?_);rw[show A.in1.handled=none from hh];refine waa (wae (wpAny_throw ?_));refine waa (wpAny_isInstance (T:="StopIteration") (b:=true) ⟨_,wah _ rfl,rfl⟩ isSubtype_stop ?_)
 exact wae (hQ _ (((Heap.SameBut.update ..).extBut.push _).push _))
theorem qfj{Q:VSP}{v:Addr}(hv:s.heap.IsValuesView v d)(hm:RawD s.heap d es ep)
 (hQ:Q (.ref s.heap.objs.size) { s with heap:=s.heap.push { cls:=.type "dict_valueiterator",data:=.fields #[.ref d,.int 0 0,.int es.size 0,.int ep 0] } }):wpAny (model prog w) A (pyIter (.ref v)) Q E s:=by
 obtain⟨ov,hov,hcv,hdv⟩:=id hv;obtain⟨o,ho,hc,hdat⟩:=id hm;have ow:Builtin.Dict_items.ownsTuple "dict_valueiterator" =false:=by decide
 refine wpAny_pyIter_slot hv.typeIs F.slot_dict_values_iter (waO F.slot_dict_values_iter hv.typeIs F.entry_dict_values_iter ?_ (F.args_dict_values_iter_1 _));unfold Builtin.«dict_values.__iter__» Builtin.Dict_items.dictOf Builtin.Dict_items.newIterator;refine waa (wae (waa (waa (wpAny_field hov hdv (x:=.ref d) rfl (wae (waa (waa (wbr ho hdat (waa (wpAny_dictEpoch ho hdat ?_))))))))));simp only[ow,waD,if_false];refine waP (wae ⟨_,rfl,"dict_valueiterator",_,⟨_,wah _ rfl,rfl⟩,F.slot_dict_valueiterator_next.lookup,?_⟩);simpa[rawInt]using hQ
theorem qek(hd:(d==sysModules)=false):MeetsIn prog w (Builtin.«dict.values» ⟨[.ref d],[]⟩) (fun _ R s=>(∃ es ep,RawD s.heap d es ep)/\R (.ok (.ret (.ref s.heap.objs.size))) { s with heap:=s.heap.push { cls:=.type "dict_values",data:=.fields #[.ref d] } }):=
 .of_wp fun A R s ⟨⟨es,ep,hm⟩,h⟩=>by
  have e0:Builtin.Dict.showsAll d=pure ():=by unfold Builtin.Dict.showsAll;rw[wad (by rw[hd];exact waA)]
  refine waa ?_;unfold Builtin.Dict.noArgs;refine waa (wpAny_notOrdered_dict hm.ty ?_);refine(wae ?_:wpAny _ _ (pure d) _ _ s);refine(?_:wpAny _ _ (Builtin.Dict.showsAll d >>= _) _ _ s);rw[e0];exact waa (wae (waa (waP (wae ⟨_,rfl,h⟩))))
end
def qnG:HO->Nat
 | .dK kvs=>kvs.length
 | .dT kvs=>kvs.length
 |_=>0
def qtw(u:HO)(i:Nat)(H:Hp)(x:V):Prop:=match u with
 | .dK kvs=>∃ kv,kvs[i]? =some kv/\x=kV kv.1
 | .dT kvs=>∃ kv b,kvs[i]? =some kv/\x= .ref b/\H b=some (.tup (kv.1.map oV))
 |_=>False
def valAt(u:HO)(i:Nat)(x:V):Prop:=match u with
 | .dK kvs=>∃ kv,kvs[i]? =some kv/\x=kv.2
 | .dT kvs=>∃ kv,kvs[i]? =some kv/\x=kv.2
 |_=>False
theorem qcD{α β:Type}{F:α->β->Prop}:∀ {l:List α} {m:List β} {i:Nat} {b:β},Paired F l m->m[i]? =some b->∃ a,l[i]? =some a/\F a b
 |_,_,_,_,.nil,e=>by simp at e
 |_,_,0,_,.cons r _,e=>by simp at e;subst e;exact⟨_,rfl,r⟩
 |_,_,i+1,b,.cons _ t,e=>by
  obtain⟨a,h1,h2⟩:=qcD (i:=i) t (by simpa using e)
  exact⟨a,by simpa using h1,h2⟩
theorem qhg{k:Key}{u:Value}(h:qfa k u=true):RelV (kV k) u:=by
 rcases qap h with⟨i,t,rfl,rfl⟩|⟨x,t,rfl,rfl⟩
 · exact⟨t,rfl⟩
 · exact⟨t,rfl⟩
section
variable {X:Cx}{pins:LAO}{σ:L2.St}{H:Hp}{s:Shared}{a:Addr}{o:Obj}{u:HO}
theorem qbI(I:Inv X pins σ H s)(h:H a=some (.frz o u))(du:qlD u=true):∃ es ep,o.data= .dict es ep/\RawD s.heap a es ep/\(a==sysModules)=false/\es.size=qnG u/\qnG u<=sizeLine/\
 ∀ i (hi:i<es.size),(∃ x,qtw u i H x/\RelV x es[i].key)/\∃ x,valAt u i x/\RelV x es[i].val:=by
 obtain⟨g,hz⟩:=I.hok a _ h;cases u<;>first|(cases du;done)|skip
 · rename_i kvs
   obtain⟨z,y,vs,r,o',es,ep,e,c,dd,ks,ps,nd⟩:=hz;rw[g]at e;cases e;have hl:es.size=kvs.length:=by have:=ps.length;have h2:=Paired.length r;simp at this;omega
   refine⟨es,ep,dd,⟨o,g,c,dd⟩,y,hl,z,fun i hi=>?_⟩
   have hv:i<vs.length:=by have:=ps.length;simp at this;omega
   obtain⟨p1,p2⟩:=ps.get? (e:=es[i]) (i:=i) (k:=vs[i].1) (v:=vs[i].2) (by simp[hi]) (by simp[hv])
   obtain⟨kv,k1,k2,k3⟩:=qcD (i:=i) r (by simp[hv]:vs[i]? =some vs[i])
   refine⟨⟨kV kv.1,⟨kv,k1,rfl⟩,?_⟩,kv.2,⟨kv,k1,rfl⟩,by rw[p2];exact k3⟩
   rw[k2];exact qhg p1
 · rename_i kvs
   obtain⟨z,y,xs,r,o',es,ep,e,c,dd,he,nd⟩:=hz;rw[g]at e;cases e;have hl:es.size=kvs.length:=by have h2:=Paired.length r;have:=congrArg List.length he;simp at this;omega
   refine⟨es,ep,dd,⟨o,g,c,dd⟩,y,hl,z,fun i hi=>?_⟩
   have hx:i<xs.length:=by have:=congrArg List.length he;simp at this;omega
   have he':es[i]=entryOfKey (tupleKind (optKind X.prog X.w)) xs[i]:=by
    have:=entry_at (knd:=tupleKind (optKind X.prog X.w)) he i;simpa[hi,hx]using this
   obtain⟨kv,k1,k2,k3,k4⟩:=qcD (i:=i) r (by simp[hx]:xs[i]? =some xs[i])
   rw[he'];exact⟨⟨.ref xs[i].2.1,⟨kv,xs[i].2.1,k1,rfl,k3⟩,rfl⟩,kv.2,⟨kv,k1,rfl⟩,k4⟩
end
noncomputable def Itq (o:Obj)(a:Addr)(k:Bool):It:=
 ⟨fun i H=>∃ u,H a=some (.frz o u)/\qlD u=true/\i<qnG u,fun i H x H'=>H'=H/\∃ u,H a=some (.frz o u)/\(if k=true then qtw u i H x else valAt u i x),fun i H=>∃ u,H a=some (.frz o u)/\qlD u=true/\qnG u<=i⟩
section
variable {P:Program}{w:World}{K:Frg}{tg:Expr}{o:Obj}{a it:Addr}{es:Array DictEntry}{ep:Nat}
theorem qkj(hd:o.data= .dict es ep):Turn P w K tg (Itq o a false) [it] it (fun i h=>h.IsValIter it a i es.size ep) where
 mem:=by simp
 obj:=fun i h st b hb=>by
  have e:b=it:=by simpa using hb
  subst e;obtain⟨o,e,c,d⟩:=st;exact⟨o,e,fun v z=>by rw[d]at z;cases z⟩
 keep:=fun i h h' st k=>by obtain⟨o,e,c,d⟩:=st;exact⟨o,k it (by simp) o e,c,d⟩
 item:=by
  intro X hP hw hK hc i pins s σ H E I hf st ⟨u,hg,du,hi⟩;subst hP hw hK;obtain⟨es',ep',d',rd,hS,hl,_,hall⟩:=qbI I hg du;rw[hd]at d';cases d';have hi':i<es.size:=by rw[hl];exact hi
  obtain⟨f0,f1,f2,f3,f4,f5⟩:=hf it (by simp)
  refine qb0 st rd hi' fun h' st' sb=>?_
  have I1:Inv X pins σ H { s with heap:=h' }:=I.turned (t':=s.toks) (fun b o hb e=>(sb.2 b hb).trans e) f0 f1 f3 f4 f5
  obtain⟨_,x,k1,k2⟩:=hall i hi';obtain⟨oi,e,c,d⟩:=id st';exact⟨_,rfl,qlX (s:={ s with heap:=h' }) e c d (by decide) ⟨x,H,I1,k2,⟨rfl,u,hg,by rw[wad (by decide)];exact k1⟩,st',fun b hb=>(hf b hb).1⟩⟩
 done:=by
  intro X hP hw hK hc i pins s σ H E I hf st ⟨u,hg,du,hi⟩;subst hP hw hK;obtain⟨es',ep',d',rd,hS,hl,_,hall⟩:=qbI I hg du;rw[hd]at d';cases d';obtain⟨f0,f1,f2,f3,f4,f5⟩:=hf it (by simp)
  exact qb6 (I.ok.hd hc) st rd (by rw[hl];exact hi) fun h' eb=>⟨rfl,I.turned (t':=s.toks) (fun b o hb e=>eb b o hb e) f0 f1 f3 f4 f5⟩
 self:=fun _ _ _ _ _ st h=>wpAny_pyIter_valiter st h
end
def kR:Key->RV
 | .inl i=>.int i
 | .inr x=>.str x
def oR:qbE->RV
 |none=>.non
 |some k=>kR k
def qmX(k:Bool)(kvs:LKR):LR:=if k=true then kvs.map (fun kv=>kR kv.1)else kvs.map (·.2)
def qmW(k:Bool)(kvs:List (TK×RV)):LR:=if k=true then kvs.map (fun kv=>.tup (kv.1.map oR))else kvs.map (·.2)
theorem qkD{K:Frg}{H:Hp}(k:Key):Rep K H (kR k) (kV k):=by cases k<;>simp only[kR,kV,Rep]
theorem qsf{K:Frg}{H:Hp}(k:qbE):Rep K H (oR k) (oV k):=by
 cases k with
 |none=>simp only[oR,oV,Rep]
 |some k=>exact qkD k
theorem qkC{K:Frg}{H:Hp}:∀ ks:TK,Reps K H (ks.map oR) (ks.map oV)
 | []=>Reps.nil
 |k::ks=>Reps.cons (qsf k) (qkC ks)
theorem qdc{κ:Type}{K:Frg}{H:Hp}:∀ {xs:List (κ×RV)} {ws:List (κ×V)} {i:Nat} {w:κ×V},RepP K H xs ws->ws[i]? =some w->∃ r,xs[i]? =some (w.1,r)/\Rep K H r w.2
 | [],ws,i,w,h,e=>by have h:ws= []:=h;subst h;simp at e
 |(k,x)::r,ws,i,w,h,e=>by
  obtain⟨v,t,rfl,h1,h2⟩:=h;cases i with
  |zero=>simp at e;subst e;exact⟨x,by simp,h1⟩
  |succ i=>
   obtain⟨q,a,b⟩:=qdc (i:=i) h2 (by simpa using e)
   exact⟨q,by simpa using a,b⟩
section
variable {H0 Hs:Hp}{K:Frg}{H1:Hp}{a:Addr}{o:Obj}{k:Bool}
theorem qoR{kvs:LKR}{ws:List (Key×V)}{un:RM->RM}(h:H1 a=some (.frz o (.dK ws)))(r:RepP K H1 kvs ws)
 (th:∀ H M,Ext H1 H->View K H M->M a=some (.fk kvs)->∃ H',Thaw H0 H H'/\ExtW H H'/\Ext Hs H'/\View K H' (un M)):qke H0 Hs K (Itq o a k) (qmX k kvs) (fun M=>M a=some (.fk kvs)) un H1 where
 turn:=fun i H M e hv hm x hx=>by
  have hH:=e.frzs _ _ _ h;have hl:(qmX k kvs).length=ws.length:=by rw[<-qaJ r];unfold qmX;split<;>simp
  have hi:i<ws.length:=by rw[<-hl];exact(wax.mp hx).1
  refine⟨⟨_,hH,rfl,hi⟩,fun v H' y=>?_⟩
  obtain⟨rfl,u,hu,y⟩:=y;rw[hH]at hu;cases hu;refine⟨.refl _,fun _ w=>w,?_⟩
  cases k with
  |true=>
   rw[wag rfl]at y;obtain⟨kv,e1,rfl⟩:=y;obtain⟨q,e2,_⟩:=qdc r e1;have:x=kR kv.1:=by simpa[qmX,e2]using hx.symm
   rw[this];exact qkD _
  |false=>
   rw[wad (by decide)]at y
   obtain⟨kv,e1,rfl⟩:=y;obtain⟨q,e2,rq⟩:=qdc r e1;have:x=q:=by simpa[qmX,e2]using hx.symm
   rw[this];exact Rep.ext e _ _ rq
 stop:=fun i H M e hv hm hi=>by
  have hl:(qmX k kvs).length=ws.length:=by rw[<-qaJ r];unfold qmX;split<;>simp
  exact⟨_,e.frzs _ _ _ h,rfl,by rw[hl]at hi;exact hi⟩
 thaw:=th
theorem qoQ{kvs:List (TK×RV)}{ws:List (TK×V)}{un:RM->RM}(h:H1 a=some (.frz o (.dT ws)))(r:RepP K H1 kvs ws)
 (th:∀ H M,Ext H1 H->View K H M->M a=some (.ft kvs)->∃ H',Thaw H0 H H'/\ExtW H H'/\Ext Hs H'/\View K H' (un M)):qke H0 Hs K (Itq o a k) (qmW k kvs) (fun M=>M a=some (.ft kvs)) un H1 where
 turn:=fun i H M e hv hm x hx=>by
  have hH:=e.frzs _ _ _ h;have hl:(qmW k kvs).length=ws.length:=by rw[<-qaJ r];unfold qmW;split<;>simp
  have hi:i<ws.length:=by rw[<-hl];exact(wax.mp hx).1
  refine⟨⟨_,hH,rfl,hi⟩,fun v H' y=>?_⟩
  obtain⟨rfl,u,hu,y⟩:=y;rw[hH]at hu;cases hu;refine⟨.refl _,fun _ w=>w,?_⟩
  cases k with
  |true=>
   rw[wag rfl]at y;obtain⟨kv,b,e1,rfl,hb⟩:=y;obtain⟨q,e2,_⟩:=qdc r e1;have:x= .tup (kv.1.map oR):=by simpa[qmW,e2]using hx.symm
   rw[this];simp only[Rep];exact⟨b,_,rfl,hb,qkC _⟩
  |false=>
   rw[wad (by decide)]at y
   obtain⟨kv,e1,rfl⟩:=y;obtain⟨q,e2,rq⟩:=qdc r e1;have:x=q:=by simpa[qmW,e2]using hx.symm
   rw[this];exact Rep.ext e _ _ rq
 stop:=fun i H M e hv hm hi=>by
  have hl:(qmW k kvs).length=ws.length:=by rw[<-qaJ r];unfold qmW;split<;>simp
  exact⟨_,e.frzs _ _ _ h,rfl,by rw[hl]at hi;exact hi⟩
 thaw:=th
end
noncomputable def qrt (k:Bool)(Q:LR->(RM->Prop)->(RM->RM)->RM->Prop):RVK:=fun v M1=>match v with
 | .ref a=>match M1 a with
  |some (.dk kvs)=>Q (qmX k kvs) (fun M=>M a=some (.fk kvs)) (fun M=>put M a (.dk kvs)) (put M1 a (.fk kvs))
  |some (.dt kvs)=>Q (qmW k kvs) (fun M=>M a=some (.ft kvs)) (fun M=>put M a (.dt kvs)) (put M1 a (.ft kvs))
  |some (.fk kvs)=>Q (qmX k kvs) (fun M=>M a=some (.fk kvs)) id M1
  |some (.ft kvs)=>Q (qmW k kvs) (fun M=>M a=some (.ft kvs)) id M1
  |_=>False
 |_=>False
def qAs(k:Bool)(te:RTE):RTI:=fun σ M Q=>te σ M (qrt k Q)
section
variable {X:Cx}{tg:Expr}
theorem hold{pins:LAO}{σ0:L2.St}{H H1:Hp}{s:Shared}{k:Bool}{Q:LR->(RM->Prop)->(RM->RM)->RM->Prop}{rv:RV}{v:V}{M1:RM}(I:Inv X pins σ0 H1 s)(e1:Ext H H1)(v1:View X.K H1 M1)(r1:Rep X.K H1 rv v)(q:qrt k Q rv M1):
 ∃ a o u H2 xs ok un M2,v= .ref a/\Inv X pins σ0 H2 s/\H2 a=some (.frz o u)/\qlD u=true/\qke X.H₀ H X.K (Itq o a k) xs ok un H2/\Q xs ok un M2/\Ext H H2/\View X.K H2 M2:=by
 cases rv<;>first|(exact(show False from q).elim)|skip
 rename_i a;simp only[Rep]at r1;unfold qrt at q;simp only at q;split at q
 · rename_i kvs em
   obtain⟨ho,eh,ws,rfl,r⟩:=v1 a _ em;obtain⟨ob,g,I2,n0⟩:=qeH I eh rfl;have ex:Ext H1 (upd H1 a (.frz ob (.dK ws))):=Ext.write eh rfl;refine⟨a,ob,.dK ws,_,_,_,_,_,r1,I2,qag,rfl,qoR qag (r.ext ex) fun H2 M e hv hm=>?_,q,e1.trans ex,v1.write em ⟨ob,ws,rfl,r.ext ex⟩⟩
   have hH:=e.frzs _ _ _ (qag (H:=H1) (a:=a) (o:=.frz ob (.dK ws)));have xw:ExtW H2 (upd H2 a (.dK ws)):=ExtW.thaw hH rfl;refine⟨upd H2 a (.dK ws),.inr ⟨a,ob,_,hH,rfl,n0,rfl⟩,xw,⟨fun b xs z=>?_,fun b o' u' z=>?_⟩,hv.write hm ⟨ws,rfl,RepP.extw xw (r.ext (ex.trans e))⟩⟩
   · have z1:=e.tups _ _ (ex.tups _ _ (e1.tups _ _ z))
     rw[qaa (by rintro rfl;rw[hH]at z1;cases z1)];exact z1
   · have z0:=e1.frzs _ _ _ z
     rw[qaa (by rintro rfl;rw[eh]at z0;cases z0)];exact e.frzs _ _ _ (ex.frzs _ _ _ z0)
 · rename_i kvs em
   obtain⟨ho,eh,ws,rfl,r⟩:=v1 a _ em;obtain⟨ob,g,I2,n0⟩:=qeH I eh rfl;have ex:Ext H1 (upd H1 a (.frz ob (.dT ws))):=Ext.write eh rfl;refine⟨a,ob,.dT ws,_,_,_,_,_,r1,I2,qag,rfl,qoQ qag (r.ext ex) fun H2 M e hv hm=>?_,q,e1.trans ex,v1.write em ⟨ob,ws,rfl,r.ext ex⟩⟩
   have hH:=e.frzs _ _ _ (qag (H:=H1) (a:=a) (o:=.frz ob (.dT ws)));have xw:ExtW H2 (upd H2 a (.dT ws)):=ExtW.thaw hH rfl;refine⟨upd H2 a (.dT ws),.inr ⟨a,ob,_,hH,rfl,n0,rfl⟩,xw,⟨fun b xs z=>?_,fun b o' u' z=>?_⟩,hv.write hm ⟨ws,rfl,RepP.extw xw (r.ext (ex.trans e))⟩⟩
   · have z1:=e.tups _ _ (ex.tups _ _ (e1.tups _ _ z))
     rw[qaa (by rintro rfl;rw[hH]at z1;cases z1)];exact z1
   · have z0:=e1.frzs _ _ _ z
     rw[qaa (by rintro rfl;rw[eh]at z0;cases z0)];exact e.frzs _ _ _ (ex.frzs _ _ _ z0)
 · rename_i kvs em
   obtain⟨ho,eh,ob,ws,rfl,r⟩:=v1 a _ em;exact⟨a,ob,.dK ws,H1,_,_,_,_,r1,I,eh,rfl,qoR eh r (qb4 e1),q,e1,v1⟩
 · rename_i kvs em
   obtain⟨ho,eh,ob,ws,rfl,r⟩:=v1 a _ em;exact⟨a,ob,.dT ws,H1,_,_,_,_,r1,I,eh,rfl,qoQ eh r (qb4 e1),q,e1,v1⟩
 · exact q.elim
theorem ql8{pins:LAO}{σ0:L2.St}{H:Hp}{s:Shared}{a:Addr}{o:Obj}{u:HO}(I:Inv X pins σ0 H s)(h:H a=some (.frz o u))(du:qlD u=true):s.TypeIs (.ref a) "dict"/\∀ b,Value.ref a= .ref b->∃ ob,s.heap.get? b=some ob/\ob.dict=none:=by
 obtain⟨es,ep,hd,rd,_⟩:=qbI I h du;refine⟨rd.ty,fun b e=>?_⟩
 cases e;obtain⟨o1,h1,h2,h3⟩:=rd;exact⟨o1,h1,h2.2.1⟩
theorem qxc{l:Expr}{te:RTE}{ap p:Pos}(hl:RPE X l te)(hbase:attributeBase l "values" X.env (eval l X.env)=eval l X.env)(hline:(ap.endLine==p.line)=true):RPI X tg (.Call (.Attribute l "values" ap) [] [] p) (qAs false te):=by
 intro pins s σ0 H R I h;obtain⟨σ,M,Q,hs,hv,ht,hk⟩:=h;refine wpAny_Call_method (T:="dict") (id:="dict.values") hbase rfl hline F.plainAttrs_dict F.slot_dict_values F.type_dict_values (thn (hl pins s σ0 H (fun x H1=>∃ rv M1,Rep X.K H1 rv x/\qrt false Q rv M1/\Ext H H1/\View X.K H1 M1) I ⟨σ,M,_,hs,hv,ht,fun rv M1 v H1 q e1 v1 r1=>⟨rv,M1,r1,q,e1,v1⟩⟩) fun uv s1 zz=>?_);obtain⟨v,H1,I1,rl,rv,M1,r1,q,e1,v1⟩:=zz
 obtain⟨a,o,u,H2,xs,ok,un,M2,rfl,I2,hH,du,it,q,e2,v2⟩:=hold I1 e1 v1 r1 q;cases(show uv=Value.ref a from rl)
 obtain⟨es,ep,hd,rd,hS,_⟩:=qbI I2 hH du;obtain⟨t1,t2⟩:=ql8 I2 hH du;refine⟨t1,t2,method_meetsIn F.slot_dict_values F.entry_dict_values rfl (PySem.evalArgs_none ⟨rfl,t1,F.args_dict_values_1 _,_,qek hS,⟨es,ep,rd⟩,?_⟩)⟩;have I3:Inv X pins σ0 H2 { s1 with heap:=s1.heap.push { cls:=.type "dict_values",data:=.fields #[.ref a] } }:=I2.kept (t':=s1.toks) fun b o e=>wab _ e
 have rd3:RawD (s1.heap.push { cls:=.type "dict_values",data:=.fields #[.ref a] }) a es ep:=by obtain⟨o1,h1,h2⟩:=rd;exact⟨o1,wab _ h1,h2⟩
 refine qfj (s:={ s1 with heap:=s1.heap.push { cls:=.type "dict_values",data:=.fields #[.ref a] } }) ⟨_,wah _ rfl,rfl,rfl⟩ rd3 ?_
 refine⟨_,[_],_,_,H2,rfl,I3.kept (t':=s1.toks) fun b o e=>wab _ e,qkj hd,⟨_,wah _ rfl,rfl,rfl⟩,fun b hb=>?_,hk xs ok un M2 _ H2 q e2 v2 it⟩
 have e:=wbl.mp hb;subst e;exact I3.fpOk (waf _) (I3.hok.fresh (waf _))
end
noncomputable def Itm (o:Obj)(a:Addr):It:=
 ⟨fun i H=>∃ ws:List (Key×V),H a=some (.frz o (.dK ws))/\i<ws.length,fun i H x H'=>∃ (ws:List (Key×V)) (kv:Key×V) (p:Addr),H a=some (.frz o (.dK ws))/\ws[i]? =some kv/\x= .ref p/\H p=none/\H'=upd H p (.tup [kV kv.1,kv.2]),fun i H=>∃ ws:List (Key×V),H a=some (.frz o (.dK ws))/\ws.length<=i⟩
section
variable {X:Cx}
theorem qf7{pins:LAO}{σ:L2.St}{H:Hp}{s:Shared}{a:Addr}{o:Obj}{ws:List (Key×V)}(I:Inv X pins σ H s)(h:H a=some (.frz o (.dK ws))):∃ vs es ep,o.data= .dict es ep/\KV ws vs/\s.heap.DictAt (qai X.prog X.w) a vs ep/\(a==sysModules)=false/\vs.length=es.size:=by
 obtain⟨g,z,y,vs,r,o',es,ep,e,c,dd,ks,ps,nd⟩:=I.hok a _ h;rw[g]at e;cases e;exact⟨vs,es,ep,dd,r,⟨o,es,g,c,dd,ks,ps,nd⟩,y,by have:=ps.length;simp at this;omega⟩
theorem qdT:entryFor table "dict_itemiterator.__iter__" =some Builtin.«dict_keyiterator.__iter__»:=entryFor_alias (id':="dict_keyiterator.__iter__") (by kernel_rfl) rfl (by decide+kernel) (by kernel_rfl)
theorem qjs{P:Program}{w:World}{K:Frg}{o:Obj}{a it:Addr}{es:Array DictEntry}{ep:Nat}{ts:LEx}{tk:Nat}{tp:Pos}(hd:o.data= .dict es ep):Turn P w K (.Tuple ts tk tp) (Itm o a) [it] it (fun i h=>∃ ok ov,IsItemIter h it a i es.size ep ok ov) where
 mem:=by simp
 obj:=fun i h st b hb=>by
  have e:b=it:=by simpa using hb
  subst e;obtain⟨_,_,st⟩:=st;exact⟨_,st,fun v z=>by cases z⟩
 keep:=fun i h h' st k=>by obtain⟨x,y,st⟩:=st;exact⟨x,y,k it (by simp) _ st⟩
 item:=by
  intro X hP hw hK hc i pins s σ H E I hf ⟨x0,y0,st⟩ ⟨ws,hg,hi⟩;subst hP hw hK;obtain⟨vs,es',ep',d',r,da,hS,hl⟩:=qf7 I hg;rw[hd]at d';cases d';have hv:i<vs.length:=by have:=Paired.length r;omega
  obtain⟨kv,k1,k2,k3⟩:=qcD (i:=i) r (by simp[hv]:vs[i]? =some vs[i])
  obtain⟨f0,f1,f2,f3,f4,f5⟩:=hf it (by simp)
  refine wpAny_pyNext_items_item (knd:=qai X.prog X.w) (k:=vs[i].1) (v:=vs[i].2) (by rw[hl];exact st) da (by simp[hv]) fun key h' hk st' tp' sz kp=>⟨_,rfl,?_⟩
  refine wpAny_letOwnedTupleGo_items (s:={ s with heap:=h' }) st' fun h2 st2 sb=>?_
  have hfr:=I.hok.fresh (waf s.heap.objs.size);have hpi:s.heap.objs.size≠it:=Nat.ne_of_gt (wai st);have t2:h2.get? s.heap.objs.size=some { cls:=.type "tuple",data:=.seq #[key,vs[i].2] }:=sb.extBut _ _ hpi tp';have rk:Vals [kV kv.1,kv.2] [key,vs[i].2]:=.cons (by rw[k2];exact qhg hk) (.cons k3 .nil)
  have I1:Inv X pins σ (upd H s.heap.objs.size (.tup [kV kv.1,kv.2])) { s with heap:=s.heap.push { cls:=.type "tuple",data:=.seq #[key,vs[i].2] },toks:=s.toks }:=
   I.laid (fun b o e=>wab _ e) (waf _) ⟨by show 2<=sizeLine;decide,[key,vs[i].2],rk,IsTup.new s.heap _⟩
  have I2:Inv X pins σ (upd H s.heap.objs.size (.tup [kV kv.1,kv.2])) { s with heap:=h2 }:=Inv.turned (s:={ s with heap:=s.heap.push { cls:=.type "tuple",data:=.seq #[key,vs[i].2] },toks:=s.toks }) (h':=h2) (t':=s.toks) (it:=it) I1 (fun b o hb e=>?_) (by rw[qaa hpi.symm];exact f0) f1 f3 f4 f5
  · exact⟨.ref s.heap.objs.size,_,I2,rfl,⟨ws,kv,_,hg,k1,rfl,hfr,rfl⟩,⟨_,_,by rw[<-hl];exact st2⟩,fun b hb=>by
     have e:b=it:=by simpa using hb
     subst e;rw[qaa hpi.symm];exact f0⟩
  · rcases Heap.get?_push_cases e with⟨rfl,rfl⟩|e'
    · exact t2
    · exact sb.extBut b o hb (kp b o hb e')
 done:=by
  intro X hP hw hK hc i pins s σ H E I hf ⟨x0,y0,st⟩ ⟨ws,hg,hi⟩;subst hP hw hK;obtain⟨vs,es',ep',d',r,da,hS,hl⟩:=qf7 I hg;rw[hd]at d';cases d';have hv:vs.length<=i:=by have:=Paired.length r;omega
  obtain⟨f0,f1,f2,f3,f4,f5⟩:=hf it (by simp)
  exact wpAny_pyNext_items_end (knd:=qai X.prog X.w) (I.ok.hd hc) (by rw[hl];exact st) da (by simp[hv]) fun h' eb=>⟨rfl,I.turned (t':=s.toks) (fun b o hb e=>eb b o hb e) f0 f1 f3 f4 f5⟩
 self:=fun A i s Q E st h=>by
  obtain⟨x,y,st⟩:=st;have hT:s.TypeIs (.ref it) "dict_itemiterator":=⟨_,st,rfl⟩;refine wpAny_pyIter_slot hT F.slot_dict_itemiterator_iter (waO F.slot_dict_itemiterator_iter hT qdT ?_ (F.args_dict_itemiterator_iter_1 _));refine(?_:wpAny _ _ (ret (.ref it)) _ _ s);exact wae ⟨_,rfl,"dict_itemiterator",_,hT,F.slot_dict_itemiterator_next.lookup,h⟩
def qdv(kvs:LKR):LR:=kvs.map fun kv=>.tup [kR kv.1,kv.2]
theorem qoS{H0 Hs:Hp}{K:Frg}{H1:Hp}{a:Addr}{o:Obj}{kvs:LKR}{ws:List (Key×V)}{un:RM->RM}(h:H1 a=some (.frz o (.dK ws)))(r:RepP K H1 kvs ws)
 (th:∀ H M,Ext H1 H->View K H M->M a=some (.fk kvs)->∃ H',Thaw H0 H H'/\ExtW H H'/\Ext Hs H'/\View K H' (un M)):qke H0 Hs K (Itm o a) (qdv kvs) (fun M=>M a=some (.fk kvs)) un H1 where
 turn:=fun i H M e hv hm x hx=>by
  have hH:=e.frzs _ _ _ h;have hl:(qdv kvs).length=ws.length:=by rw[<-qaJ r];simp[qdv]
  have hi:i<ws.length:=by rw[<-hl];exact(wax.mp hx).1
  refine⟨⟨_,hH,hi⟩,fun v H' y=>?_⟩
  obtain⟨ws',kv,p,hu,e1,rfl,hn,rfl⟩:=y;rw[hH]at hu;cases hu;obtain⟨q,e2,rq⟩:=qdc r e1;have:x= .tup [kR kv.1,q]:=by simpa[qdv,e2]using hx.symm
  rw[this];exact⟨Ext.new hn,fun _ w=>w.new hn,qdb hn (Reps.cons (qkD _) (Reps.cons (Rep.ext e _ _ rq) Reps.nil))⟩
 stop:=fun i H M e hv hm hi=>by
  have hl:(qdv kvs).length=ws.length:=by rw[<-qaJ r];simp[qdv]
  exact⟨_,e.frzs _ _ _ h,by rw[hl]at hi;exact hi⟩
 thaw:=th
noncomputable def qqE (Q:LR->(RM->Prop)->(RM->RM)->RM->Prop):RVK:=fun v M1=>match v with
 | .ref a=>match M1 a with
  |some (.dk kvs)=>Q (qdv kvs) (fun M=>M a=some (.fk kvs)) (fun M=>put M a (.dk kvs)) (put M1 a (.fk kvs))
  |some (.fk kvs)=>Q (qdv kvs) (fun M=>M a=some (.fk kvs)) id M1
  |_=>False
 |_=>False
def qAr(te:RTE):RTI:=fun σ M Q=>te σ M (qqE Q)
theorem qxg{pins:LAO}{σ0:L2.St}{H H1:Hp}{s:Shared}{Q:LR->(RM->Prop)->(RM->RM)->RM->Prop}{rv:RV}{v:V}{M1:RM}(I:Inv X pins σ0 H1 s)(e1:Ext H H1)(v1:View X.K H1 M1)(r1:Rep X.K H1 rv v)(q:qqE Q rv M1):
 ∃ a o ws H2 xs ok un M2,v= .ref a/\Inv X pins σ0 H2 s/\H2 a=some (.frz o (.dK ws))/\qke X.H₀ H X.K (Itm o a) xs ok un H2/\Q xs ok un M2/\Ext H H2/\View X.K H2 M2:=by
 cases rv<;>first|(exact(show False from q).elim)|skip
 rename_i a;simp only[Rep]at r1;unfold qqE at q;simp only at q;split at q
 · rename_i kvs em
   obtain⟨ho,eh,ws,rfl,r⟩:=v1 a _ em;obtain⟨ob,g,I2,n0⟩:=qeH I eh rfl;have ex:Ext H1 (upd H1 a (.frz ob (.dK ws))):=Ext.write eh rfl;refine⟨a,ob,ws,_,_,_,_,_,r1,I2,qag,qoS qag (r.ext ex) fun H2 M e hv hm=>?_,q,e1.trans ex,v1.write em ⟨ob,ws,rfl,r.ext ex⟩⟩
   have hH:=e.frzs _ _ _ (qag (H:=H1) (a:=a) (o:=.frz ob (.dK ws)));have xw:ExtW H2 (upd H2 a (.dK ws)):=ExtW.thaw hH rfl;refine⟨upd H2 a (.dK ws),.inr ⟨a,ob,_,hH,rfl,n0,rfl⟩,xw,⟨fun b xs z=>?_,fun b o' u' z=>?_⟩,hv.write hm ⟨ws,rfl,RepP.extw xw (r.ext (ex.trans e))⟩⟩
   · have z1:=e.tups _ _ (ex.tups _ _ (e1.tups _ _ z))
     rw[qaa (by rintro rfl;rw[hH]at z1;cases z1)];exact z1
   · have z0:=e1.frzs _ _ _ z
     rw[qaa (by rintro rfl;rw[eh]at z0;cases z0)];exact e.frzs _ _ _ (ex.frzs _ _ _ z0)
 · rename_i kvs em
   obtain⟨ho,eh,ob,ws,rfl,r⟩:=v1 a _ em;exact⟨a,ob,ws,H1,_,_,_,_,r1,I,eh,qoS eh r (qb4 e1),q,e1,v1⟩
 · exact q.elim
theorem qtO{l:Expr}{te:RTE}{ap p:Pos}{ts:LEx}{tk:Nat}{tp:Pos}(hl:RPE X l te)(hbase:attributeBase l "items" X.env (eval l X.env)=eval l X.env)(hline:(ap.endLine==p.line)=true):RPI X (.Tuple ts tk tp) (.Call (.Attribute l "items" ap) [] [] p) (qAr te):=by
 intro pins s σ0 H R I h;obtain⟨σ,M,Q,hs,hv,ht,hk⟩:=h;refine wpAny_Call_method (T:="dict") (id:="dict.items") hbase rfl hline F.plainAttrs_dict F.slot_dict_items F.type_dict_items (thn (hl pins s σ0 H (fun x H1=>∃ rv M1,Rep X.K H1 rv x/\qqE Q rv M1/\Ext H H1/\View X.K H1 M1) I ⟨σ,M,_,hs,hv,ht,fun rv M1 v H1 q e1 v1 r1=>⟨rv,M1,r1,q,e1,v1⟩⟩) fun uv s1 zz=>?_);obtain⟨v,H1,I1,rl,rv,M1,r1,q,e1,v1⟩:=zz
 obtain⟨a,o,ws,H2,xs,ok,un,M2,rfl,I2,hH,it,q,e2,v2⟩:=qxg I1 e1 v1 r1 q;cases(show uv=Value.ref a from rl)
 obtain⟨vs,es,ep,hd,r,da,hS,hl⟩:=qf7 I2 hH;obtain⟨t1,t2⟩:=ql8 I2 hH rfl;refine⟨t1,t2,method_meetsIn F.slot_dict_items F.entry_dict_items rfl (PySem.evalArgs_none ⟨rfl,t1,F.args_dict_items_1 _,_,meets_dict_items (qai X.prog X.w) a hS,⟨vs,da.dictOf⟩,?_⟩)⟩;have I3:Inv X pins σ0 H2 { s1 with heap:=s1.heap.push { cls:=.type "dict_items",data:=.fields #[.ref a] } }:=I2.kept (t':=s1.toks) fun b o e=>wab _ e
 refine wpAny_pyIter_items (s:={ s1 with heap:=s1.heap.push { cls:=.type "dict_items",data:=.fields #[.ref a] } }) ⟨_,wah _ rfl,rfl,rfl⟩ (da.push _) ?_
 have hlt:a<s1.heap.objs.size:=da.lt_size;refine⟨_,[_],_,_,H2,rfl,I3.kept (t':=s1.toks) fun b o e=>wab _ e,qjs hd,⟨_,_,by rw[<-hl];exact wah _ rfl⟩,fun b hb=>?_,hk xs ok un M2 _ H2 q e2 v2 it⟩
 have e:=wbl.mp hb;subst e;exact I3.fpOk (waf _) (I3.hok.fresh (waf _))
end
section
variable {prog:Program}{w:World}{A:Around}{d r:Addr}{es:Array DictEntry}{ep:Nat}
theorem RawD.keep{h h':Heap}(x:RawD h d es ep)(k:∀ o,h.get? d=some o->h'.get? d=some o):RawD h' d es ep:=by obtain⟨o,h1,h2⟩:=x;exact⟨o,k o h1,h2⟩
theorem RawD.lt{h:Heap}(x:RawD h d es ep):d<h.objs.size:=by obtain⟨o,h1,h2⟩:=x;exact wai h1
theorem qkg(hh:A.handled=none)(I:Addr)(hne:d≠I):Walks prog w A I [I,d] [I] es.size (fun i v=>∃ hi:i<es.size,v=es[i].val) (fun i h=>h.IsValIter I d i es.size ep/\RawD h d es ep) where
 sub:=fun b hb=>by simp at hb;simp[hb]
 frame:=fun _ _ _ st hk=>⟨st.1.at fun o e=>hk I (by simp) o e,st.2.keep fun o e=>hk d (by simp) o e⟩
 item:=fun i s Q E hi st hQ=>qb0 st.1 st.2 hi fun h' hit' hs'=>hQ _ h' s.toks ⟨hi,rfl⟩ ⟨hit',st.2.keep fun o e=>hs'.extBut d o hne e⟩ fun b o hb e=>hs'.extBut b o (fun h=>hb (by simp[h])) e
 done:=fun s Q E st hQ=>qb6 hh st.1 st.2 (waf _) fun h' he'=>hQ h' s.toks fun b o hb e=>he' b o (fun h=>hb (by simp[h])) e
 self:=fun _ _ _ _ st hQ=>wpAny_pyIter_valiter st.1 hQ
theorem qmU:PySem.W.KdlSrc prog w "dict_values" r d es.size (fun i v=>∃ hi:i<es.size,v=es[i].val) (fun h=>h.IsValuesView r d/\RawD h d es ep) where
 type:=fun _ hm=>hm.1.typeIs
 there:=fun _ hm=>⟨let⟨_,ho,_⟩:=hm.1;wai ho,hm.2.lt⟩
 keep:=fun _ _ hm hk=>⟨let⟨o,ho,x⟩:=hm.1;⟨o,hk r (.inl rfl) o ho,x⟩,hm.2.keep fun o e=>hk d (.inr rfl) o e⟩
 notList:=by decide
 notTuple:=by decide
 hint:=fun _ _ _ _ hm hq=>PySem.W.kdl_hint_values hm.1.typeIs hq
 iter:=fun _ _ hh hm=>⟨_,_,(fun _ _ hq=>qfj hm.1 hm.2 hq),qkg hh _ (waq hm.2.lt),⟨⟨_,wah _ rfl,rfl,rfl⟩,hm.2.keep fun o e=>wab _ e⟩⟩
end
noncomputable def qme:RO->Option (LR)
 | .dk kvs=>some (kvs.map (·.2))
 | .fk kvs=>some (kvs.map (·.2))
 | .dt kvs=>some (kvs.map (·.2))
 | .ft kvs=>some (kvs.map (·.2))
 |_=>none
def kLv(md:Bool)(Q:RVK):RVK:=fun v M=>match v with
 | .ref a=>match(M a).bind qme with
  |some xs=>qnV md xs M Q
  |none=>False
 |_=>False
def rLv(md:Bool)(te:RTE):RTE:=fun σ M Q=>te σ M (kLv md Q)
section
variable {X:Cx}
theorem qb5{κ:Type}{K:Frg}{H:Hp}:∀ {xs:List (κ×RV)} {ws:List (κ×V)},RepP K H xs ws->Reps K H (xs.map (·.2)) (ws.map (·.2))
 | [],ws,h=>by have h:ws= []:=h;subst h;exact Reps.nil
 |(k,x)::r,ws,h=>by obtain⟨v,t,rfl,h1,h2⟩:=h;exact Reps.cons h1 (qb5 h2)
theorem qt7{pins:LAO}{σ0:L2.St}{H:Hp}{s:Shared}{a:Addr}{o:RO}{xs:LR}{M:RM}(I:Inv X pins σ0 H s)(hv:View X.K H M)(hm:M a=some o)(hd:qme o=some xs):
 ∃ vs es ep,RawD s.heap a es ep/\(a==sysModules)=false/\es.size=vs.length/\vs.length<=sizeLine/\Reps X.K H xs vs/\∀ i (hi:i<es.size),∃ x,vs[i]? =some x/\RelV x es[i].val:=by
 obtain⟨ho,eh,r⟩:=hv a o hm;have key:∀ (u:HO) (H2:Hp) (ob:Obj) (vs:LV),Inv X pins σ0 H2 s->H2 a=some (.frz ob u)->qlD u=true->(∀ i x,valAt u i x->vs[i]? =some x)->qnG u=vs.length->Reps X.K H xs vs->∃ vs es ep,RawD s.heap a es ep/\(a==sysModules)=false/\es.size=vs.length/\vs.length<=sizeLine/\Reps X.K H xs vs/\∀ i (hi:i<es.size),∃ x,vs[i]? =some x/\RelV x es[i].val:=fun u H2 ob vs I2 h2 du hva hl hr=>by
  obtain⟨es,ep,hd,rd,hS,e1,e2,hall⟩:=qbI I2 h2 du;exact⟨vs,es,ep,rd,hS,by rw[e1,hl],by rw[<-hl];exact e2,hr,fun i hi=>by obtain⟨_,x,k1,k2⟩:=hall i hi;exact⟨x,hva i x k1,k2⟩⟩
 have vK:∀ (ws:List (Key×V)) i x,valAt (.dK ws) i x->(ws.map (·.2))[i]? =some x:=fun ws i x ⟨kv,e,z⟩=>by rw[wau,e,z];rfl
 have vT:∀ (ws:List (TK×V)) i x,valAt (.dT ws) i x->(ws.map (·.2))[i]? =some x:=fun ws i x ⟨kv,e,z⟩=>by rw[wau,e,z];rfl
 cases o<;>first|(cases hd;done)|skip
 · obtain⟨ws,rfl,hg⟩:=r
   cases hd;obtain⟨ob,g,I2,n0⟩:=qeH I eh rfl;exact key _ _ ob (ws.map (·.2)) I2 qag rfl (vK ws) (by simp[qnG]) (qb5 hg)
 · obtain⟨ws,rfl,hg⟩:=r
   cases hd;obtain⟨ob,g,I2,n0⟩:=qeH I eh rfl;exact key _ _ ob (ws.map (·.2)) I2 qag rfl (vT ws) (by simp[qnG]) (qb5 hg)
 · obtain⟨ob,ws,rfl,hg⟩:=r
   cases hd;exact key _ _ ob (ws.map (·.2)) I eh rfl (vK ws) (by simp[qnG]) (qb5 hg)
 · obtain⟨ob,ws,rfl,hg⟩:=r
   cases hd;exact key _ _ ob (ws.map (·.2)) I eh rfl (vT ws) (by simp[qnG]) (qb5 hg)
theorem qfe:∀ {vs:LV} {us:LVl},us.length=vs.length->(∀ (i:Nat) u,us[i]? =some u->∃ x,vs[i]? =some x/\RelV x u)->Vals vs us
 | [],[],_,_=>.nil
 | [],_::_,h,_=>by cases h
 |_::_,[],h,_=>by cases h
 |v::vs,u::us,h,f=>by
  obtain⟨x,e,r⟩:=f 0 u rfl;cases e;exact .cons r (qfe (by simpa using h) fun i u e=>f (i+1) u (by simpa using e))
theorem rlv{l:Expr}{te:RTE}{md:Bool}{p1 ap p2 pos:Pos}(hml:X.mg "list" =none)(hc:X.calm=true)(hl:RPE X l te)(hgl:Gl X "list")(hbase:attributeBase l "values" X.env (eval l X.env)=eval l X.env)(hline:(ap.endLine==p2.line)=true):
 RPE X (.Call (.Name "list" p1) [.Call (.Attribute l "values" ap) [] [] p2] [] pos) (rLv md te):=by
 intro pins s σ0 H Q0 I h;obtain⟨σ,M,Q,hs,hv,ht,hk⟩:=h;have he0:starEach [Expr.Call (.Attribute l "values" ap) [] [] p2] X.env=(false,eval (Expr.Call (.Attribute l "values" ap) [] [] p2) X.env)::starEach [] X.env:=rfl;refine Call_ (qds I hgl hml boot_list (waT ?_ he0 rfl));rw[he0];show wpAny _ _ (spliced ((false,eval (Expr.Call (.Attribute l "values" ap) [] [] p2) X.env)::backTo pos (starEach [] X.env))) _ _ s;refine Calls.spliced_cons (wpAny_Call_method (T:="dict") (id:="dict.values") hbase rfl hline F.plainAttrs_dict F.slot_dict_values F.type_dict_values (thn (hl pins s σ0 H (fun x H1=>∃ rv M1,Rep X.K H1 rv x/\kLv md Q rv M1/\Ext H H1/\View X.K H1 M1) I ⟨σ,M,_,hs,hv,ht,fun rv M1 v H1 q e1 v1 r1=>⟨rv,M1,r1,q,e1,v1⟩⟩) fun uv s1 zz=>?_));obtain⟨v,H1,I1,rl,rv,M1,r1,q,e1,v1⟩:=zz
 cases rv<;>first|(exact(show False from q).elim)|skip
 rename_i a;simp only[Rep]at r1;subst r1;cases(show uv=Value.ref a from rl)
 unfold kLv at q;simp only at q;split at q
 · rename_i xs ex
   obtain⟨o,hm,hd⟩:=Option.bind_eq_some_iff.mp ex;obtain⟨vs,es,ep,rd,hS,e2,e3,hr,hall⟩:=qt7 I1 v1 hm hd;refine⟨rd.ty,fun b e=>by cases e;obtain⟨o1,h1,h2,h3⟩:=rd;exact⟨o1,h1,h2.2.1⟩,method_meetsIn F.slot_dict_values F.entry_dict_values rfl (PySem.evalArgs_none ⟨rfl,rd.ty,F.args_dict_values_1 _,_,qek hS,⟨es,ep,rd⟩,Calls.spliced_nil ?_⟩)⟩
   have I3:Inv X pins σ0 H1 { s1 with heap:=s1.heap.push { cls:=.type "dict_values",data:=.fields #[.ref a] } }:=I1.kept (t':=s1.toks) fun b o e=>wab _ e
   refine PySem.W.kdl_call (s:={ s1 with heap:=s1.heap.push { cls:=.type "dict_values",data:=.fields #[.ref a] } }) qmU (I3.ok.hd hc) ⟨⟨_,wah _ rfl,rfl,rfl⟩,rd.keep fun o e=>wab _ e⟩ (by rw[e2];exact e3) fun h' tk acc c' kp hget hit=>?_
   have hv':Vals vs acc.toList:=qfe (by simp[hit.1,e2]) fun i u e=>by
    obtain⟨hi,rfl⟩:=hit.2 i u (by rw[<-Array.getElem?_toList];exact e)
    exact hall i hi
   have hfr:=I3.hok.fresh (waf _);have I4:=I3.laid (t':=tk) (o:=.lst vs) (h':=h') kp (waf _) ⟨e3,acc.toList,c',hv',by simpa using hget⟩
   cases md with
   |true=>exact⟨.ref _,_,I4,rfl,hk (.ref _) _ _ _ (q _ (v1.free hfr)) (e1.trans (Ext.new hfr)) (v1.newPut hfr ⟨vs,rfl,Reps.ext (Ext.new hfr) _ _ hr⟩) (by simp only[Rep])⟩
   |false=>exact frozen ⟨.ref _,_,I4,rfl,H1,_,vs,rfl,hfr,rfl,fun o=>hk _ M1 _ _ q (e1.trans (Ext.new hfr)) (v1.new hfr) (qbZ hfr hr)⟩
 · exact q.elim
end
def kin:qbE->qbE->Bool
 |some (.inl _),some (.inl _)=>true
 |some (.inr _),some (.inr _)=>true
 |_,_=>false
def qmM(r:TK):RV:=.tup (r.map oR)
section
variable {X:Cx}
def qAv:LR->RM->RVK->Prop:=fun rs M Q=>∃ bs:List Bool,rs= [.ls (bs.map RV.bl)]/\Q (.bl (bs.any id)) M
theorem range_any(bs:List Bool):(List.range bs.length).any (fun i=>bs.getD i true)=bs.any id:=by
 induction bs with
 |nil=>rfl
 |cons b bs ih=>
  rw[wal,List.range_succ_eq_map,wa7,List.any_map,wa7];have:((fun i=>(b::bs).getD i true) ∘ Nat.succ)=fun i=>bs.getD i true:=by funext i;rfl
  rw[this,ih];rfl
theorem qn8(hc:X.calm=true):qaQ X (.builtin "any") (upC X.K qAv):=by
 intro pins s σ H xs us Q0 I rl h;obtain⟨rs,M,Q,rr,hv,⟨bs,rfl,hq⟩,hk⟩:=h;obtain⟨v,rfl,r1⟩:=rr.one;simp only[Rep]at r1;obtain⟨a,vs,rfl,h1,h2⟩:=r1;have:=qh2 h2;subst this;obtain⟨u,rfl,ru⟩:=rl.one;cases ru;obtain⟨its,rv,p,hz⟩:=I.list h1.sq;have:=qhP rv;subst this;have hlt:a<s.heap.objs.size:=by obtain⟨o,n,e,_⟩:=p;exact wai e
 refine call_any_walk (wpAny_pyIter_list p.isList ?_);have hd:X.A.in1.handled=none:=I.ok.hd hc;refine⟨s.heap.objs.size,_,_,_,_,_,fun i=>bs.getD i true,rfl,Walks.list hd s.heap.objs.size a (waq hlt) (bs.map Value.bool).toArray,⟨⟨_,wah _ rfl,rfl,rfl⟩,p.isList.push _⟩,?_,?_⟩
 · intro i v s' Q' E' hP hQ'
   have hP':(bs.map Value.bool)[i]? =some v:=by simpa using hP
   rw[wau]at hP';cases e:bs[i]? with
   |none=>rw[e]at hP';cases hP'
   |some b=>
    rw[e]at hP';have hb:bs.getD i true=b:=by rw[List.getD_eq_getElem?_getD,e];rfl
    cases hP';have hQ2:Q' (bs.getD i true) s':=hQ';rw[hb]at hQ2;exact waJ hQ2
 · intro h' tk hk'
   have I1:Inv X pins σ H { s with heap:=s.heap.push { cls:=.type "list_iterator",data:=.fields #[.ref a,.int 0 0] } }:=I.kept (t':=s.toks) fun b o e=>wab _ e
   obtain⟨f0,f1,f2,f3,f4,f5⟩:=I.fpOk (waf _) (I.hok.fresh (waf _));have I2:Inv X pins σ H { s with heap:=h',toks:=tk }:=by
    have z:=I1.turned (h':=h') (t':=tk) (it:=s.heap.objs.size) (fun b o hb e=>hk' b o (by simpa using hb) e) f0 f1 f3 f4 f5
    exact z
   refine⟨.bl (bs.any id),H,I2,?_,hk _ M _ H hq (.refl H) hv (by simp only[Rep])⟩
   show _=_;rw[<-range_any];simp
theorem qut:bootBuiltins "any" =some (.builtin "any"):=by decide+kernel
def qwu:LR->RM->RVK->Prop:=fun rs M Q=>match rs with
 | [.bl b]=>Q (.int (if b then 1 else 0)) M
 |_=>False
theorem qD6:qaQ X (.type "int") (upC X.K qwu):=by
 intro pins s σ H xs us Q0 I rl h;obtain⟨rs,M,Q,rr,hv,hq,hk⟩:=h;unfold qwu at hq;split at hq
 · rename_i b
   obtain⟨v,rfl,r1⟩:=rr.one;simp only[Rep]at r1;subst r1;obtain⟨u,rfl,ru⟩:=rl.one;cases ru;exact call_int_bool ⟨.int _,H,I.kept fun b o e=>e,⟨_,rfl⟩,hk _ M _ H hq (.refl H) hv (by simp only[Rep])⟩
 · exact hq.elim
variable {tg:Expr}{pos:Pos}
end
section
variable {prog:Program}{w:World}{A:Around}{s:Shared}{E:VSP}
structure qoi(v:Str)(params:Arguments)(scope:Scope):Prop where
 bd:∀ name qual body pm cd ct u,bindArgs (kla_fn name qual params body scope [] pm cd ct) ⟨[u],[]⟩=pure [(v,u)]
 loc:scope.names.lookup v=some .local
 cell:∀ y∈scope.names,y.2≠.cell
 co:scope.isCoroutine=false
 gen:scope.isGenerator=false
 kind:scope.kind= .function
 dbg:(v==("__debug__":Str))=false
theorem ObjM.kp{h h':Heap}{x dx C:Addr}{mA:SOV}(O:ObjM h x dx C mA)(k:∀ b o,h.get? b=some o->h'.get? b=some o):ObjM h' x dx C mA:=
 let⟨o,es,ep,ho,r⟩:=O.ns;⟨k _ _ O.obj,⟨o,es,ep,k _ _ ho,r⟩,O.ne⟩
theorem qqt{K:Frag}{f c' x C dx:Addr}{name qual v fld:Str}{params:Arguments}{scope:Scope}{pm ctv u:Value}{mA:SOV}{p1 p2:Pos}{Q:VSP}
 (hroom:A.depth<recursionLimit) (kin:K.In s.heap) (lim:s.heap.NoLimit) (L:qoi v params scope)
 (ho:s.heap.get? f=some (kla_obj name qual params (.Attribute (.Name v p1) fld p2) scope [] pm c' ctv)) (hcd:s.heap.CodeRec (.ref c') qual)
 (O:ObjM s.heap x dx C mA) (c:Cls K C) (n:NoAttr K C fld) (hu:mA fld=some u) (hh:handedIn u=true)
 (h:∀ h' tk,(∀ b o,s.heap.get? b=some o->h'.get? b=some o)->Q u { s with heap:=h',toks:=tk }):
 wpAny (model prog w) A (call (.ref f) [.ref x]) Q E s:=by
 refine wpAny_call (kla_callFunE hroom ho rfl L.co L.gen rfl hcd ?_);rw[L.bd];refine wae (wpAny_newFunctionEnv L.cell (fun y hy=>by cases wbl.mp hy;exact L.loc) (fun h₁ hns hsb=>⟨lim.fresh _ hsb,kla_codeExpr ?_⟩) L.kind)
 have kp:∀ b o,s.heap.get? b=some o->h₁.get? b=some o:=fun b o e=>hsb.extBut b o (waq (wai e)) (wab _ e)
 refine qmt rfl (wpAny_Name (wpAny_loadName_local (v:=Value.ref x) L.kind (show _=_ from L.loc) hns (by simp) ?_) L.dbg)
 refine get_map (K:=K) (kin.keeps kp) (ObjM.kp O kp) (c.get fld) c.hd n hu hh ?_;exact h _ _ kp
end
section
variable {X:Cx}{pins:LAO}{σ:L2.St}{H:Hp}{s:Shared}{h':Heap}
theorem qvP{l f c' C:Addr}{name qual v fld:Str}{params:Arguments}{scope:Scope}{pm ctv:Value}{p1 p2:Pos}{as:List Addr}{ks:List Int}{Q:VSP}{E:VSP}(I:Inv X pins σ H s)
 (hl:s.heap.IsList l (as.map Value.ref).toArray) (hlen:ks.length=as.length) (h64:as.length<64) (hi:∀ (i:Nat) a k,as[i]? =some a->ks[i]? =some k->∃ dx fs,H a=some (.ins C dx fs)/\fs.lookup fld=some (.int k))
 (hroom:X.A.depth<recursionLimit) (L:qoi v params scope) (ho:s.heap.get? f=some (kla_obj name qual params (.Attribute (.Name v p1) fld p2) scope [] pm c' ctv)) (hcd:s.heap.CodeRec (.ref c') qual)
 (c:Cls X.K C) (n:NoAttr X.K C fld)
 (h:∀ D h' tk out ep,(∀ m,s.heap.Ns X.env.locals m->h'.Ns X.env.locals m)->(∀ b o,b≠X.env.locals->s.heap.get? b=some o->h'.get? b=some o)->s.heap.get? D=none->D≠X.env.locals->h'.get? D=some (seqObj "list" out ep)->KskOut false ks (as.map Value.ref) out.toList->Q (.ref D) { s with heap:=h',toks:=tk }):
 wpAny (model X.prog X.w) X.A (call (.builtin "sorted") [.ref l] [(Str.ofString "key",.ref f)]) Q E s:=by
 obtain⟨m,F⟩:=I.fr;have nL:∀ b,(∃ m',s.heap.Ns X.env.locals m')->b=X.env.locals->∀ o,s.heap.get? b=some o->∃ es ep,o.data= .dict es ep:=fun b ⟨m',o',es,ep,q,d,_⟩ e o z=>by
  rw[e,q]at z;cases z;exact⟨es,ep,d⟩
 have fL:f≠X.env.locals:=fun e=>by obtain⟨_,_,d⟩:=nL f ⟨m,F.ns⟩ e _ ho;cases d
 have ho':=ho;obtain⟨c1,oc,vc,tc,ec,gc,dc,qc⟩:=hcd;cases ec;have cL:c'≠X.env.locals:=fun e=>by obtain⟨_,_,d⟩:=nL c' ⟨m,F.ns⟩ e _ gc;rw[dc]at d;cases d
 have aL:∀ b u,H b=some u->b≠X.env.locals:=fun b u e z=>by rw[z,I.free]at e;cases e
 refine ksk_sorted (h₀:=X.base) (news:=rest X.base s.heap X.env.locals s.heap.objs.size) (kz:=ks) (f:=.ref f) F (fun p hp=>qnA p (wbd.mp hp).1) hl (by rw[waj];exact hlen) (by rw[waj];exact h64) (ksk_s1 _ _) (fun x=>ksk_l1 _ _) (fun x=>ksk_t1 f x) ?turn ?fin
 case turn=>
  intro i v' k hv hk h1 tk own F1 N1;rw[wau]at hv;cases ea:as[i]? with
  |none=>rw[ea]at hv;cases hv
  |some a=>
   rw[ea]at hv;cases hv;obtain⟨dx,fs,e1,e2⟩:=hi i a k ea hk;have kp:∀ b o,b≠X.env.locals->s.heap.get? b=some o->h1.get? b=some o:=fun b o hb e=>qdu (d:=s.heap.objs.size) I.bk F1 (fun p hp=>N1 p (wbs _ hp)) b o hb (waq (wai e)) e
   obtain⟨mA,O,r,_,_,hdx⟩:=qf3 I.hok e1;obtain⟨u,hu,ru⟩:=RelO.some_of (v:=V.int k) (o:=mA fld) (by rw[<-e2];exact r fld)
   obtain⟨t,rfl⟩:=(show ∃ t,u=Value.int k t from ru)
   obtain⟨od,es,ep,g1,g2⟩:=O.ns;have O1:ObjM h1 a dx C mA:=⟨kp _ _ (aL a _ e1) O.obj,⟨od,es,ep,kp _ _ (aL dx _ hdx) g1,g2⟩,O.ne⟩;refine qqt (K:=X.K) (s:={ s with heap:=h1,toks:=tk }) hroom (I.ok.mod.kin.keeps F1.keep) (I.ok.mod.nolimit.keeps F1.keep) L (kp _ _ fL ho') ⟨c',oc,vc,tc,rfl,kp _ _ cL gc,dc,qc⟩ O1 c n hu rfl fun h2 tk2 k2=>?_
   exact KskEnd.intro ⟨(by obtain⟨o,es,ep,g,r⟩:=F1.ns;exact⟨o,es,ep,k2 _ _ g,r⟩),fun b o e=>k2 b o (F1.keep b o e),F1.above⟩ (fun p hp=>⟨k2 _ _ (N1 p hp).1,(N1 p hp).2⟩) fun p hp=>hp
 case fin=>
  intro D h1 tk out ep F1 N1 lt ko;have kp:∀ b o,b≠X.env.locals->s.heap.get? b=some o->h1.get? b=some o:=fun b o hb e=>qdu (d:=s.heap.objs.size) I.bk F1 (fun p hp=>N1 p (wat _ hp)) b o hb (waq (wai e)) e
  have hD:=N1 (D,seqObj "list" out ep) waz;refine h D h1 tk out ep (fun m' hm'=>by rw[hm'.eq_nsMap,<-F.ns.eq_nsMap];exact F1.ns) kp ?_ hD.2.1 hD.1 ko
  cases q:s.heap.get? D with
  |none=>rfl
  |some o=>exact waI (lt _ (qja hD.2.1 hD.2.2 q (waq (wai q)))) (wa6 _)
end
theorem qko{P:Program}{w:World}{H:Hp}{h:Heap}{a:Addr}{pos:Pos}{x:Option Addr}(e:qgk a pos x h):ObjOk P w H h a (.ext (qgk a pos x)):=⟨e,⟨_,e⟩,fun _ _ e k=>k _ e⟩
section
variable {X:Cx}{pins:LAO}{σ:L2.St}{H:Hp}{s:Shared}{P c c':Addr}{pos:Pos}{h':Heap}{u:HO}{oc:Obj}
theorem Inv.tabbed{t':Nat}(I:Inv X pins σ H s)(hP:H P=some (.ext (qgk P pos none)))(k:∀ b o,b≠P->s.heap.get? b=some o->h'.get? b=some o)(hc:s.heap.objs.size<=c')(hoc:h'.get? c'=some oc)(ht:qgk P pos (some c') h'):
 Inv X pins σ (upd (upd H P (.ext (qgk P pos (some c')))) c' (.frz oc (.own c'))) { s with heap:=h',toks:=t' }:=by
 have hn:H c'=none:=I.hok.fresh hc;have cP:c'≠P:=wa4 (qab hP hn);have nP:∀ b,H b=none->b≠P:=fun b n z=>by rw[z,hP]at n;cases n
 have nc:∀ b o,s.heap.get? b=some o->b≠c':=fun b o e=>waq (wam (wai e) hc)
 have kp:∀ b u,H b=some u->b≠P->upd (upd H P (.ext (qgk P pos (some c')))) c' (.frz oc (.own c')) b=some u:=fun b u e z=>by rw[qaa (qab e hn),qaa z];exact e
 have np:∀ b u,H b=some u->u≠.ext (qgk P pos none)->b≠P:=fun b u e z y=>by subst y;rw[hP]at e;exact z (wao e).symm
 refine I.un ⟨fun b o e n _ _=>k b o (nP b n) e,fun b o e n _ _=>⟨o.slots,k b o (nP b n) e⟩,fun b o e n _=>(qaa (nc b o e)).trans ((qaa (nP b n)).trans n),fun b o e _=>?_,fun b xs e=>kp b _ e (np b _ e nofun),fun b o u e=>kp b _ e (np b _ e nofun),fun b ps e=>⟨#[],(kp b _ e (np b _ e nofun)).trans (by simp)⟩⟩ fun b u e=>?_
 · by_cases z:b=P
   · exact⟨_,z ▸ ht⟩
   · exact⟨o,k b o z e⟩
 · by_cases z:b=c'
   · subst z;rw[qag]at e;cases e;exact⟨hoc,_,hoc⟩
   · rw[qaa z]at e
     by_cases y:b=P
     · subst y;rw[qag]at e;cases e;exact qko ht
     · rw[qaa y]at e
       refine(I.hok b u e).stay (fun d v hd q=>k d v ?_ q) (fun d q=>kp d _ q (np d _ q nofun)) fun d xs q=>kp d _ q (np d _ q nofun)
       rcases hd with rfl|q
       · exact y
       · exact np d _ q nofun
theorem qnJ{q:Str}{ho:HO}{params:Arguments}{body:Expr}{scope:Scope}{M:Model}{A:Around}{E:VSP}{Q:VSP}(I:Inv X pins σ H s)(hP:H P=some ho)(r:RepO X.K H (.tb P pos q) ho)
 (hcode:X.env.code= .ref c) (C:CodeHd X.base c P) (hb:X.base.BuiltinsAt X.mg P) (hgP:mainGlobals≠P) (hdef:defaultsOf params X.env=([],[])) (hcl:closureFor scope X.env=pure []) (hq:X.env.qual++("<lambda>":Str)=q)
 (h:∀ f c' ctv h' tk H',Inv X pins σ H' { s with heap:=h',toks:=tk }->Ext H H'->(∀ b u,H b=some u->b≠P->H' b=some u)->(∃ ho',H' P=some ho'/\RepO X.K H' (.tb P pos q) ho')->
  h'.get? f=some (kla_obj "<lambda>" q params body scope [] ((X.mg "__name__").getD .none) c' ctv)->h'.CodeRec (.ref c') q->Q (.ref f) { s with heap:=h',toks:=tk }):
 wpAny M A (eval (.Lambda params body scope pos) X.env) Q E s:=by
 subst hq;have hg:s.heap.Ns mainGlobals X.mg:=by obtain⟨o,es,ep,e,z⟩:=I.ok.mod.glob;exact⟨o,es,ep,I.bk _ _ e,z⟩
 have hb':s.heap.BuiltinsAt X.mg P:=by obtain⟨bm,o,b1,b2,b3,b4,b5,b6⟩:=hb;exact⟨bm,o,b1,b2,b3,b4,I.bk _ _ b5,b6⟩
 refine kla_eval hdef ?_;rcases r with rfl|⟨c',oc,vs,t,rfl,hc',hd,hv⟩
 · have ht:qgk P pos none s.heap:=(I.hok P _ hP).1
   refine kla_makeFunction (mg:=X.mg) (clos:=[]) (ps:=#[]) hcl I.ok.glob hg hcode (C.keeps I.bk) ht (by first|trivial|decide|simp[TriplesOk]) rfl hgP hb' fun c' ctv h1 tk hx hge hlt hrec htb=>?_
   obtain⟨c2,oc,vs,t,e2,hoc,hd,hv⟩:=hrec;cases e2;have I':=R.Inv.tabbed (t':=tk) (h':=h1.push (kla_obj "<lambda>" (X.env.qual++("<lambda>":Str)) params body scope [] ((X.mg "__name__").getD .none) c' ctv)) (c':=c') (oc:=oc) I hP (fun b o hb e=>wab _ (hx b o hb e)) hge (wab _ hoc) (wab _ htb)
   have hn:H c'=none:=I.hok.fresh hge;have cP:c'≠P:=wa4 (qab hP hn);have kp:∀ b u,H b=some u->b≠P->upd (upd H P (.ext (qgk P pos (some c')))) c' (.frz oc (.own c')) b=some u:=fun b u e z=>by rw[qaa (qab e hn),qaa z];exact e
   have np:∀ b u,H b=some u->u≠.ext (qgk P pos none)->b≠P:=fun b u e z y=>by subst y;rw[hP]at e;exact z (wao e).symm
   refine h _ c' ctv _ tk _ I' ⟨fun b xs e=>kp b _ e (np b _ e nofun),fun b o u e=>kp b _ e (np b _ e nofun)⟩ kp ⟨_,by rw[qaa (wa4 cP)];exact qag,.inr ⟨c',oc,vs,t,rfl,qag,hd,hv⟩⟩ (wah _ rfl) ⟨c',oc,vs,t,rfl,wab _ hoc,hd,hv⟩
 · have ht:qgk P pos (some c') s.heap:=(I.hok P _ hP).1
   have hoc:s.heap.get? c'=some oc:=(I.hok c' _ hc').1;refine kla_makeFunctionHit (mg:=X.mg) (clos:=[]) (ps:=#[rawInt pos.line,rawInt pos.col,.ref c']) (cv:=.ref c') hcl I.ok.glob hg hcode (C.keeps I.bk) ht (by first|trivial|decide|simp[TriplesOk]) (by simp[codeAmong,rawInt]) hb' fun ctv h1 tk hk hsz=>?_
   exact h _ c' ctv _ tk H (I.kept (t':=tk) fun b o e=>wab _ (hk b o e)) (.refl H) (fun b u e _=>e) ⟨_,hP,.inr ⟨c',oc,vs,t,rfl,hc',hd,hv⟩⟩ (wah _ rfl) ⟨c',oc,vs,t,rfl,wab _ (hk _ _ hoc),hd,hv⟩
end
theorem qkF{K:Frag}{H:Hp}:∀ {as:List Addr} {vs:LV},Reps K H (as.map RV.ref) vs->vs=as.map V.ref
 | [],_,h=>by simpa only[wbh,Reps]using h
 |a::as,vs,h=>by
  simp only[wan,Reps,Rep]at h;obtain⟨v,r,rfl,rfl,h2⟩:=h;rw[qkF h2];rfl
theorem qiM:∀ {as:List Addr} {us:LVl},Vals (as.map V.ref) us->us=as.map Value.ref
 | [],_,h=>by rw[wbh]at h;cases h;rfl
 |a::as,_,h=>by
  rw[wan]at h;cases h with
  |cons r t=>rw[qiM t];cases(show _=Value.ref a from r);rfl
theorem qiX{K:Frag}{H:Hp}:∀ {as:List Addr},Reps K H (as.map RV.ref) (as.map V.ref)
 | []=>Reps.nil
 |a::as=>Reps.cons (by simp only[Rep]) qiX
theorem qgP:∀ {as:List Addr},Vals (as.map V.ref) (as.map Value.ref)
 | []=>.nil
 |a::as=>.cons rfl qgP
def adr:Value->Addr
 | .ref a=>a
 |_=>0
theorem qsY{kx:List (Int×Addr)}{out:LVl}(h:KskOut false (kx.map Prod.fst) ((kx.map Prod.snd).map Value.ref) out):∃ ys:List (Int×Addr),ys.Perm kx/\ys.Pairwise (fun a b=>a.1<=b.1)/\out=(ys.map Prod.snd).map Value.ref:=by
 obtain⟨ps,hp,rfl,hw⟩:=h;have e:(kx.map Prod.fst).zip ((kx.map Prod.snd).map Value.ref)=kx.map fun z=>(z.1,Value.ref z.2):=by rw[waG,List.zip_map'];rfl
 rw[e]at hp;have hm:∀ p∈ps,p=(p.1,Value.ref (adr p.2)):=fun p h=>by
  obtain⟨z,_,rfl⟩:=waE.mp (hp.mem_iff.mp h);rfl
 have pe:ps=(ps.map fun p=>(p.1,adr p.2)).map fun z=>(z.1,Value.ref z.2):=by
  rw[waG];exact(List.map_id ps).symm.trans (wbu fun p h=>hm p h)
 refine⟨ps.map fun p=>(p.1,adr p.2),?_,?_,?_⟩
 · have:=hp.map fun p=>(p.1,adr p.2)
   rwa [waG,show((fun p:Int×Value=>(p.1,adr p.2)) ∘ fun z:Int×Addr=>(z.1,Value.ref z.2))=id from rfl,List.map_id]at this
 · rw[List.pairwise_map];exact hw
 · conv=>lhs;rw[pe]
   rw[waG,waG,waG,waG];rfl
section
variable {X:Cx}{pins:LAO}{σ:L2.St}{H:Hp}{s:Shared}{h':Heap}{D:Addr}{o:HO}
theorem Inv.laidL{t':Nat}(I:Inv X pins σ H s)(k:∀ b o,b≠X.env.locals->s.heap.get? b=some o->h'.get? b=some o)(ns:∀ m,s.heap.Ns X.env.locals m->h'.Ns X.env.locals m)(hg:s.heap.get? D=none)(new:ObjOk X.prog X.w (upd H D o) h' D o):Inv X pins σ (upd H D o) { s with heap:=h',toks:=t' }:=by
 have hn:=none_of I hg;have nl:∀ b u,H b=some u->b≠X.env.locals:=fun b u e z=>by rw[z,I.free]at e;cases e
 have kp:∀ b u,H b=some u->upd H D o b=some u:=fun b u e=>(qaa (qab e hn)).trans e
 refine I.step (g':=s.gens) (d':=s.drawn) (ch:=[]) (fun _ z=>nomatch z) (fun b o hL _ _ e _=>k b o hL e) (fun b o hL _ _ e _=>⟨o.slots,k b o hL e⟩) (fun b q _ e n=>(qaa fun z=>by rw[z,hg]at e;cases e).trans n) (fun b o _ e=>?_) (fun b _ e=>kp b _ e) (fun b _ _ e=>kp b _ e) (fun b ps e=>⟨#[],(kp b _ e).trans (by simp)⟩) ns (fun b u e=>?_) I.bare
 · by_cases hb:b=X.env.locals
   · obtain⟨m,hn,_⟩:=I.loc
     obtain⟨o',_,_,q,_⟩:=ns m hn;exact⟨o',hb ▸ q⟩
   · exact⟨o,k b o hb e⟩
 · by_cases hb:b=D
   · subst hb;rw[qag]at e;cases e;exact new
   · rw[qaa hb]at e
     refine(I.hok b u e).stay (fun c v hc q=>k c v ?_ q) (fun c q=>kp c _ q) fun c xs q=>kp c _ q
     rcases hc with z|z
     · rw[z];exact nl b u e
     · exact nl c _ z
end
noncomputable def kSK (C:Addr)(fld:Str)(P:Addr)(lp:Pos)(q:Str)(Q:RVK):RVK:=fun x M=>∃ kx:List (Int×Addr),
 (x= .ls ((kx.map Prod.snd).map RV.ref)∨∃ a,x= .ref a/\M a=some (.lst ((kx.map Prod.snd).map RV.ref)))/\(∀ z∈kx,∃ fs,M z.2=some (.ins C fs)/\fs.lookup fld=some (.int z.1))/\kx.length<64/\M P=some (.tb P lp q)/\
 ∀ ys:List (Int×Addr),ys.Perm kx->ys.Pairwise (fun a b=>a.1<=b.1)->Q (.ls ((ys.map Prod.snd).map RV.ref)) M
def rSK(C:Addr)(fld:Str)(P:Addr)(lp:Pos)(q:Str)(te:RTE):RTE:=fun σ M Q=>te σ M (kSK C fld P lp q Q)
section
variable {X:Cx}{e:Expr}{te:RTE}{p p1 p2 kp lp pos:Pos}{v fld q:Str}{params:Arguments}{scope:Scope}{C P cc:Addr}
theorem qr6(he:RPE X e te)(hm:X.mg "sorted" =none)(hg:Gl X "sorted")(c:Cls X.K C)(n:NoAttr X.K C fld)(L:qoi v params scope)(hroom:X.A.depth<recursionLimit)
 (hcode:X.env.code= .ref cc) (CH:CodeHd X.base cc P) (hb:X.base.BuiltinsAt X.mg P) (hgP:mainGlobals≠P) (hdef:defaultsOf params X.env=([],[])) (hcl:closureFor scope X.env=pure []) (hq:X.env.qual++("<lambda>":Str)=q)
 (s1:starEach [e] X.env=(false,eval e X.env)::starEach [] X.env):RPE X (.Call (.Name "sorted" p) [e] [⟨some "key",.Lambda params (.Attribute (.Name v p1) fld p2) scope lp,kp⟩] pos) (rSK C fld P lp q te):=by
 intro pins s σ0 H Q0 I h;obtain⟨σ,M,Q,hs,hv,ht,hk⟩:=h;have bt:bootBuiltins "sorted" =some (.builtin "sorted"):=by decide+kernel
 refine wpAny_Call_Name_kw (qds I hg hm bt ?_);have bk:backTo pos (starEach [e] X.env)=(false,eval e X.env)::backTo pos (starEach [] X.env):=by rw[s1];rfl
 refine PyProof.Rows.callWith_kw ?_ bk (by rw[bk];rfl)
 rw[bk];refine Calls.spliced_cons (thn (he pins s σ0 H (fun v H1=>∃ x M1,kSK C fld P lp q Q x M1/\Ext H H1/\View X.K H1 M1/\Rep X.K H1 x v) I ⟨σ,M,_,hs,hv,ht,fun rv M' v H' q e w r=>⟨rv,M',q,e,w,r⟩⟩) fun u s1 ⟨v1,H1,I1,r1,x,M1,⟨kx,hx,hi,h64,hP,hQ⟩,ex1,w1,rep⟩=>Calls.spliced_nil ?_)
 show wpAny _ _ (evalAll [do let v<-eval (.Lambda params (.Attribute (.Name v p1) fld p2) scope lp) X.env;standAt pos;pure v]) _ _ _
 obtain⟨ho,eP,rP⟩:=w1 P _ hP;refine wpAny_evalAll_cons (waa (qnJ I1 eP rP hcode CH hb hgP hdef hcl hq fun f c' ctv h2 tk H2 I2 ex2 kp2 ⟨ho2,eP2,rP2⟩ hof hcd=>waa (wpAny_standAt (wae (wpAny_evalAll_nil ?_)))))
 have nP:∀ b u,H1 b=some u->(∀ φ,u≠.ext φ)->b≠P:=fun b u e z y=>by
  subst y;rw[eP]at e;cases e;rcases rP with rfl|⟨_,_,_,_,rfl,_⟩<;>exact z _ rfl
 have w2:View X.K H2 M1:=fun a o e=>by
  by_cases ha:a=P
  · subst ha;rw[hP]at e;cases e;exact⟨ho2,eP2,rP2⟩
  · obtain⟨ho',e1,r'⟩:=w1 a o e
    exact⟨ho',kp2 a _ e1 ha,r'.ext ex2⟩
 have lst:∃ l,u= .ref l/\h2.IsList l ((kx.map Prod.snd).map Value.ref).toArray:=by
  have fin:∀ (l:Addr) (vs:LV),SqL X.K H2 l vs->Reps X.K H2 ((kx.map Prod.snd).map RV.ref) vs->v1= .ref l->∃ l,u= .ref l/\h2.IsList l ((kx.map Prod.snd).map Value.ref).toArray:=fun l vs hs hr ev=>by
   subst ev;cases r1;obtain⟨its,hw,⟨o,n,g1,g2,g3,g4⟩,hz⟩:=I2.list hs;rw[qkF hr]at hw;rw[qiM hw]at g4;exact⟨l,rfl,o,g1,g2,n,g4⟩
  rcases hx with rfl|⟨a,rfl,ea⟩
  · simp only[Rep]at rep
    obtain⟨a,vs,ev,hf,hr⟩:=rep;exact fin a vs (hf.ext ex2).sq (Reps.ext ex2 _ _ hr) ev
  · simp only[Rep]at rep
    obtain⟨ho',e1,vs,rfl,hr⟩:=w1 a _ ea;exact fin a vs (.inl (.inl (kp2 a _ e1 (nP a _ e1 nofun)))) (Reps.ext ex2 _ _ hr) rep
 obtain⟨l,rfl,hl⟩:=lst;show wpAny _ _ (call (.builtin "sorted") [.ref l] [(Str.ofString "key",.ref f)]) _ _ _;refine qvP (as:=kx.map Prod.snd) (ks:=kx.map Prod.fst) I2 hl (by rw[waj,waj]) (by rw[waj];exact h64) (fun i a k e1 e2=>?_) hroom L hof hcd c n fun D h3 tk3 out ep ns kp3 hD nD hget ko=>?_
 · rw[wau]at e1 e2
   cases ez:kx[i]? with
   |none=>rw[ez]at e1;cases e1
   |some z=>
    rw[ez]at e1 e2;cases e1;cases e2;obtain⟨fs,m1,m2⟩:=hi z (waF ez);obtain⟨ho',g1,dx,gs,rfl,g2⟩:=w1 _ _ m1;obtain⟨u',l1,l2⟩:=qbN g2 m2;simp only[Rep]at l2;exact⟨dx,gs,kp2 _ _ g1 (nP _ _ g1 nofun),l2 ▸ l1⟩
 · obtain⟨ys,hp,hw,eo⟩:=qsY ko
   have hn:=none_of I2 hD;have eo':out=((ys.map Prod.snd).map Value.ref).toArray:=by rw[<-eo]
   subst eo';refine frozen ⟨.ref D,upd H2 D (.lst ((ys.map Prod.snd).map V.ref)),Inv.laidL (t':=tk3) I2 kp3 ns hD ⟨?_,_,ep,qgP,hget⟩,rfl,H2,D,_,rfl,hn,rfl,fun o=>?_⟩
   · rw[waj,waj,hp.length_eq];exact was (wbm h64) (by decide)
   · exact hk _ M1 _ _ (hQ ys hp hw) (ex1.trans (ex2.trans (Ext.new hn))) (w2.new hn) (qbZ hn qiX)
end
section
variable {prog:Program}{w:World}{A:Around}{E:VSP}{s:Shared}
theorem qjw{a:Addr}{vs:LVl}{n:Nat}{P:Fin->Shared->Prop}(ho:s.heap.get? a=some (seqObj "list" vs.toArray n))(h1:vs.length<2)
 (h:P (.done (.ret .none)) { s with heap:=sortedHeap s.heap a vs vs.toArray }):wpAny (model prog w) A (Builtin.«list.sort» ⟨[.ref a],[]⟩) P E s:=by
 have big:(2:Nat)<=sizeLine:=by decide
 obtain⟨e1,ho1⟩:∃ e1,(s.heap.update a (Obj.mapSeq fun _=>(#[]:Array Value))).get? a=some (seqObj "list" #[] e1):=⟨_,get?_update_seq ho fun _=>#[]⟩
 rw[list_sort_plain];refine waa (listItems_at ho rfl (waa (listUpdate_at ho rfl (waa (seqEpoch_at ho1 rfl (waa (wpAny_newTuple (waa (wpAny_newList (wa0 ?_) (wbi _))) (by show vs.length<=_;omega))))) (by rw[wak];omega) (wbi _))))
 let g:=((s.heap.update a (Obj.mapSeq fun _=>(#[]:Array Value))).push (seqObj "tuple" vs.toArray 0)).push (seqObj "list" #[] 0)
 have hg:g.get? a=some (seqObj "list" #[] e1):=wab _ (wab _ ho1);show wpAny (model prog w) A _ P E { s with heap:=g }
 dsimp only;have fin:∀ (st:SortSt),(arrOf st).map (·.2)=vs.toArray->failedOf st=none->wpAny (model prog w) A (do
  let touched:=(<-seqEpoch a) != e1
  Builtin.List.listUpdate (.ref a) fun _=>(arrOf st).map (·.2)
  if let some e:=failedOf st then rule "list.sort.comparison-raised";throw e
  if touched then rule "list.sort.modified";raiseError "ValueError" "list modified during sort"
  ret .none) P E { s with heap:=g }:=fun st e ef=>by
  rw[e,ef];refine waa (seqEpoch_at hg rfl (waa (listUpdate_at hg rfl ?_ (wbi _) (by rw[wak];omega))))
  simp only[bne_self_eq_false,waD,if_false];exact wae h
 have h2:vs.toArray.size<2:=by simpa using h1
 rw[wag h2,wag h2];refine waa (wae ?_);rw[StateT.run_pure];refine waa (wae (fin _ ?_ rfl));show(vs.toArray.zip vs.toArray).map (·.2)=_
 apply Array.toList_inj.mp;simp[List.map_snd_zip]
theorem qgF{l:Addr}{vs:LVl}{Q:VSP}(hl:s.heap.IsList l vs.toArray)(h1:vs.length<2)
 (h:∀ B h' e,(∀ b o,s.heap.get? b=some o->h'.get? b=some o)->s.heap.get? B=none->h'.get? B=some (seqObj "list" vs.toArray e)->Q (.ref B) { s with heap:=h' }):
 wpAny (model prog w) A (call (.builtin "sorted") [.ref l]) Q E s:=by
 have big:(2:Nat)<=sizeLine:=by decide
 refine Calls.call_function_entry kind_sorted plain_sorted entry_sorted (args_sorted1 (.ref l)) ?_;unfold Builtin.«sorted»;refine waa (m:=checkCount "sorted" 1 1 _) (wae (waa (collect_list hl (waa (wpAny_newList ?_ (by omega))) (by omega))))
 let g0:=(s.heap.push (seqObj "list" #[] 0)).update s.heap.objs.size (Obj.mapSeq (· ++vs.toArray))
 have z0:g0.objs.size=s.heap.objs.size+1:=by show Array.size (Heap.objs (Heap.update _ _ _))=_;rw[Heap.size_update,size_push']
 have kp:∀ b o,s.heap.get? b=some o->(g0.push (seqObj "list" vs.toArray 0)).get? b=some o:=fun b o e=>wab _ (by
  show Heap.get? (Heap.update _ _ _) b=_;rw[Heap.get?_update_ne _ _ _ _ (waq (wai e))];exact wab _ e)
 have hB:s.heap.get? g0.objs.size=none:=Heap.get?_none_of_le (by rw[z0];exact Nat.le_succ _)
 have hoL:(g0.push (seqObj "list" vs.toArray 0)).get? g0.objs.size=some (seqObj "list" vs.toArray 0):=wah _ rfl;show wpAny _ _ _ _ _ { s with heap:=g0.push (seqObj "list" vs.toArray 0) }
 refine waa (wa0 (waO PyProof.Rows.slot_list_sort ⟨_,hoL,rfl⟩ PyProof.Rows.entry_list_sort (qjw (s:={ s with heap:=g0.push (seqObj "list" vs.toArray 0) }) hoL h1 ⟨_,rfl,?_⟩) (PyProof.Rows.args_list_sort (.ref g0.objs.size))))
 obtain⟨e,he⟩:=sortedHeap_at (out:=vs.toArray) hoL;refine wae ⟨_,rfl,h g0.objs.size _ e (fun b o q=>?_) hB he⟩
 have ne:b≠g0.objs.size:=fun z=>by rw[z,hB]at q;cases q
 rw[sortedHeap_old ne (by rw[size_push'];exact wbz (by rw[z0];exact wbz (wai q)))]
 exact kp b o q
end
def qkR:LR->RM->RVK->Prop:=fun rs M Q=>match rs with
 | [.ls xs]=>xs.length<2/\Q (.ls xs) M
 |_=>qou rs M Q
section
variable {X:Cx}
theorem qui(hc:X.calm=true):qaQ X (.builtin "sorted") (upC X.K qkR):=by
 intro pins s σ H xs us Q0 I rl h;obtain⟨rs,M,Q,rr,hv,hq,hk⟩:=h;unfold qkR at hq;split at hq
 · rename_i ys
   simp only[Reps,Rep]at rr;obtain⟨v,r,rfl,⟨a,ws,rfl,hf,hg⟩,rfl⟩:=rr;obtain⟨u,rfl,ru⟩:=vals1 rl;cases ru;obtain⟨its,hw,⟨o,n,g1,g2,g3,g4⟩,hz⟩:=I.list hf.sq;have l1:ys.length=ws.length:=hg.length;have l2:ws.length=its.length:=hw.length;refine qgF ⟨o,g1,g2,n,g4⟩ (by omega) fun B h' e kp hB hget=>?_
   have hn:=none_of I hB;exact frozen ⟨.ref B,upd H B (.lst ws),qtq (t':=s.toks) I kp hB ⟨hz,its,e,hw,hget⟩,rfl,H,B,_,rfl,hn,rfl,fun o=>hk _ M _ _ hq.2 (Ext.new hn) (hv.new hn) (qbZ hn hg)⟩
 · exact qn3 hc pins s σ H xs us Q0 I rl ⟨_,M,Q,rr,hv,hq,hk⟩
end
section
variable {X:Cx}
section
variable {prog:Program}{w:World}{A:Around}{E:VSP}{s:Shared}{z y:Str}{t u:Tok}{Q:VSP}
open PySem.Builtin PySem.Builtin.Str in
theorem split_len(hsz:z.length+2<=sizeLine):(Txt.split z y).length<=sizeLine:=by
 have oc:=StrLaws.occ_length_le z y 0 z.length (z.length+1);unfold Txt.split;split
 · exact was (show 1<=2 by decide) (by omega)
 · split
   · exact was (show 1<=2 by decide) (by omega)
   · rw[length_partsBetween];omega
open PySem.Builtin PySem.Builtin.Str in
theorem qkt(hy:(y.length==0)=false)(hsz:z.length+2<=sizeLine)
 (h:∀ l k,l.map (fun p:Str×Tok=>p.1)=Txt.split z y->Q (.ref s.heap.objs.size) { s with heap:=s.heap.push { cls:=.type "list",data:=.seq (strValues l).toArray },toks:=k }):
 wpAny (model prog w) A (call (.builtin "str.split") [.str z t,.str y u]) Q E s:=by
 have oc:=StrLaws.occ_length_le z y 0 z.length (z.length+1);have sl:=F.slot_str_split;have ty:s.TypeIs (.str z t) "str":=typeIs_str s z t;have en:=F.entry_str_split;have ar:=F.args_str_split_2 (.str z t) (.str y u)
 by_cases c1:(decide (z.length<y.length)||decide (strKind z<strKind y))=true
 · refine call_meets sl ty en ar (meets_str_split_cannot_occur z y t u c1) ?_
   exact h [(z,t)] s.toks (by unfold Txt.split;rw[wag c1];rfl)
 · have c1':=Bool.eq_false_iff.mpr c1
   by_cases c2:(occurrences z y 0 z.length (z.length+1)).isEmpty=true
   · refine call_meets sl ty en ar (meets_str_split_not_found z y t u c1' hy c2) ?_
     exact h [(z,t)] s.toks (by unfold Txt.split;rw[wad c1,wag c2];rfl)
   · refine call_meets sl ty en ar (meets_str_split_sep z y t u c1' hy (Bool.eq_false_iff.mpr c2) (by omega) (by rw[length_partsBetween];omega)) ?_
     have e:=h (numbered s.toks (partsBetween z (occurrences z y 0 z.length (z.length+1)) y.length)) (s.toks+(partsBetween z (occurrences z y 0 z.length (z.length+1)) y.length).length) (by rw[numbered_texts];unfold Txt.split;rw[wad c1,wad c2])
     rw[<-strsFrom_eq]at e;exact e
end
theorem qfd:∀ (l:List (Str×Tok)),Vals ((l.map (fun p:Str×Tok=>p.1)).map V.str) (strValues l)
 | []=>.nil
 |p::r=>.cons ⟨p.2,rfl⟩ (qfd r)
noncomputable def qti:V->LV->Hp->VK->Prop:=fun x vs H Q=>∃ z y,x= .str z/\vs= [.str y]/\(y.length==0)=false/\z.length+2<=sizeLine/\∀ p,H p=none->Q (.ref p) (upd H p (.lst ((Txt.split z y).map V.str)))
theorem qnC:MtR X "str.split" qti:=by
 intro pins s σ H x vs v us Q I rx rv h;obtain⟨z,y,rfl,rfl,hy,hz,q⟩:=h;obtain⟨t,rfl⟩:=rx;obtain⟨u,rfl,ru⟩:=rv.one;obtain⟨t2,rfl⟩:=ru;refine qkt hy hz fun l k e=>?_
 have r:=qfd l;rw[e]at r;refine⟨.ref s.heap.objs.size,_,I.laid (fun b o e=>wab _ e) (waf _) (show ObjOk X.prog X.w _ _ _ (.lst ((Txt.split z y).map V.str))from⟨by rw[waj];exact split_len hz,strValues l,0,r,wah s.heap rfl⟩),rfl,q _ (I.hok.fresh (waf _))⟩
noncomputable def qlu (t:RTA)(σ:RSt)(Q:RVK):RVK:=fun x M1=>match x with
 | .str z=>t σ M1 fun rs M2=>∃ y,rs= [.str y]/\(y.length==0)=false/\z.length+2<=sizeLine/\Q (.ls ((Txt.split z y).map RV.str)) M2
 |_=>False
def qot(to:RTE)(t:RTA):RTE:=fun σ M Q=>to σ M (qlu t σ Q)
theorem qiR{K:Frg}{H:Hp}:∀ (ys:LSt),Reps K H (ys.map RV.str) (ys.map V.str)
 | []=>Reps.nil
 |y::r=>Reps.cons (by simp only[Rep]) (qiR r)
theorem rsplit{o e:Expr}{to:RTE}{t:RTA}{apos cpos:Pos}(ho:RPE X o to)(ha:RPA X [e] t)
 (hbase:attributeBase o "split" X.env (eval o X.env)=eval o X.env:=by rfl)
 (hfew:((backTo cpos (starEach [e] X.env)).all (fun x=>!x.1)&&(backToKw cpos (keywordEach [] X.env)).all (fun x=>x.1.isSome)&&decide ([e].length+([]:List Keyword).length+(if([]:List Keyword).isEmpty then 0 else 1)<30))=true:=by rfl)
 (hline:(apos.endLine==cpos.line)=true:=by rfl) (hs:starEach [e] X.env=(false,eval e X.env)::starEach [] X.env:=by rfl) (hplain:(backTo cpos (starEach [] X.env)).any (·.1)=false:=by rfl):
 RPE X (.Call (.Attribute o "split" apos) [e] [] cpos) (qot to t):=by
 intro pins s σ0 H Q0 I h;refine thn (qsV PySem.F.plainAttrs_str PySem.F.slot_str_split PySem.F.type_str_split qnC ho ha hbase hfew hline hs hplain pins s σ0 H (fun v H'=>∃ H1 p xs,v= .ref p/\H1 p=none/\H'=upd H1 p (.lst xs)/\∀ o,Q0 (.ref p) (upd H1 p (.frz o (.lst xs)))) I ?_) fun _ _ e=>frozen e
 obtain⟨σ,M,Q,hs,hv,ht,hk⟩:=h;refine⟨σ,M,_,hs,hv,ht,fun rx M1 x H1 q e1 v1 r1=>?_⟩
 cases rx with
 |str z=>
  simp only[Rep]at r1;subst r1;refine⟨rfl,σ,M1,_,hs.ext e1,v1,q,fun rs M2 vs H2 q2 e2 v2 r2=>?_⟩
  obtain⟨y,rfl,hy,hz,q2⟩:=q2;obtain⟨v,rfl,r3⟩:=r2.one;simp only[Rep]at r3;subst r3;refine⟨z,y,rfl,rfl,hy,hz,fun p hp=>⟨H2,p,_,rfl,hp,rfl,fun o=>?_⟩⟩
  exact hk _ M2 _ _ q2 ((e1.trans e2).trans (Ext.new hp)) (v2.new hp) (qbZ hp (qiR _))
 |_=>exact(show False from q).elim
end
inductive T where
 |v (i:Nat)|i (n:Int)|s (x:Str)|b (x:Bool)|n
 |g (x:Str)|ty (x:String)
 |op (o:Operator) (a b:T)|cm (o:CmpOp) (a b:T)|ch (o p:CmpOp) (a b c:T)
 |an (a b:T)|or (a b:T)|no (a:T)|ie (t a b:T)
 |tu (a:T)|ll (a:T)|lm (a:T)|e0|ec (a r:T)
 |ix (a b:T)|sl (a l h:T)|p0|p1 (a:T)
 |fl (c:Nat) (f:Str) (a:T)
 |ca (f:Nat) (a:T)|me (f:Nat) (o a:T)|mk (c:Nat) (a:T)
 |bf (f:Str) (a:T)|bt (f:Str) (a:T)
 |ap (o a:T)
 |dg (d k:T)|dn (neg:Bool) (k d:T)|d1 (d k:T)|d2 (d k x:T)|dk|dt
 |ic (neg:Bool) (a:T) (x:Str)
 |tx (x:Str) (a:T)|tg (x:Str) (a:T)|tn (x:Str) (a:T)
 |cv (i:Nat) (a:T)
 |cp (md tup:Bool) (nm:LSt) (cap:List (Nat×Str)) (it t e:T)
 |sc (i:Nat) (md tup:Bool) (nm:LSt) (cap:List (Nat×Str)) (it t e:T)
 |lr (a b:T)
 |iv (a:T)|im (a:T)|lv (md:Bool) (a:T)
 |pr (i j:Nat) (a:T)|af (c:Nat) (f:Str) (o a:T)|dd (d k:T)
 |is (a:T)|r1 (a:T)|st (a:T)
 |set (i:Nat) (a:T)|un (is:List Nat) (a:T)|sf (c:Nat) (f:Str) (o a:T)|dp (d k a:T)|sp (l i a:T)
 |re (a:T)|r0|if_ (t a b:T)|fo (tup:Bool) (is:List Nat) (it b:T)|ex (a:T)|ra
 |se (a b:T)|en
 |dy (ks:LSt) (a:T)
 |sk (c:Nat) (f:Str) (a:T)
 |sw (o a:T)
structure FD where
 kind:Nat
 cls:Nat
 name:Str
 ps:LSt
 N:LSt
 body:T
structure SI where
 gi:List (Str×Int)
 gt:List (Str×LSt)
 tb:LSt
 tt:List (Str×List (TK×Str))
 cl:LSt
 fs:List (Nat×Str)
 bl:LSt
 fd:List FD
 ln:LSt:=[""]
 lp:Pos:=⟨0,0,0,0⟩
 lq:Str:=""
structure G where
 S:SI
 tb:Str->LKR
 C:Nat->Addr
 fn:Nat->RSp
 ini:Nat->RSp
 cvs:List (Addr×RSp)
 lP:Addr
def opR:Operator->RR2
 | .Add=>qu2| .Sub=>qAb| .Mult=>qAk| .Mod=>qAl| .FloorDiv=>qAu| .Pow=>qAe
 |_=>fun _ _ _ _=>False
noncomputable def cmR:CmpOp->RR2
 | .Lt=>rLt| .LtE=>rLe| .Gt=>rGt| .GtE=>rGe| .Eq=>qAt| .NotEq=>qAj| .Is=>rIs| .IsNot=>qox| .In=>quY false| .NotIn=>quY true
noncomputable def isT:String->RV->Option Bool:=fun x=>if x= "int" then qoU else if x= "bool" then is_bool else if x= "str" then qoT else if x= "tuple" then qjf else if x= "list" then qlz else fun _=>none
noncomputable def qwt:LR->RM->RVK->Prop:=fun rs M Q=>match rs with
 | [.ref a,.ty "list"]=>match M a with|some (.lst _)=>Q (.bl true) M|_=>False
 | [x,.ty t]=>match isT t x with|some c=>Q (.bl c) M|none=>False
 |_=>False
noncomputable def qpS:LR->RM->RVK->Prop:=fun rs M Q=>match rs with
 | [.ref a]=>match M a with
  |some (.lst xs)=>Q (.int xs.length) M
  |some (.dk kvs)=>Q (.int kvs.length) M
  |some (.dt kvs)=>Q (.int kvs.length) M
  |_=>False
 |rs=>quW rs M Q
noncomputable def bfR (f:Str):LR->RM->RVK->Prop:=
 if f= "len" then qpS else if f= "isinstance" then qwt else if f= "all" then qAw else if f= "max" then qsv else if f= "sorted" then qkR else if f= "ord" then qAg else if f= "any" then qAv else fun _ _ _=>False
def btR(f:Str):LR->RM->RVK->Prop:=
 if f= "tuple" then qkQ else if f= "list" then qpR else if f= "int" then qwu else fun _ _ _=>False
noncomputable def kFl (C:Addr)(f:Str)(Q:RVK):RVK:=fun x M=>match x with
 | .ref a=>match M a with
  |some (.ins C' fs)=>C'=C/\match fs.lookup f with
   |some v=>Q v M
   |none=>False
  |_=>False
 |_=>False
def uFl(C:Addr)(f:Str)(ta:RTE):RTE:=fun σ M Q=>ta σ M (kFl C f Q)
noncomputable def kSf (C:Addr)(f:Str)(y:RV)(N:RM->Prop):RVK:=fun x M=>match x with
 | .ref a=>match M a with
  |some (.ins C' fs)=>C'=C/\fs.length<1000/\N (put M a (.ins C (qe0 f y fs)))
  |_=>False
 |_=>False
def uSf(C:Addr)(f:Str)(ta tv:RTE):RTS:=fun D σ M=>tv σ M fun y M1=>ta σ M1 (kSf C f y (D.nx σ))
noncomputable def kMe (C:Addr)(m:Str)(sp:RSp)(t:RTA)(σ:RSt)(Q:RVK):RVK:=fun x M=>match x with
 | .ref a=>match M a with
  |some (.ins C' fs)=>C'=C/\fs.lookup m=none/\t σ M fun rs M2=>sp (.ref a::rs) M2 Q
  |_=>False
 |_=>False
def uMe(C:Addr)(m:Str)(sp:RSp)(ta:RTE)(t:RTA):RTE:=fun σ M Q=>ta σ M (kMe C m sp t σ Q)
def qbj:RTE:=fun _ _ _=>False
structure Sm where
 E:RTE:=fun _ _ _=>False
 T:RTT:=fun _ _ _=>False
 A:RTA:=fun _ _ _=>False
 I:RTI:=fun _ _ _=>False
 P:RTO:=fun _ _ _=>False
 S:RTS:=fun _ _ _=>False
 L:List RTE:=[]
def ex(e:RTE):Sm:={ E:=e,T:=qfJ e }
noncomputable def tr (Γ:G):T->Sm
 | .v i=>ex (qpQ i)
 | .i n=>ex (rC (.int n))
 | .s x=>ex (rC (.str x))
 | .b x=>ex (rC (.bl x))
 | .n=>ex (rC .non)
 | .g x=>ex (match Γ.S.gi.lookup x with|some i=>rC (.int i)|none=>qbj)
 | .ty x=>ex (rC (.ty x))
 | .op o a b=>ex (rOp (opR o) (tr Γ a).E (tr Γ b).E)
 | .cm o a b=>ex (rOp (cmR o) (tr Γ a).E (tr Γ b).E)
 | .ch o p a b c=>ex (qfl (cmR o) (cmR p) (tr Γ a).E (tr Γ b).E (tr Γ c).E)
 | .an a b=>{ E:=qna (tr Γ a).E (tr Γ b).E,T:=qu1 (tr Γ a).T (tr Γ b).T }
 | .or a b=>{ E:=quV (tr Γ a).E (tr Γ b).E,T:=rOr (tr Γ a).T (tr Γ b).T }
 | .no a=>{ E:=qst (tr Γ a).E,T:=qAh (tr Γ a).T }
 | .ie t a b=>ex (rIf (tr Γ t).T (tr Γ a).E (tr Γ b).E)
 | .tu a=>ex (qAa (tr Γ a).A)
 | .ll a=>ex (qAn (tr Γ a).A)
 | .lm a=>ex (qAm (tr Γ a).A)
 | .e0=>{ A:=qm9 }
 | .ec a r=>{ A:=qjC (tr Γ a).E (tr Γ r).A,L:=(tr Γ a).E::(tr Γ r).L }
 | .ix a b=>ex (rOp rIx (tr Γ a).E (tr Γ b).E)
 | .sl a l h=>ex (rSl (tr Γ a).E (tr Γ l).P (tr Γ h).P)
 | .p0=>{ P:=qAi }
 | .p1 a=>{ P:=qss (tr Γ a).E }
 | .fl c f a=>ex (uFl (Γ.C c) f (tr Γ a).E)
 | .ca f a=>ex (qeZ (Γ.fn f) (tr Γ a).A)
 | .me f o a=>ex (match Γ.S.fd[f]? with|some d=>uMe (Γ.C d.cls) d.name (Γ.fn f) (tr Γ o).E (tr Γ a).A|none=>qbj)
 | .mk f a=>ex (match Γ.S.fd[f]? with|some d=>qjB (Γ.C d.cls) (Γ.ini f) (tr Γ a).A|none=>qbj)
 | .bf f a=>ex (qeZ (bfR f) (tr Γ a).A)
 | .bt f a=>ex (qeZ (btR f) (tr Γ a).A)
 | .ap o a=>ex (qu0 (tr Γ o).E (tr Γ a).A)
 | .dg d k=>ex (qrJ (tr Γ d).E (tr Γ k).E)
 | .dn neg k d=>ex (qrp neg (tr Γ k).E (tr Γ d).E)
 | .d1 d k=>ex (qoo (tr Γ d).E (tr Γ k).E)
 | .d2 d k x=>ex (qon (tr Γ d).E (tr Γ k).E (tr Γ x).E)
 | .dk=>ex qsA
 | .dt=>ex qoy
 | .ic neg a x=>ex (match Γ.S.gt.lookup x with|some ss=>qrr neg ss (tr Γ a).E|none=>qbj)
 | .tx x a=>ex (quU (Γ.tb x) (tr Γ a).E)
 | .tg x a=>ex (match Γ.S.tt.lookup x with|some l=>qfL l (tr Γ a).E|none=>qbj)
 | .tn x a=>ex (qfK (Γ.tb x) (tr Γ a).E)
 | .cv i a=>ex (qoz Γ.cvs (qpQ i) (tr Γ a).A)
 | .cp md tup nm cap it t e=>ex (qfk (qod tup nm.length) md (tr Γ it).I (cap.map Prod.fst) (tr Γ t).T (tr Γ e).E)
 | .sc i md tup nm cap it t e=>{ S:=qsq i (qfk (qod tup nm.length) md (tr Γ it).I (cap.map Prod.fst) (tr Γ t).T (tr Γ e).E) }
 | .lr a b=>ex (qow (tr Γ a).E (tr Γ b).E)
 | .iv a=>{ I:=qAs false (tr Γ a).E }
 | .im a=>{ I:=qAr (tr Γ a).E }
 | .lv md a=>ex (rLv md (tr Γ a).E)
 | .pr i j a=>{ S:=qAf i j (tr Γ a).A }
 | .af c f o a=>{ S:=uAf (Γ.C c) f (tr Γ o).E (tr Γ a).E }
 | .dd d k=>{ S:=qom (tr Γ d).E (tr Γ k).E }
 | .is a=>{ I:=qAp (tr Γ a).E }
 | .r1 a=>{ I:=qAq (tr Γ a).E }
 | .st a=>{ I:=qAo (tr Γ a).E }
 | .set i a=>{ S:=qsq i (tr Γ a).E }
 | .un is a=>{ S:=qww (tr Γ a).E (rgU is) }
 | .sf c f o a=>{ S:=uSf (Γ.C c) f (tr Γ o).E (tr Γ a).E }
 | .dp d k a=>{ S:=qol (tr Γ d).E (tr Γ k).E (tr Γ a).E }
 | .sp l i a=>{ S:=qww (tr Γ a).E (qse (tr Γ l).E (tr Γ i).E qh5) }
 | .re a=>{ S:=qAd (tr Γ a).E }
 | .r0=>{ S:=qsr }
 | .if_ t a b=>{ S:=quZ (tr Γ t).T (tr Γ a).S (tr Γ b).S }
 | .fo tup is it b=>{ S:=qsx (tr Γ it).I (match tup,is with|true,is=>rgU is|false,[i]=>rgN i|_,_=>fun _ _ _ _=>False) (tr Γ b).S }
 | .ex a=>{ S:=qsy (tr Γ a).E }
 | .ra=>{ S:=fun _ _ _=>False }
 | .se a b=>{ S:=qAc (tr Γ a).S (tr Γ b).S }
 | .en=>{ S:=qsu }
 | .dy ks a=>ex (qsz (ks.zip (tr Γ a).L))
 | .sk c f a=>ex (rSK (Γ.C c) f Γ.lP Γ.S.lp Γ.S.lq (tr Γ a).E)
 | .sw o a=>ex (qot (tr Γ o).E (tr Γ a).A)
inductive Nd where
 |e (x:Expr)|t (x:Expr)|a (xs:LEx)|i (tg x:Expr)|p (x:Option Expr)|s (x:Stmt)|b (xs:List Stmt)|l (xs:LEx)
def glb(sc:Scope)(x:Str):Bool:=sc.names.lookup x==some .globalImplicit&& !(x==("__debug__":Str))
def qmQ(tup:Bool)(tg:Expr)(nm:LSt):Bool:=match tup,tg with
 |false,.Name x _=>nm==[x]
 |true,.Tuple es _ _=>qgw es==some nm
 |_,_=>false
def qcE(N:LSt):List Nat->LEx->Bool
 | [],[]=>true
 |i::is,.Name x _::es=>(N[i]? ==some x)&&qcE N is es
 |_,_=>false
def loc(sc:Scope)(x:Str):Bool:=sc.names.lookup x==some .local||sc.names.lookup x==some .cell
def cf(sc:Scope)(x:Str):Bool:=sc.names.lookup x==some .cell||sc.names.lookup x==some .free
def dbg(x:Str):Bool:=!(x==("__debug__":Str))&& !(x==("__classdict__":Str))
noncomputable def qrq (N:LSt)(sc scope:Scope)(nm:LSt)(cap:List (Nat×Str)):Bool:=
 cap.all (fun p=>(N[p.1]? ==some p.2)&&(scope.names.lookup p.2==some .free)&&cf sc p.2)&&scope.names.all (fun y=>y.2 != .free||cf sc y.1)&&scope.names.all (fun y=>y.2 != .cell)&&scope.kind== .function&&
 scope.names.all (fun y=>y.2 != .local||scope.names.lookup y.1==some .local)&&nm.all (fun x=>scope.names.lookup x==some .local)&&decide (nm++cap.map Prod.snd).Nodup&&(nm++cap.map Prod.snd).all dbg
def bfN:LSt:=["len","isinstance","all","max","sorted","ord","any"]
def btN:LSt:=["tuple","list","int"]
def nLn(ap p:Pos):Bool:=ap.endLine==p.line
def qqJ(t:T):Bool:=if h:t.ctorIdx=3 then T.b.elim t h id else false
@[elab_as_elim] theorem qiy {α:Type} [BEq α] [LawfulBEq α] {z c:α} {b:Bool} {C:α->Prop} (h:((z==c)&&b)=true) (k:b=true->C c):C z:=by
 rw[wac,waM]at h;rw[h.1];exact k h.2
theorem qbL{a b:Bool}(h:(a&&b)=true):a=true/\b=true:=by rwa [wac]at h
theorem di{c:Prop}[Decidable c]{t:c->Bool}{C:Prop}(h:(if h:c then t h else false)=true)(k:c->(if h:c then t h else false)=true->C):C:=
 if i:c then k i h else by rw[dif_neg i]at h;cases h
def dN(e:Expr)(f:Str->Pos->Bool):Bool:=if h:e.ctorIdx=23 then Expr.Name.elim e h f else false
@[elab_as_elim] theorem qco {e f} {C:Expr->Prop} (h:dN e f=true) (k:∀ a b,f a b=true->C (.Name a b)):C e:=di h fun i=>Expr.Name.elim e i k
def dK(e:Expr)(f:Const->Nat->Pos->Bool):Bool:=if h:e.ctorIdx=19 then Expr.Constant.elim e h f else false
@[elab_as_elim] theorem qmg {e f} {C:Expr->Prop} (h:dK e f=true) (k:∀ a b c,f a b c=true->C (.Constant a b c)):C e:=di h fun i=>Expr.Constant.elim e i k
def dB(e:Expr)(f:Expr->Operator->Expr->Pos->Bool):Bool:=if h:e.ctorIdx=2 then Expr.BinOp.elim e h f else false
@[elab_as_elim] theorem qxB {e f} {C:Expr->Prop} (h:dB e f=true) (k:∀ a b c d,f a b c d=true->C (.BinOp a b c d)):C e:=di h fun i=>Expr.BinOp.elim e i k
def dC(e:Expr)(f:Expr->List CmpOp->LEx->Pos->Bool):Bool:=if h:e.ctorIdx=15 then Expr.Compare.elim e h f else false
@[elab_as_elim] theorem quf {e f} {C:Expr->Prop} (h:dC e f=true) (k:∀ a b c d,f a b c d=true->C (.Compare a b c d)):C e:=di h fun i=>Expr.Compare.elim e i k
def dQ(e:Expr)(f:BoolOp->LEx->Pos->Bool):Bool:=if h:e.ctorIdx=0 then Expr.BoolOp.elim e h f else false
@[elab_as_elim] theorem qn1 {e f} {C:Expr->Prop} (h:dQ e f=true) (k:∀ a b c,f a b c=true->C (.BoolOp a b c)):C e:=di h fun i=>Expr.BoolOp.elim e i k
def dU(e:Expr)(f:UnaryOp->Expr->Pos->Bool):Bool:=if h:e.ctorIdx=3 then Expr.UnaryOp.elim e h f else false
@[elab_as_elim] theorem quc {e f} {C:Expr->Prop} (h:dU e f=true) (k:∀ a b c,f a b c=true->C (.UnaryOp a b c)):C e:=di h fun i=>Expr.UnaryOp.elim e i k
def dI(e:Expr)(f:Expr->Expr->Expr->Pos->Bool):Bool:=if h:e.ctorIdx=5 then Expr.IfExp.elim e h f else false
@[elab_as_elim] theorem qxA {e f} {C:Expr->Prop} (h:dI e f=true) (k:∀ a b c d,f a b c d=true->C (.IfExp a b c d)):C e:=di h fun i=>Expr.IfExp.elim e i k
def dT(e:Expr)(f:LEx->Nat->Pos->Bool):Bool:=if h:e.ctorIdx=25 then Expr.Tuple.elim e h f else false
@[elab_as_elim] theorem qmf {e f} {C:Expr->Prop} (h:dT e f=true) (k:∀ a b c,f a b c=true->C (.Tuple a b c)):C e:=di h fun i=>Expr.Tuple.elim e i k
def dL(e:Expr)(f:LEx->Pos->Bool):Bool:=if h:e.ctorIdx=24 then Expr.List.elim e h f else false
@[elab_as_elim] theorem qud {e f} {C:Expr->Prop} (h:dL e f=true) (k:∀ a b,f a b=true->C (.List a b)):C e:=di h fun i=>Expr.List.elim e i k
def dS(e:Expr)(f:Expr->Expr->Pos->Bool):Bool:=if h:e.ctorIdx=21 then Expr.Subscript.elim e h f else false
@[elab_as_elim] theorem qiD {e f} {C:Expr->Prop} (h:dS e f=true) (k:∀ a b c,f a b c=true->C (.Subscript a b c)):C e:=di h fun i=>Expr.Subscript.elim e i k
def dX(e:Expr)(f:Option Expr->Option Expr->Option Expr->Pos->Bool):Bool:=if h:e.ctorIdx=26 then Expr.Slice.elim e h f else false
@[elab_as_elim] theorem qxy {e f} {C:Expr->Prop} (h:dX e f=true) (k:∀ a b c d,f a b c d=true->C (.Slice a b c d)):C e:=di h fun i=>Expr.Slice.elim e i k
def dA(e:Expr)(f:Expr->Str->Pos->Bool):Bool:=if h:e.ctorIdx=20 then Expr.Attribute.elim e h f else false
@[elab_as_elim] theorem qmh {e f} {C:Expr->Prop} (h:dA e f=true) (k:∀ a b c,f a b c=true->C (.Attribute a b c)):C e:=di h fun i=>Expr.Attribute.elim e i k
def dF(e:Expr)(f:Expr->LEx->List Keyword->Pos->Bool):Bool:=if h:e.ctorIdx=16 then Expr.Call.elim e h f else false
@[elab_as_elim] theorem qq7 {e f} {C:Expr->Prop} (h:dF e f=true) (k:∀ a b c d,f a b c d=true->C (.Call a b c d)):C e:=di h fun i=>Expr.Call.elim e i k
def dD(e:Expr)(f:List (Option Expr)->LEx->Pos->Bool):Bool:=if h:e.ctorIdx=6 then Expr.Dict.elim e h f else false
@[elab_as_elim] theorem qq9 {e f} {C:Expr->Prop} (h:dD e f=true) (k:∀ a b c,f a b c=true->C (.Dict a b c)):C e:=di h fun i=>Expr.Dict.elim e i k
def dG(e:Expr)(f:Expr->List Comprehension->Scope->Pos->Bool):Bool:=if h:e.ctorIdx=8 then Expr.ListComp.elim e h f else false
@[elab_as_elim] theorem que {e f} {C:Expr->Prop} (h:dG e f=true) (k:∀ a b c d,f a b c d=true->C (.ListComp a b c d)):C e:=di h fun i=>Expr.ListComp.elim e i k
def tA(e:Stmt)(f:LEx->Expr->Pos->Bool):Bool:=if h:e.ctorIdx=5 then Stmt.Assign.elim e h f else false
@[elab_as_elim] theorem qvI {e f} {C:Stmt->Prop} (h:tA e f=true) (k:∀ a b c,f a b c=true->C (.Assign a b c)):C e:=di h fun i=>Stmt.Assign.elim e i k
def tU(e:Stmt)(f:Expr->Operator->Expr->Pos->Bool):Bool:=if h:e.ctorIdx=7 then Stmt.AugAssign.elim e h f else false
@[elab_as_elim] theorem qvu {e f} {C:Stmt->Prop} (h:tU e f=true) (k:∀ a b c d,f a b c d=true->C (.AugAssign a b c d)):C e:=di h fun i=>Stmt.AugAssign.elim e i k
def tD(e:Stmt)(f:LEx->Pos->Bool):Bool:=if h:e.ctorIdx=4 then Stmt.Delete.elim e h f else false
@[elab_as_elim] theorem qvE {e f} {C:Stmt->Prop} (h:tD e f=true) (k:∀ a b,f a b=true->C (.Delete a b)):C e:=di h fun i=>Stmt.Delete.elim e i k
def tR(e:Stmt)(f:Option Expr->Pos->Bool):Bool:=if h:e.ctorIdx=3 then Stmt.Return.elim e h f else false
@[elab_as_elim] theorem qrS {e f} {C:Stmt->Prop} (h:tR e f=true) (k:∀ a b,f a b=true->C (.Return a b)):C e:=di h fun i=>Stmt.Return.elim e i k
def tI(e:Stmt)(f:Expr->List Stmt->List Stmt->Pos->Bool):Bool:=if h:e.ctorIdx=12 then Stmt.If.elim e h f else false
@[elab_as_elim] theorem qvz {e f} {C:Stmt->Prop} (h:tI e f=true) (k:∀ a b c d,f a b c d=true->C (.If a b c d)):C e:=di h fun i=>Stmt.If.elim e i k
def tF(e:Stmt)(f:Expr->Expr->List Stmt->List Stmt->Pos->Bool):Bool:=if h:e.ctorIdx=9 then Stmt.For.elim e h f else false
@[elab_as_elim] theorem qvA {e f} {C:Stmt->Prop} (h:tF e f=true) (k:∀ a b c d g,f a b c d g=true->C (.For a b c d g)):C e:=di h fun i=>Stmt.For.elim e i k
def tE(e:Stmt)(f:Expr->Pos->Bool):Bool:=if h:e.ctorIdx=24 then Stmt.Expr.elim e h f else false
@[elab_as_elim] theorem qvB {e f} {C:Stmt->Prop} (h:tE e f=true) (k:∀ a b,f a b=true->C (.Expr a b)):C e:=di h fun i=>Stmt.Expr.elim e i k
section
variable {α:Type}{xs:List α}{b:Bool}{x:Option α}{e:Expr}{s:Stmt}
def l0(xs:List α)(b:Bool):Bool:=match xs with| []=>b|_=>false
def lc(xs:List α)(f:α->List α->Bool):Bool:=match xs with|x::r=>f x r|_=>false
def l1(xs:List α)(f:α->Bool):Bool:=lc xs fun x r=>l0 r (f x)
def l2(xs:List α)(f:α->α->Bool):Bool:=lc xs fun x r=>l1 r (f x)
def o0(x:Option α)(b:Bool):Bool:=match x with|none=>b|_=>false
def o1(x:Option α)(f:α->Bool):Bool:=match x with|some y=>f y|_=>false
variable {C:List α->Prop}{D:Option α->Prop}{E:Expr->Prop}{F:Stmt->Prop}
@[elab_as_elim] theorem qcO (h:l0 xs b=true) (k:b=true->C []):C xs:=by cases xs<;>first|exact k h|cases h
@[elab_as_elim] theorem qcN {f} (h:lc xs f=true) (k:∀ x r,f x r=true->C (x::r)):C xs:=by cases xs<;>first|exact k _ _ h|cases h
@[elab_as_elim] theorem qb3 {f} (h:l1 xs f=true) (k:∀ y,f y=true->C [y]):C xs:=qcN h fun y _ h=>qcO h (k y)
@[elab_as_elim] theorem qjN {f} (h:l2 xs f=true) (k:∀ y z,f y z=true->C [y,z]):C xs:=qcN h fun y _ h=>qb3 h (k y)
@[elab_as_elim] theorem qqk (h:o0 x b=true) (k:b=true->D none):D x:=by cases x<;>first|exact k h|cases h
@[elab_as_elim] theorem qqj {f} (h:o1 x f=true) (k:∀ y,f y=true->D (some y)):D x:=by cases x<;>first|exact k _ h|cases h
def dFN(e:Expr)(f:Str->Pos->LEx->Pos->Bool):Bool:=dF e fun g es ks p=>dN g fun x q=>l0 ks (f x q es p)
@[elab_as_elim] theorem qc1 {f} (h:dFN e f=true) (k:∀ x q es p,f x q es p=true->E (.Call (.Name x q) es [] p)):E e:=qq7 h fun _ es _ p h=>qco h fun x q h=>qcO h (k x q es p)
def dFA(e:Expr)(f:Expr->Str->Pos->LEx->Pos->Bool):Bool:=dF e fun g es ks p=>dA g fun x m q=>l0 ks (f x m q es p)
@[elab_as_elim] theorem qc2 {f} (h:dFA e f=true) (k:∀ x m q es p,f x m q es p=true->E (.Call (.Attribute x m q) es [] p)):E e:=qq7 h fun _ es _ p h=>qmh h fun x m q h=>qcO h (k x m q es p)
def dC1(e:Expr)(f:Expr->CmpOp->Expr->Pos->Bool):Bool:=dC e fun x os ys p=>l1 os fun o=>l1 ys fun y=>f x o y p
@[elab_as_elim] theorem qhu {f} (h:dC1 e f=true) (k:∀ x o y p,f x o y p=true->E (.Compare x [o] [y] p)):E e:=quf h fun x _ _ p h=>qb3 h fun o h=>qb3 h fun y=>k x o y p
def tA1(s:Stmt)(f:Expr->Expr->Pos->Bool):Bool:=tA s fun z v p=>l1 z fun t=>f t v p
@[elab_as_elim] theorem qeb {f} (h:tA1 s f=true) (k:∀ t v p,f t v p=true->F (.Assign [t] v p)):F s:=qvI h fun _ v p h=>qb3 h fun t=>k t v p
end
def okE(e:Expr):Bool:=!([22,7,26,9,10].contains e.ctorIdx)
def isC(e:Expr):Bool:=e.ctorIdx==8
def qqK(e:Expr):Bool:=[0,5,15].contains e.ctorIdx||dU e fun o _ _=>o== .Not
def qcp(e:Expr):Bool:=dFN e fun _ _ es _=>es.isEmpty
def onE(nd:Nd)(f:Expr->Bool):Bool:=match nd with
 | .e x=>okE x&&f x
 | .t x=>!qqK x&&f x
 |_=>false
def onC(nd:Nd)(f:Expr->Bool):Bool:=match nd with
 | .e x=>okE x&&f x
 | .t x=>f x
 |_=>false
def onS(nd:Nd)(f:Stmt->Bool):Bool:=match nd with
 | .s x=>f x
 |_=>false
def onA(nd:Nd)(f:(LEx->Nd)->LEx->Bool):Bool:=match nd with
 | .a x=>f .a x
 | .l x=>f .l x
 |_=>false
def onI(nd:Nd)(f:Expr->Expr->Bool):Bool:=match nd with
 | .i tg x=>f tg x
 |_=>false
def onP(nd:Nd)(f:Option Expr->Bool):Bool:=match nd with
 | .p x=>f x
 |_=>false
def onL(nd:Nd)(f:List Stmt->Bool):Bool:=match nd with
 | .b x=>f x
 |_=>false
def onT(nd:Nd)(f g:Expr->Bool):Bool:=match nd with
 | .e x=>okE x&&f x
 | .t x=>g x
 |_=>false
def dY(e:Expr)(f:Arguments->Expr->Scope->Pos->Bool):Bool:=if h:e.ctorIdx=4 then Expr.Lambda.elim e h f else false
@[elab_as_elim] theorem qxx {e f} {C:Expr->Prop} (h:dY e f=true) (k:∀ a b c d,f a b c d=true->C (.Lambda a b c d)):C e:=di h fun i=>Expr.Lambda.elim e i k
noncomputable def qxX (ps:Arguments)(v:Str):Bool:=ps.posonlyargs.isEmpty&&ps.vararg.isNone&&ps.kwonlyargs.isEmpty&&ps.kw_defaults.isEmpty&&ps.kwarg.isNone&&ps.defaults.isEmpty&&(l1 ps.args fun a=>a.arg==v)
noncomputable def qw1 (v:Str)(sc:Scope):Bool:=(sc.names.lookup v==some .local)&&sc.names.all (fun y=>y.2 != .cell&&y.2 != .free)&& !sc.isCoroutine&& !sc.isGenerator&&sc.kind== .function&&dbg v
def qu6:LSt->List (Option Expr)->Bool
 | [],z=>z.isEmpty
 |k::ks,z=>lc z fun x zs=>o1 x (fun e=>dK e fun c _ _=>c== .str k)&&qu6 ks zs
noncomputable def mt (S:SI)(fc:Bool)(N:LSt)(sc:Scope):T->Nd->Bool
 | .v i,nd=>onE nd fun y0=>dN y0 fun x _=>N[i]? ==some x
 | .i n,nd=>onE nd fun y0=>dK y0 fun z _ _=>z== .int n
 | .s x,nd=>onE nd fun y0=>dK y0 fun z _ _=>z== .str x
 | .b x,nd=>onE nd fun y0=>dK y0 fun z _ _=>z== .bool x
 | .n,nd=>onE nd fun y0=>dK y0 fun z _ _=>z== .none
 | .g x,nd=>onE nd fun y0=>dN y0 fun y _=>(x==y)&&(S.gi.lookup x).isSome&&glb sc x
 | .ty x,nd=>onE nd fun y0=>dN y0 fun y _=>(Str.ofString x==y)&&["int","bool","str","tuple","list"].contains x&&S.bl.contains y&&glb sc y
 | .op o a b,nd=>onE nd fun y0=>dB y0 fun x o' y _=>(o==o')&&mt S fc N sc a (.e x)&&mt S fc N sc b (.e y)
 | .cm o a b,nd=>onC nd fun y0=>dC1 y0 fun x o' y _=>(o==o')&&mt S fc N sc a (.e x)&&mt S fc N sc b (.e y)
 | .ch o p a b c,nd=>onC nd fun y0=>dC y0 fun x z1 z2 _=>l2 z1 fun o' p'=>l2 z2 fun y z=>(o==o')&&(p==p')&&mt S fc N sc a (.e x)&&mt S fc N sc b (.e y)&&mt S fc N sc c (.e z)
 | .dn neg k d,nd=>onC nd fun y0=>dC1 y0 fun x o' y _=>(o'==if neg then .NotIn else .In)&&mt S fc N sc k (.e x)&&mt S fc N sc d (.e y)
 | .an a b,nd=>onT nd (fun y0=>dQ y0 fun z1 z2 p=>(z1== .And)&&(lc z2 fun x z3=>lc z3 fun y r=>mt S fc N sc a (.e x)&&mt S fc N sc b (.e (if r.isEmpty then y else .BoolOp .And (y::r) p)))) (fun y0=>dQ y0 fun z1 z2 p=>(z1== .And)&&(lc z2 fun x z3=>lc z3 fun y r=>mt S fc N sc a (.t x)&&mt S fc N sc b (.t (if r.isEmpty then y else .BoolOp .And (y::r) p))))
 | .or a b,nd=>onT nd (fun y0=>dQ y0 fun z1 z2 p=>(z1== .Or)&&(lc z2 fun x z3=>lc z3 fun y r=>mt S fc N sc a (.e x)&&mt S fc N sc b (.e (if r.isEmpty then y else .BoolOp .Or (y::r) p)))) (fun y0=>dQ y0 fun z1 z2 p=>(z1== .Or)&&(lc z2 fun x z3=>lc z3 fun y r=>mt S fc N sc a (.t x)&&mt S fc N sc b (.t (if r.isEmpty then y else .BoolOp .Or (y::r) p))))
 | .no a,nd=>onT nd (fun y0=>dU y0 fun z1 x _=>(z1== .Not)&&(mt S fc N sc a (.e x))) (fun y0=>dU y0 fun z1 x _=>(z1== .Not)&&(mt S fc N sc a (.t x)))
 | .ie t a b,nd=>onE nd fun y0=>dI y0 fun x y z _=>mt S fc N sc t (.t x)&&mt S fc N sc a (.e y)&&mt S fc N sc b (.e z)
 | .tu a,nd=>onE nd fun y0=>dT y0 fun es _ _=>mt S fc N sc a (.a es)
 | .ll a,nd=>onE nd fun y0=>dL y0 fun es _=>mt S fc N sc a (.a es)
 | .lm a,nd=>onE nd fun y0=>dL y0 fun es _=>mt S fc N sc a (.a es)
 | .e0,nd=>onA nd fun _ y0=>l0 y0 <|true
 | .ec a r,nd=>onA nd fun mk y0=>lc y0 fun x xs=>mt S fc N sc a (.e x)&&mt S fc N sc r (mk xs)
 | .ix a b,nd=>onE nd fun y0=>dS y0 fun x y _=>mt S fc N sc a (.e x)&&mt S fc N sc b (.e y)
 | .sl a l h,nd=>onE nd fun y0=>dS y0 fun x z1 _=>dX z1 fun lo hi z2 _=>o0 z2 <|mt S fc N sc a (.e x)&&mt S fc N sc l (.p lo)&&mt S fc N sc h (.p hi)
 | .p0,nd=>onP nd fun y0=>o0 y0 <|true
 | .p1 a,nd=>onP nd fun y0=>o1 y0 fun x=>mt S fc N sc a (.e x)
 | .fl c f a,nd=>onE nd fun y0=>dA y0 fun x f' _=>(f==f')&&S.fs.contains (c,f)&& !qcp x&&mt S fc N sc a (.e x)
 | .ca f a,nd=>onE nd fun y0=>dFN y0 fun x _ es _=>(match S.fd[f]? with|some d=>d.kind==0&&d.name==x|none=>false)&&glb sc x&&mt S fc N sc a (.a es)
 | .me f o a,nd=>onE nd fun y0=>dFA y0 fun x m ap es p=>(match S.fd[f]? with|some d=>d.kind==1&&d.name==m|none=>false)&& !qcp x&&nLn ap p&&decide (es.length<29)&&mt S fc N sc o (.e x)&&mt S fc N sc a (.a es)
 | .mk f a,nd=>onE nd fun y0=>dFN y0 fun x _ es _=>(match S.fd[f]? with|some d=>d.kind==2&&S.cl[d.cls]? ==some x|none=>false)&&glb sc x&&mt S fc N sc a (.a es)
 | .bf f a,nd=>onE nd fun y0=>dFN y0 fun x _ es _=>(f==x)&&bfN.contains x&&S.bl.contains x&&glb sc x&& !es.isEmpty&&mt S fc N sc a (.a es)
 | .bt f a,nd=>onE nd fun y0=>dFN y0 fun x _ es _=>(f==x)&&btN.contains x&&S.bl.contains x&&glb sc x&& !es.isEmpty&&mt S fc N sc a (.a es)
 | .ap o a,nd=>onE nd fun y0=>dFA y0 fun x m ap z1 p=>l1 z1 fun y=>(m==("append":Str))&& !qcp x&&nLn ap p&&mt S fc N sc o (.e x)&&mt S fc N sc a (.a [y])
 | .dg d k,nd=>onE nd fun y0=>dS y0 fun x y _=>mt S fc N sc d (.e x)&&mt S fc N sc k (.e y)
 | .d1 d k,nd=>onE nd fun y0=>dFA y0 fun x m ap z1 p=>l1 z1 fun y=>(m==("get":Str))&& !qcp x&&nLn ap p&&mt S fc N sc d (.e x)&&mt S fc N sc k (.e y)
 | .d2 d k z,nd=>onE nd fun y0=>dFA y0 fun x m ap z1 p=>l2 z1 fun y w=>(m==("get":Str))&& !qcp x&&nLn ap p&&mt S fc N sc d (.e x)&&mt S fc N sc k (.e y)&&mt S fc N sc z (.e w)
 | .dk,nd=>onE nd fun y0=>dD y0 fun z1 z2 _=>l0 z1 <|l0 z2 <|true
 | .dt,nd=>onE nd fun y0=>dD y0 fun z1 z2 _=>l0 z1 <|l0 z2 <|true
 | .ic neg a x,nd=>onC nd fun y0=>dC1 y0 fun y o z1 _=>dN z1 fun x' _=>(o==if neg then .NotIn else .In)&&(x==x')&&(S.gt.lookup x).isSome&&glb sc x&&mt S fc N sc a (.e y)
 | .tx x a,nd=>onE nd fun y0=>dS y0 fun z1 y _=>dN z1 fun x' _=>(x==x')&&S.tb.contains x&&glb sc x&&mt S fc N sc a (.e y)
 | .tg x a,nd=>onE nd fun y0=>dFA y0 fun z1 m ap z2 p=>dN z1 fun x' _=>l1 z2 fun y=>(m==("get":Str))&&(x==x')&&(S.tt.lookup x).isSome&&glb sc x&&nLn ap p&&mt S fc N sc a (.e y)
 | .tn x a,nd=>onT nd (fun _=>false) fun y0=>dC1 y0 fun y o z1 _=>dN z1 fun x' _=>(o== .NotIn)&&(x==x')&&S.tb.contains x&&glb sc x&&mt S fc N sc a (.e y)
 | .cv i a,nd=>onE nd fun y0=>dFN y0 fun x _ es _=>(N[i]? ==some x)&& !es.isEmpty&&mt S fc N sc a (.a es)
 | .lr a b,nd=>onE nd fun y0=>dFN y0 fun x _ z1 _=>l1 z1 fun z2=>dFN z2 fun y _ z3 _=>l2 z3 fun z w=>(x==("list":Str))&&(y==("range":Str))&&S.bl.contains x&&S.bl.contains y&&glb sc x&&glb sc y&&mt S fc N sc a (.e z)&&mt S fc N sc b (.e w)
 | .cp _ tup nm cap it t e,nd=>onE nd fun y0=>dG y0 fun el z1 scope _=>l1 z1 fun z2=>match z2 with|⟨tg,ite,ifs,as⟩=>fc&&(as==0)&&qmQ tup tg nm&&qrq N sc scope nm cap&&okE ite&&mt S fc N sc it (.i tg ite)&&mt S false (nm++cap.map Prod.snd) scope e (.e el)&&(match ifs with| []=>qqJ t| [c]=>mt S false (nm++cap.map Prod.snd) scope t (.t c)|_=>false)
 | .iv a,nd=>onI nd fun _=>fun y0=>dFA y0 fun x m ap z1 p=>l0 z1 <|(m==("values":Str))&& !qcp x&&nLn ap p&&mt S fc N sc a (.e x)
 | .im a,nd=>onI nd fun tg=>fun y0=>dFA y0 fun x m ap z1 p=>l0 z1 <|(tg.ctorIdx==25)&&(m==("items":Str))&& !qcp x&&nLn ap p&&mt S fc N sc a (.e x)
 | .lv _ a,nd=>onE nd fun y0=>dFN y0 fun y _ z1 _=>l1 z1 fun z2=>dFA z2 fun x m ap z3 p=>l0 z3 <|(y==("list":Str))&&(m==("values":Str))&&S.bl.contains y&&glb sc y&& !qcp x&&nLn ap p&&mt S fc N sc a (.e x)
 | .pr i j a,nd=>onS nd fun y0=>tA1 y0 fun z1 z2 _=>dT z1 fun z3 _ _=>l2 z3 fun z4 z5=>dN z4 fun x px=>dN z5 fun y py=>dT z2 fun z6 _ _=>l2 z6 fun u v=>fc&&(N[i]? ==some x)&&(N[j]? ==some y)&&(i != j)&&(sc.names.lookup x==some .local)&&(sc.names.lookup y==some .local)&&(py.line==px.line)&& !(y==x)&& !([u,v].all (foldedForSure 8))&& !([u,v].all (constantsAlone 8))&&mt S fc N sc a (.a [u,v])
 | .af c f o a,nd=>onS nd fun y0=>tU y0 fun z1 z2 e _=>dA z1 fun x f' _=>(z2== .Add)&&((f==f')&&S.fs.contains (c,f)&&mt S fc N sc o (.e x)&&mt S fc N sc a (.e e))
 | .dd d k,nd=>onS nd fun y0=>tD y0 fun z1 _=>l1 z1 fun z2=>dS z2 fun x y _=>mt S fc N sc d (.e x)&&mt S fc N sc k (.e y)
 | .is a,nd=>onI nd fun _ x=>okE x&&mt S fc N sc a (.e x)
 | .st a,nd=>onI nd fun _ x=>okE x&&mt S fc N sc a (.e x)
 | .r1 a,nd=>onI nd fun _=>fun y0=>dFN y0 fun x _ z1 _=>l1 z1 fun y=>(x==("range":Str))&&S.bl.contains x&&glb sc x&&mt S fc N sc a (.e y)
 | .set i a,nd=>onS nd fun y0=>tA1 y0 fun z1 e _=>dN z1 fun x p=>fc&&(N[i]? ==some x)&&(!isC e||sc.names.lookup x==some .cell)&&mt S fc N sc a (.e e)
 | .sc i _ tup nm cap it t e,nd=>onS nd fun y0=>tA1 y0 fun z1 z2 _=>dN z1 fun x p=>dG z2 fun el z3 scope p2=>l1 z3 fun z4=>match z4 with|⟨tg,ite,ifs,as⟩=>fc&&(N[i]? ==some x)&&(sc.names.lookup x==some .local)&&(p.line==p2.line)&& !(scope.names.any fun y=>y.1==x&&(y.2== .local||y.2== .cell))&&(as==0)&&qmQ tup tg nm&&qrq N sc scope nm cap&&okE ite&&mt S fc N sc it (.i tg ite)&&mt S false (nm++cap.map Prod.snd) scope e (.e el)&&(match ifs with| []=>qqJ t| [c]=>mt S false (nm++cap.map Prod.snd) scope t (.t c)|_=>false)
 | .un is a,nd=>onS nd fun y0=>tA1 y0 fun z1 e _=>dT z1 fun es _ _=>fc&&qcE N is es&& !isC e&&(e.ctorIdx != 25)&&mt S fc N sc a (.e e)
 | .sf c f o a,nd=>onS nd fun y0=>tA1 y0 fun z1 e _=>dA z1 fun x f' _=>(f==f')&&S.fs.contains (c,f)&& !isC e&&mt S fc N sc o (.e x)&&mt S fc N sc a (.e e)
 | .dp d k a,nd=>onS nd fun y0=>tA1 y0 fun z1 e _=>dS z1 fun x y _=>!isC e&&mt S fc N sc d (.e x)&&mt S fc N sc k (.e y)&&mt S fc N sc a (.e e)
 | .sp l i a,nd=>onS nd fun y0=>tA1 y0 fun z1 e _=>dS z1 fun x y _=>!isC e&&mt S fc N sc l (.e x)&&mt S fc N sc i (.e y)&&mt S fc N sc a (.e e)
 | .re a,nd=>onS nd fun y0=>tR y0 fun z1 _=>o1 z1 fun e=>mt S fc N sc a (.e e)
 | .r0,nd=>onS nd fun y0=>tR y0 fun z1 _=>o0 z1 <|true
 | .if_ t a b,nd=>onS nd fun y0=>tI y0 fun x y z _=>mt S fc N sc t (.t x)&&mt S fc N sc a (.b y)&&mt S fc N sc b (.b z)
 | .fo tup is it b,nd=>onS nd fun y0=>tF y0 fun tg x y z1 _=>l0 z1 <|fc&&okE x&&cond tup (dT tg fun es _ _=>qcE N is es) (dN tg fun z _=>l1 is fun i=>N[i]? ==some z)&&mt S fc N sc it (.i tg x)&&mt S fc N sc b (.b y)
 | .ex a,nd=>onS nd fun y0=>tE y0 fun e _=>!isC e&&mt S fc N sc a (.e e)
 | .ra,nd=>match nd with| .s _=>true| .b _=>true|_=>false
 | .se a b,nd=>onL nd fun y0=>lc y0 fun x y=>mt S fc N sc a (.s x)&&mt S fc N sc b (.b y)
 | .en,nd=>onL nd fun y0=>l0 y0 <|true
 | .dy ks a,nd=>onE nd fun y0=>dD y0 fun z1 z2 _=>qu6 ks z1&& !ks.isEmpty&&decide (ks.length<=15)&&decide ks.Nodup&&(z2.length==ks.length)&&mt S fc N sc a (.l z2)
 | .sk c f a,nd=>onE nd fun y0=>dF y0 fun g es ks _=>dN g fun x _=>l1 es fun e=>l1 ks fun k=>(x==("sorted":Str))&&(k.arg==some ("key":Str))&&(dY k.value fun ps b ls lp=>dA b fun e' f' _=>(f'==f)&&(dN e' fun v _=>decide (lp=S.lp)&&qxX ps v&&qw1 v ls))&&fc&&decide (N=S.ln)&&S.bl.contains x&&glb sc x&&S.fs.contains (c,f)&&mt S fc N sc a (.e e)
 | .sw o a,nd=>onE nd fun y0=>dFA y0 fun x m ap z1 p=>l1 z1 fun y=>(m==("split":Str))&& !qcp x&&nLn ap p&&mt S fc N sc o (.e x)&&mt S fc N sc a (.a [y])
section
variable {S:SI}{fc:Bool}{N:LSt}{sc:Scope}
theorem qau{t:T}{x:Expr}(h:mt S fc N sc t (.e x)=true):okE x=true:=by
 cases t<;>first|exact(qbL h).1|exact waI h waA
theorem qaU{e:Expr}{es:LEx}{env:Env}(h:okE e=true):starEach (e::es) env=(false,eval e env)::starEach es env:=by
 cases e<;>first|rfl|cases h
theorem qia{i:Expr}(h:okE i=true):∀ o v,subscripted i false o v=operate [o,v] (getItem o v):=by
 intro o v;cases i<;>first|rfl|cases h
theorem qbf{op:CmpOp}{e:Expr}(h:okE e=true):behindInMarks op e=false:=by
 cases e<;>first|rfl|cases h
theorem qf8{e:Expr}{env:Env}(h:okE e=true):∀ x,foldedSetIterable e env x=pure x:=by
 intro x;cases e<;>first|rfl|cases h
theorem qda{e:Expr}{tg:Option Expr}{l:Nat}{env:Env}(h:okE e=true)(hc:isC e=false):swapsWith e tg l env=pure false:=by
 cases e<;>first|rfl|(cases hc;done)|(cases h;done)
theorem qbW{o:Expr}{m:Str}{env:Env}(h:qcp o=false):attributeBase o m env (eval o env)=eval o env:=by
 cases o<;>first|rfl|skip
 rename_i f as ks p;cases f<;>first|rfl|skip
 cases as<;>first|rfl|skip
 cases ks<;>first|rfl|cases h
theorem qpo{e:Expr}{env:Env}(h:qqK e=false):∀ whole,isTrue e env whole=(do let v<-whole;standAt e.pos;holding [v] (truthy v)):=by
 intro w;cases e<;>first|rfl|cases h|skip
 rename_i o x p;cases o<;>first|rfl|cases h
theorem qba:∀ {r:T} {xs:LEx},mt S fc N sc r (.a xs)=true->xs.all okE=true
 |r,[],_=>rfl
 |r,x::xs,h=>by
  cases r<;>first|exact waI h waA|skip
  have h:=qbL h;rw[wav,qau h.1,qba h.2];rfl
theorem qdW{env:Env}:∀ {xs:LEx},xs.all okE=true->starEach xs env=xs.map fun e=>(false,eval e env)
 | [],_=>rfl
 |x::xs,h=>by
  rw[wav,wac]at h;rw[qaU h.1,qdW h.2];rfl
theorem qcm{env:Env}{p:Pos}{xs:LEx}(h:xs.all okE=true):(backTo p (starEach xs env)).any (·.1)=false:=by
 rw[qdW h];unfold backTo;simp
theorem qc3{env:Env}{p:Pos}{xs:LEx}(h:xs.all okE=true):(backTo p (starEach xs env)).all (fun x=>!x.1)=true:=by
 rw[qdW h];unfold backTo;simp
theorem back_eq{env:Env}{p:Pos}{xs:LEx}(h:xs.all okE=true):backTo p (starEach xs env)=xs.map fun e=>(false,eval e env):=by
 rw[qdW h];unfold backTo;simp[waG,Function.comp_def]
theorem qlb{o:Expr}{m:Str}{apos pos:Pos}{es:LEx}{env:Env}(hb:qcp o=false)(ha:es.all okE=true)(hl:es.length<29)(hn:nLn apos pos=true):
 eval (.Call (.Attribute o m apos) es [] pos) env=(do
  let ov<-eval o env
  standAt apos.atName
  let(f,first) <-holding [ov] (getMethod ov m (do return (<-importBound o env).getD true))
  callWith pos f first (backTo pos (starEach es env)) (backToKw pos (keywordEach [] env))):=by
 have e1:eval (.Call (.Attribute o m apos) es [] pos) env=(do
  let ov<-attributeBase o m env (eval o env)
  standAt apos.atName
  methodCall o m apos pos env ov (es.length+([]:List Keyword).length) (backTo pos (starEach es env)) (backToKw pos (keywordEach [] env))):=rfl
 rw[e1,qbW hb];have few:methodCallForm (es.length+([]:List Keyword).length) (backTo pos (starEach es env)) (backToKw pos (keywordEach [] env))=true:=by
  unfold methodCallForm;rw[qc3 ha];have:es.length+0+0<30:=by omega
  simp[backToKw,keywordEach,this];omega
 have hpos:methodCallPos true o env apos pos=pure pos:=by
  unfold methodCallPos;unfold nLn at hn;rw[wag (by rw[hn];rfl)]
 unfold methodCall;rw[few,hpos];rfl
end
structure Wd(P:Program)(w:World)(K:Frg)(mg:SOV)(base:Heap)(Γ:G)(k:Nat):Prop where
 bl:∀ x∈Γ.S.bl,mg x=none
 gi:∀ x i,Γ.S.gi.lookup x=some i->qya mg x i
 gt:∀ x l,Γ.S.gt.lookup x=some l->qry K mg x l
 tb:∀ x∈Γ.S.tb,KTab P w K mg x (Γ.tb x)
 tt:∀ x l,Γ.S.tt.lookup x=some l->qiL P w K mg x l
 cl:∀ i c,Γ.S.cl[i]? =some c->Cls K (Γ.C i)/\mg c=some (.ref (Γ.C i))
 fs:∀ c f,(c,f)∈Γ.S.fs->Cls K (Γ.C c)/\NoAttr K (Γ.C c) f
 fn:∀ (i:Nat) d,Γ.S.fd[i]? =some d->d.kind=0->RFn P w K mg base k d.name d.ps (Γ.fn i)
 me:∀ (i:Nat) d,Γ.S.fd[i]? =some d->d.kind=1->Cls K (Γ.C d.cls)/\RMt P w K mg base (Γ.C d.cls) k d.name d.ps (Γ.fn i)
 ini:∀ (i:Nat) d,Γ.S.fd[i]? =some d->d.kind=2->∃ j,j+1<=k/\RIn P w K mg base (Γ.C d.cls) j d.ps (Γ.ini i)
 cvs:∀ q∈Γ.cvs,∃ fd ps,PySem.W.keepIn K (.ref q.1)=true/\Binds K fd ps []/\qc4 P w K mg base CX0 k q.1 fd ps (qfB K q.2)
structure LmX(Γ:G)(X:Cx):Prop where
 q:X.env.qual++("<lambda>":Str)=Γ.S.lq
 cc:∃ cc,X.env.code= .ref cc/\PySem.W.CodeHd X.base cc Γ.lP
 bt:X.base.BuiltinsAt X.mg Γ.lP
 gp:mainGlobals≠Γ.lP
structure OkX(Γ:G)(k:Nat)(fc:Bool)(N:LSt)(sc:Scope)(X:Cx):Prop where
 hN:X.N=N
 vis:∀ x∈N,Vis X.env.scope x/\dbg x=true
 gl:∀ x,sc.names.lookup x=some .globalImplicit->Gl X x
 calm:X.calm=true
 room:Room k X.A
 fn:fc=true->X.env.scope=sc/\N.Nodup/\(∀ x∈N,Loc sc x)/\(∀ x,X.fn x=true)/\PassesOwn (model X.prog X.w) X.A X.env X.xe/\X.env.blockKind= .function/\∀ x,X.env.kindOf x=sc.names.lookup x
 lm:fc=true->N=Γ.S.ln->LmX Γ X
def RPL(X:Cx):LEx->List RTE->Prop
 | [],ts=>ts= []
 |x::xs,ts=>∃ t r,ts=t::r/\RPE X x t/\RPL X xs r
noncomputable def Good (Γ:G)(X:Cx)(t:T):Nd->Prop
 | .e x=>RPE X x (tr Γ t).E
 | .t x=>RPT X x (tr Γ t).T
 | .a xs=>RPA X xs (tr Γ t).A
 | .i tg x=>RPI X tg x (tr Γ t).I
 | .p x=>RPO X x (tr Γ t).P
 | .s x=>RPS X x (tr Γ t).S
 | .b xs=>qmN X xs (tr Γ t).S
 | .l xs=>RPL X xs (tr Γ t).L
section
variable {X:Cx}{Γ:G}{t:T}{r:RTE}{f:Expr->Bool}{nd:Nd}
theorem qcw(e:tr Γ t=ex r)(he:∀ x,f x=true->RPE X x r)(h:onE nd f=true):Good Γ X t nd:=by
 cases nd<;>first|(cases h;done)|skip
 · show RPE X _ (tr Γ t).E;rw[e];exact he _ (qbL h).2
 · rename_i x
   have h':(!qqK x&&f x)=true:=h;rw[wac,waZ]at h';show RPT X _ (tr Γ t).T;rw[e];exact qv7 (he _ h'.2) (qpo h'.1)
theorem qcP(e:tr Γ t=ex r)(he:∀ x,f x=true->RPE X x r/\RPT X x (qfJ r))(h:onC nd f=true):Good Γ X t nd:=by
 cases nd<;>first|(cases h;done)|skip
 · show RPE X _ (tr Γ t).E;rw[e];exact(he _ (qbL h).2).1
 · show RPT X _ (tr Γ t).T;rw[e];exact(he _ h).2
theorem RPE.imp{e:Expr}{t t':RTE}(h:RPE X e t)(i:∀ σ M Q,t' σ M Q->t σ M Q):RPE X e t':=PE.imp h fun σ0 H Q0 h=>by
 obtain⟨σ,M,Q,hs,hv,ht,hk⟩:=h;exact⟨σ,M,Q,hs,hv,i _ _ _ ht,hk⟩
theorem RPS.imp{e:Stmt}{t t':RTS}(h:RPS X e t)(i:∀ D σ M,t' D σ M->t D σ M):RPS X e t':=PS.imp h fun D0 σ0 H h=>by
 obtain⟨σ,M,D,hs,hv,ht,hd⟩:=h;exact⟨σ,M,D,hs,hv,i _ _ _ ht,hd⟩
theorem qib{e:Expr}:RPE X e qbj:=fun pins s σ0 H Q0 I h=>by
 obtain⟨σ,M,Q,hs,hv,ht,hk⟩:=h;exact ht.elim
theorem qnB{g:Value->Value->Sem Value}:ROp X g (fun _ _ _ _=>False):=fun pins s σ H x y v u Q0 I rx ry h=>by
 obtain⟨a,b,M,Q,ra,rb,hv,hq,hk⟩:=h;exact hq.elim
theorem qs7:∀ o:Operator,ROp X (binaryOp o) (opR o):=by
 intro o;cases o<;>first|exact qDP|exact qDG|exact qDK|exact qDL|exact qDO|exact qDI|exact qnB
theorem qfw(hu:X.A.units+64<cLine):∀ o:CmpOp,ROp X (compareOp o) (cmR o):=by
 intro o;cases o<;>first|exact olt|exact ole|exact ogt|exact oge|exact qDN hu|exact qDJ hu|exact ois|exact qtb|exact oin hu|exact qs8 hu
theorem qeR{o p:CmpOp}{b c:Expr}(h:okE c=true):lastMarks [o,p] [b,c]=false:=qbf h
end
section
variable {X:Cx}
theorem qxM:qaQ X (.builtin "isinstance") (upC X.K qwt):=by
 intro pins s σ H xs us Q0 I rl h;obtain⟨rs,M,Q,rr,hv,hq,hk⟩:=h;unfold qwt at hq;split at hq
 · rename_i a
   exact qkb pins s σ H xs us Q0 I rl ⟨_,M,Q,rr,hv,⟨rfl,hq⟩,hk⟩
 · rename_i x t _
   by_cases h1:t= "int"
   · subst h1;exact qn5 pins s σ H xs us Q0 I rl ⟨_,M,Q,rr,hv,⟨rfl,hq⟩,hk⟩
   by_cases h2:t= "bool"
   · subst h2;exact qmn pins s σ H xs us Q0 I rl ⟨_,M,Q,rr,hv,⟨rfl,hq⟩,hk⟩
   by_cases h3:t= "str"
   · subst h3;exact qn4 pins s σ H xs us Q0 I rl ⟨_,M,Q,rr,hv,⟨rfl,hq⟩,hk⟩
   by_cases h4:t= "tuple"
   · subst h4;exact qka pins s σ H xs us Q0 I rl ⟨_,M,Q,rr,hv,⟨rfl,hq⟩,hk⟩
   by_cases h5:t= "list"
   · subst h5;exact qmm pins s σ H xs us Q0 I rl ⟨_,M,Q,rr,hv,⟨rfl,hq⟩,hk⟩
   · unfold isT at hq
     rw[wad h1,wad h2,wad h3,wad h4,wad h5]at hq;exact hq.elim
 · exact hq.elim
theorem qxL:qaQ X (.builtin "len") (upC X.K qpS):=by
 intro pins s σ H xs us Q0 I rl h;obtain⟨rs,M,Q,rr,hv,hq,hk⟩:=h;unfold qpS at hq;split at hq
 · rename_i a
   split at hq
   · rename_i ys e
     exact qAN pins s σ H xs us Q0 I rl ⟨_,M,Q,rr,hv,by simp only[quW,e];exact hq,hk⟩
   · rename_i kvs e
     exact qxH pins s σ H xs us Q0 I rl ⟨_,M,Q,rr,hv,⟨a,kvs,rfl,e,hq⟩,hk⟩
   · rename_i kvs e
     exact qxG pins s σ H xs us Q0 I rl ⟨_,M,Q,rr,hv,⟨a,kvs,rfl,e,hq⟩,hk⟩
   · exact hq.elim
 · exact qAN pins s σ H xs us Q0 I rl ⟨_,M,Q,rr,hv,hq,hk⟩
theorem qur:bootBuiltins "max" =some (.builtin "max"):=by decide+kernel
theorem qmq:bootBuiltins "sorted" =some (.builtin "sorted"):=by decide+kernel
variable {x:Str}{p pos:Pos}{e:Expr}{es:LEx}{t:RTA}
theorem qxQ(hc:X.calm=true)(hx:bfN.contains x=true)(hm:X.mg x=none)(hg:Gl X x)(hd:(x==("__debug__":Str))=false)(ha:RPA X (e::es) t)(ho:(e::es).all okE=true):RPE X (.Call (.Name x p) (e::es) [] pos) (qeZ (bfR x) t):=by
 rw[wav,wac]at ho;have s1:=qaU (es:=es) (env:=X.env) ho.1;have s2:=qcm (env:=X.env) (p:=pos) ho.2;have hm':x= "len"∨x= "isinstance"∨x= "all"∨x= "max"∨x= "sorted"∨x= "ord"∨x= "any":=by simpa[bfN]using hx
 rcases hm' with rfl|rfl|rfl|rfl|rfl|rfl|rfl
 · exact qej qxL hm qus ha hg (by decide) hd s1 s2
 · exact qej qxM hm qge ha hg (by decide) hd s1 s2
 · exact qej (qn9 hc) hm quu ha hg (by decide) hd s1 s2
 · exact qej (qD5 hc) hm qur ha hg (by decide) hd s1 s2
 · exact qej (qui hc) hm qmq ha hg (by decide) hd s1 s2
 · exact qej qD4 hm quq ha hg (by decide) hd s1 s2
 · exact qej (qn8 hc) hm qut ha hg (by decide) hd s1 s2
theorem quo(hc:X.calm=true)(hx:btN.contains x=true)(hm:X.mg x=none)(hg:Gl X x)(hd:(x==("__debug__":Str))=false)(ha:RPA X (e::es) t)(ho:(e::es).all okE=true):RPE X (.Call (.Name x p) (e::es) [] pos) (qeZ (btR x) t):=by
 rw[wav,wac]at ho;have s1:=qaU (es:=es) (env:=X.env) ho.1;have s2:=qcm (env:=X.env) (p:=pos) ho.2;have hm':x= "tuple"∨x= "list"∨x= "int":=by simpa[btN]using hx
 rcases hm' with rfl|rfl|rfl
 · exact qkG quh hm qjm ha hg (by decide) hd s1 s2
 · exact qkG qxF hm qmr ha hg (by decide) hd s1 s2
 · exact qkG qD6 hm qpa ha hg (by decide) hd s1 s2
theorem qvr{y:String}(hx:["int","bool","str","tuple","list"].contains y=true)(hm:X.mg (Str.ofString y)=none)(hg:Gl X (Str.ofString y)):RPE X (.Name (Str.ofString y) pos) (rC (.ty y)):=by
 have hm':y= "int"∨y= "bool"∨y= "str"∨y= "tuple"∨y= "list":=by simpa using hx
 rcases hm' with rfl|rfl|rfl|rfl|rfl
 · exact qpE hm hg
 · exact qm0 hm hg
 · exact qpD hm hg
 · exact qkA hm hg
 · exact qmZ hm hg
theorem qtD{C:Addr}{f:Str}{Q:RVK}:kFl C f Q=(fun x M1=>match x with| .ref a=>∃ fs v,M1 a=some (.ins C fs)/\fs.lookup f=some v/\Q v M1|_=>False):=by
 funext x M1;cases x with
 |ref a=>
  refine propext ⟨fun h=>?_,fun⟨fs,v,e1,e2,q⟩=>?_⟩
  · unfold kFl at h
    simp only at h;split at h
    · rename_i C' fs e1
      obtain⟨rfl,h'⟩:=h;split at h'
      · rename_i v e2;exact⟨fs,v,e1,e2,h'⟩
      · exact h'.elim
    · exact h.elim
  · unfold kFl;simp only[e1,e2];exact⟨trivial,q⟩
 |_=>rfl
theorem qxq{C:Addr}{f:Str}{ta:RTE}(hc:Cls X.K C)(hn:NoAttr X.K C f)(he:RPE X e ta)(hb:qcp e=false):RPE X (.Attribute e f pos) (uFl C f ta):=RPE.imp (qDu hc hn he (qbW hb)) fun σ M Q h=>by
 unfold uFl at h;rw[qtD]at h;exact h
theorem qvR{C:Addr}{f:Str}{o value:Expr}{ta tv:RTE}{pos':Pos}(hc:Cls X.K C)(hn:NoAttr X.K C f)(ha:RPE X o ta)(hv:RPE X value tv)(hs:swapsWith value (some (.Attribute o f pos')) pos.line X.env=pure false):RPS X (.Assign [.Attribute o f pos'] value pos) (uSf C f ta tv):=RPS.imp (qC0 hc hn ha hv hs) fun D σ M h=>by
 unfold uSf at h;have:∀ y,kSf C f y (D.nx σ)=(fun x M2=>match x with| .ref a=>∃ fs,M2 a=some (.ins C fs)/\fs.length<1000/\D.nx σ (put M2 a (.ins C (qe0 f y fs)))|_=>False):=fun y=>by
  funext x M1;cases x with
  |ref a=>
   refine propext ⟨fun h=>?_,fun⟨fs,e1,q⟩=>?_⟩
   · unfold kSf at h
     simp only at h;split at h
     · rename_i C' fs e1
       obtain⟨rfl,h'⟩:=h;exact⟨fs,e1,h'⟩
     · exact h.elim
   · unfold kSf;simp only[e1];exact⟨trivial,q⟩
  |_=>rfl
 simp only[this]at h;exact h
theorem qoO{C:Addr}{m:Str}{sp:RSp}{t:RTA}{σ:RSt}{Q:RVK}:kMe C m sp t σ Q=(fun x M1=>match x with| .ref a=>∃ fs,M1 a=some (.ins C fs)/\fs.lookup m=none/\t σ M1 fun rs M2=>sp (.ref a::rs) M2 Q|_=>False):=by
 funext x M1;cases x with
 |ref a=>
  refine propext ⟨fun h=>?_,fun⟨fs,e1,e2,q⟩=>?_⟩
  · unfold kMe at h
    simp only at h;split at h
    · rename_i C' fs e1
      obtain⟨rfl,h'⟩:=h;exact⟨fs,e1,h'⟩
    · exact h.elim
  · unfold kMe;simp only[e1];exact⟨trivial,e2,q⟩
 |_=>rfl
theorem qth{C:Addr}{m:Str}{sp:RSp}{o:Expr}{ta:RTE}{apos:Pos}{k:Nat}{ps:LSt}(F:RMt X.prog X.w X.K X.mg X.base C k m ps sp)(c:Cls X.K C)(hr:Room k X.A)(he:RPE X o ta)(hb:qcp o=false)(hn:nLn apos pos=true):
 RPE X (.Call (.Attribute o m apos) [] [] pos) (uMe C m sp ta qm9):=RPE.imp (qpK F c hr he (qlb hb rfl (by decide) hn)) fun σ M Q h=>by
 unfold uMe at h;rw[qoO]at h;exact h
theorem qwZ{C:Addr}{m:Str}{sp:RSp}{o:Expr}{ta:RTE}{apos:Pos}{k:Nat}{ps:LSt}(F:RMt X.prog X.w X.K X.mg X.base C k m ps sp)(c:Cls X.K C)(hr:Room k X.A)(he:RPE X o ta)(ha:RPA X (e::es) t)(hb:qcp o=false)(ho:(e::es).all okE=true)(hl:(e::es).length<29)(hn:nLn apos pos=true):
 RPE X (.Call (.Attribute o m apos) (e::es) [] pos) (uMe C m sp ta t):=by
 have ho':=ho;rw[wav,wac]at ho;refine RPE.imp (qr9 F c hr he ha (qaU ho.1) (qcm ho.2) (qlb hb ho' hl hn)) fun σ M Q h=>?_
 unfold uMe at h;rw[qoO]at h;exact h
end
theorem qq1{S:SI}{fc:Bool}{N:LSt}{sc:Scope}{r:T}(h:mt S fc N sc r (.a [])=true):r= .e0:=by
 cases r<;>first|rfl|exact waI h waA
section
variable {X:Cx}{C:Addr}
theorem qpL{x:Str}{p pos:Pos}{k:Nat}{ps:LSt}{sp:RSp}(F:RIn X.prog X.w X.K X.mg X.base C k ps sp)(hr:Room (k+1) X.A)(hm:X.mg x=some (.ref C))(hg:Gl X x)(hdb:(x==("__debug__":Str))=false):RPE X (.Call (.Name x p) [] [] pos) (qjB C sp qm9):=by
 obtain⟨g,fd,hM,hb,F⟩:=F.ex;refine PE.imp (qnk hM F hr hg hm hb .nil qh8 hdb) fun σ0 H Q0 h=>?_
 obtain⟨σ,M,Q,hs,hv,ht,hk⟩:=h;refine fun a dx na nd ne=>?_
 have ex1:Ext H (upd H dx (.own a)):=Ext.new nd;have na':(upd H dx (.own a)) a=none:=by rw[qaa (wa4 ne)];exact na
 have ex2:Ext H (upd (upd H dx (.own a)) a (.ins C dx [])):=ex1.trans (Ext.new na');refine⟨[.ref a],put M a (.ins C []),_,Reps.cons (by simp only[Rep]) Reps.nil,(hv.new nd).newPut na' ⟨dx,[],rfl,rfl⟩,ht a (hv.free na),fun rv M2 v H2 q2 e2 v2 r2=>?_⟩
 obtain⟨rfl,q2⟩:=q2;simp only[Rep]at r2;exact⟨r2,hk _ M2 _ H2 q2 (ex2.trans e2) v2 (by simp only[Rep])⟩
theorem qbd{sc:Scope}{x:Str}(h:glb sc x=true):sc.names.lookup x=some .globalImplicit/\(x==("__debug__":Str))=false:=by
 unfold glb at h;rw[wac,waM,waZ]at h;exact h
theorem qt6{x:Str}(h:dbg x=true):(x==("__debug__":Str))=false/\(x==("__classdict__":Str))=false:=by
 unfold dbg at h
 rwa [wac,waZ,waZ]at h
theorem qiQ{tg e:Expr}{l:Nat}{env:Env}(h:okE e=true)(hc:isC e=false):swapsWithSole [tg] e l env=pure false:=qda h hc
theorem mem_of{α:Type}[BEq α][LawfulBEq α]{a:α}{l:List α}(h:l.contains a=true):a∈l:=by simpa using h
theorem qrl{o i:Expr}{p:Pos}(h:okE i=true):∀ v,assign (.Subscript o i p) X.env v=(do
 let ov<-holding [v] (eval o X.env)
 let iv<-holding [v,ov] (eval i X.env)
 standAt p
 holding [v,ov,iv] (setItem ov iv v)
 release [v,ov,iv] []):=by intro v;cases i<;>first|rfl|cases h
theorem qlF{K:Frg}{neg:Bool}{ss:LSt}{ta:RTE}{σ0:L2.St}{H:Hp}{Q0:VK}(h:up K (qrr neg ss ta) σ0 H Q0):tOp (upO K (quX K neg)) (up K ta) (up K (rCT K ss)) σ0 H Q0:=by
 obtain⟨σ,M,Q,hs,hv,ht,hk⟩:=h;refine⟨σ,M,_,hs,hv,ht,fun rx M1 x H1 q e1 v1 r1=>?_⟩
 refine⟨σ,M1,fun y M2=>∃ p,y= .ref p/\quK K p ss/\M2=M1,hs.ext e1,v1,fun p hp=>⟨p,rfl,hp,rfl⟩,fun ry M2 y H2 q2 e2 v2 r2=>?_⟩
 obtain⟨p,rfl,hp,rfl⟩:=q2;exact⟨rx,.ref p,_,Q,Rep.ext e2 _ _ r1,r2,v2,⟨ss,hp,q.1,q.2⟩,hk.ext (e1.trans e2)⟩
theorem qoX{neg:Bool}{op:CmpOp}{ss:LSt}{a:Expr}{ta:RTE}{x:Str}{p pos:Pos}(ho:ROp X (compareOp op) (quX X.K neg))(h:qry X.K X.mg x ss)(ha:RPE X a ta)(hg:Gl X x)(hd:(x==("__debug__":Str))=false):RPE X (.Compare a [op] [.Name x p] pos) (qrr neg ss ta)/\RPT X (.Compare a [op] [.Name x p] pos) (qfJ (qrr neg ss ta)):=
 ⟨PE.imp (qk1 ho ha (rgt h hg hd) (qbf rfl)) fun _ _ _ h=>qlF h,PT.imp (qkV ho ha (rgt h hg hd) (qbf rfl)) fun σ0 H Q0 h=>by
  obtain⟨σ,M,Q,hs,hv,ht,hk⟩:=h;exact qlF ⟨σ,M,_,hs,hv,ht,qcq hk⟩⟩
theorem qtk{o e:Expr}{m:Str}{ap p:Pos}(h0:qcp o=false)(hn:nLn ap p=true)(he:okE e=true):M1 X o m ap e p where
 base:=qbW h0
 few:=by rw[qc3 (by rw[wav,he];rfl)];rfl
 line:=hn
 trees:=back_eq (by rw[wav,he];rfl)
theorem qw0{o e f:Expr}{m:Str}{ap p:Pos}(h0:qcp o=false)(hn:nLn ap p=true)(he:okE e=true)(hf:okE f=true):M2 X o m ap e f p where
 base:=qbW h0
 few:=by rw[qc3 (by rw[wav,wav,he,hf];rfl)];rfl
 line:=hn
 trees:=back_eq (by rw[wav,wav,he,hf];rfl)
end
section
variable {X:Cx}{Γ:G}{k:Nat}{fc:Bool}{N:LSt}{sc:Scope}
theorem OkX.var(O:OkX Γ k fc N sc X){i:Nat}{x:Str}{pos:Pos}(h:N[i]? =some x):RPE X (.Name x pos) (qpQ i):=by
 have m:=O.vis x (waF h);have d:=qt6 m.2;exact rv i (by rw[O.hN];exact h) m.1 d.1 d.2
theorem OkX.setN(O:OkX Γ k true N sc X){i:Nat}{x:Str}{e:Expr}{te:RTE}{pos pos':Pos}(h:N[i]? =some x)(he:RPE X e te)(hs:swapsWith e (some (.Name x pos')) pos.line X.env=pure false):RPS X (.Assign [.Name x pos'] e pos) (qsq i te):=by
 obtain⟨hsc,nd,hl,hf,_⟩:=O.fn rfl;exact sset i he (by rw[O.hN];exact nd) (by rw[O.hN];exact h) (by rw[hsc];exact hl x (waF h)) hs (.inl (hf x))
theorem OkX.gN(O:OkX Γ k true N sc X){i:Nat}{x:Str}{pos:Pos}(h:N[i]? =some x):RPG X (.Name x pos) (rgN i):=by
 obtain⟨hsc,nd,hl,hf,_⟩:=O.fn rfl;exact qxi i (by rw[O.hN];exact nd) (by rw[O.hN];exact h) (by rw[hsc];exact hl x (waF h)) (.inl (hf x))
theorem qgW(O:OkX Γ k true N sc X):∀ (is:List Nat) (es:LEx),qcE N is es=true->PGs X es (qnT is)/\(assignEach es X.env).length=is.length/\(assignEach es X.env).findIdx? (·.1)=none
 | [],[],_=>⟨qk0,rfl,rfl⟩
 | [],_::_,h=>by simp[qcE]at h
 |i::is,[],h=>by simp[qcE]at h
 |i::is,e::es,h=>by
  cases e<;>first|(simp[qcE]at h;done)|skip
  rename_i x p;simp only[qcE,wac,waM]at h;obtain⟨hsc,nd,hl,hf,_⟩:=O.fn rfl;obtain⟨a,b,c⟩:=qgW O is es h.2;have hd:(assignEach (.Name x p::es) X.env)=(false,assign (.Name x p) X.env)::assignEach es X.env:=rfl;refine⟨qi1 (qfN (i:=i) (by rw[O.hN];exact nd) (by rw[O.hN];exact h.1) (by rw[hsc];exact hl x (waF h.1)) (.inl (hf x))) a,by rw[hd,wal,b];rfl,by rw[hd,List.findIdx?_cons,c];rfl⟩
theorem gT(O:OkX Γ k true N sc X){is:List Nat}{es:LEx}{j:Nat}{pos:Pos}(h:qcE N is es=true):RPG X (.Tuple es j pos) (rgU is):=by
 obtain⟨a,b,c⟩:=qgW O is es h;exact qDX O.calm a rfl b c
theorem qgf{scope:Scope}{nm:LSt}{cap:List (Nat×Str)}{cl:List (Str×Addr)}{C:Addr}{s:Shared}{H:Hp}{fp:List Addr}(O:OkX Γ k fc N sc X)(hs:qrq N sc scope nm cap=true):
 OkX Γ k false (nm++cap.map Prod.snd) scope (blk X scope cl C (nm++cap.map Prod.snd) s H fp):=by
 unfold qrq at hs;simp only[wac,wap,waM]at hs;obtain⟨⟨⟨⟨⟨⟨⟨hcap,_⟩,_⟩,_⟩,_⟩,hnm⟩,_⟩,hdb⟩:=hs;refine⟨rfl,fun x hx=>⟨?_,hdb x hx⟩,fun x h=>glB h,O.calm,O.room,(fun h=>by cases h),fun h=>by cases h⟩
 rcases wa1.mp hx with hx|hx
 · exact .inl (lookup_relabel_local (hnm x hx))
 · obtain⟨p,hp,rfl⟩:=waE.mp hx
   exact .inr (qdo (hcap p hp).1.2)
theorem qul{x:Str}(h:cf sc x=true):sc.names.lookup x=some .cell∨sc.names.lookup x=some .free:=by
 unfold cf at h
 rwa [Bool.or_eq_true,waM,waM]at h
theorem qrO{tup:Bool}{tg:Expr}{nm:LSt}(h:qmQ tup tg nm=true):qrP tup tg nm:=by
 unfold qmQ at h;unfold qrP;split at h
 · simpa using h
 · simpa using h
 · cases h
structure qmL(X:Cx)(N:LSt)(sc scope:Scope)(nm:LSt)(cap:List (Nat×Str)):Prop where
 hcaps:∀ p∈cap,N[p.1]? =some p.2/\scope.names.lookup p.2=some .free/\(sc.names.lookup p.2=some .cell∨sc.names.lookup p.2=some .free)
 hfr:∀ y∈scope.names,y.2= .free->(sc.names.lookup y.1=some .cell∨sc.names.lookup y.1=some .free)
 hcell:∀ y∈scope.names,y.2≠.cell
 hkind:scope.kind= .function
 hnames:∀ y∈scope.names,y.2= .local->scope.names.lookup y.1=some .local
 hx:∀ x∈nm,scope.names.lookup x=some .local
 hnd:(nm++cap.map Prod.snd).Nodup
theorem qhv{scope:Scope}{nm:LSt}{cap:List (Nat×Str)}(hs:qrq N sc scope nm cap=true):qmL X N sc scope nm cap:=by
 unfold qrq at hs;simp only[wac,wap,waM,waQ]at hs;obtain⟨⟨⟨⟨⟨⟨⟨hcap,hfr⟩,hcell⟩,hkind⟩,hnames⟩,hnm⟩,hnd⟩,hdb⟩:=hs;refine⟨fun p hp=>⟨(hcap p hp).1.1,(hcap p hp).1.2,qul (hcap p hp).2⟩,fun y hy e=>?_,fun y hy e=>?_,hkind,fun y hy e=>?_,hnm,hnd⟩
 · have:=hfr y hy
   rw[e]at this;exact qul (by simpa using this)
 · have:=hcell y hy
   rw[e]at this;simp at this
 · have:=hnames y hy
   rw[e]at this;simpa using this
end
section
variable {Γ:G}{k:Nat}{X:Cx}{fc:Bool}{N:LSt}{sc:Scope}
theorem qvK{el:Expr}{gs:List Comprehension}{scope:Scope}{p:Pos}{x:Str}{px:Pos}{l:Nat}(O:OkX Γ k true N sc X)(h:sc.names.lookup x=some .cell):swapsWith (.ListComp el gs scope p) (some (.Name x px)) l X.env=pure false:=by
 obtain⟨_,_,_,_,_,hb,hk⟩:=O.fn rfl;show(pure (X.env.blockKind== .function&&X.env.kindOf x==some .local&&px.line==p.line&& !(scope.names.any fun(n,k)=>n==x&&(k== .local||k== .cell))):Sem Bool)=_
 rw[hk,h,show((some NameKind.cell:Option NameKind)==some .local)=false from by decide]
 simp
theorem qvJ{el:Expr}{gs:List Comprehension}{scope:Scope}{p:Pos}{x:Str}{px:Pos}{l:Nat}(O:OkX Γ k true N sc X)(h:sc.names.lookup x=some .local)(hl:px.line=p.line)(ha:(scope.names.any fun y=>y.1==x&&(y.2== .local||y.2== .cell))=false):swapsWith (.ListComp el gs scope p) (some (.Name x px)) l X.env=pure true:=by
 obtain⟨_,_,_,_,_,hb,hk⟩:=O.fn rfl;show(pure (X.env.blockKind== .function&&X.env.kindOf x==some .local&&px.line==p.line&& !(scope.names.any fun(n,k)=>n==x&&(k== .local||k== .cell))):Sem Bool)=_
 rw[hk,h,hb,hl];have:(scope.names.any fun(n,k)=>n==x&&(k== .local||k== .cell))=false:=ha
 rw[this];simp
theorem qr3{elt iter tg:Expr}{nm:LSt}{tup md:Bool}{y:Str}{py:Pos}{scope:Scope}{pos spos:Pos}{ti:RTI}{tt:RTT}{te:RTE}{ifs:LEx}{cap:List (Nat×Str)}(O:OkX Γ k true N sc X)(i:Nat)(c:qmL X N sc scope nm cap)(htg:qrP tup tg nm)(hi:RPI X tg iter ti)
 (hif:∀ cl C s H fp,qrn (blk X scope cl C (nm++cap.map Prod.snd) s H fp) ifs tt) (hel:∀ cl C s H fp,RPE (blk X scope cl C (nm++cap.map Prod.snd) s H fp) elt te) (hs:∀ v,foldedSetIterable iter X.env v=pure v) (hiN:N[i]? =some y)
 (hsw:swapsWith (.ListComp elt [⟨tg,iter,ifs,0⟩] scope pos) (some (.Name y py)) spos.line X.env=pure true):
 RPS X (.Assign [.Name y py] (.ListComp elt [⟨tg,iter,ifs,0⟩] scope pos) spos) (qsq i (qfk (qod tup nm.length) md ti (cap.map Prod.fst) tt te)):=by
 obtain⟨hsc,nd,hl,hf,_⟩:=O.fn rfl;intro pins s σ0 H D0 I h;obtain⟨σ,M,D,hst,hv,ht,hd⟩:=h;rw[exec_Assign_Name_used _ _ _ _ hsw];refine waa (wpAny_standAt (waa ?_));show wpAny _ _ (do let _<-comprehension (.ListComp elt [⟨tg,iter,ifs,0⟩] scope pos) scope X.env _ (newList []) false (eval iter X.env) (some (assign (.Name y py) X.env))) _ _ s
 refine waa (wa3 (qjk (PP:=fun _ s'=>∃ σ' H',Inv X pins σ' H' s'/\D0.nx σ' H') cap htg O.calm hi hif hel hsc O.hN c.hcaps c.hfr c.hcell c.hkind c.hnames c.hx c.hnd hs I (Q0:=fun v H'=>D0.nx (σ0.set i (some v)) H') ⟨σ,M,_,hst,hv,ht,fun rx M1 v H1 q e1 v1 r1=>hd.nx _ M1 _ H1 q e1 v1 ((hst.ext e1).set r1 i)⟩ ?_) (fun _ s' hq=>wae (wae hq)) fun _ _ e=>e)
 intro D C s5 m5 H5 hn inv q hC hL hS hce hpi;have J:Inv X pins σ0 H5 s5:=inv s5.heap (Heap.SameBut.refl ..);refine wpAny_assign_Name (qgE J (by rw[O.hN];exact nd) (by rw[O.hN];exact hiN) (by rw[hsc];exact hl y (waF hiN)) (v:=.ref D) rfl (fun s6 I6 sb=>?_) (.inl (hf y)))
 obtain⟨a,sb,ha⟩:=sb;have hCa:C≠a:=by
  rcases ha with rfl|e
  · exact hL
  · exact fun z=>hce y a e z.symm
 obtain⟨o,es,ep,ho,r⟩:=hn;refine⟨m5,⟨o,es,ep,sb.extBut _ _ hCa ho,r⟩,fun h' sb'=>⟨_,H5,Inv.turned (t':=s6.toks) (it:=C) I6 (fun b o hb e=>sb'.extBut b o hb e) hC hL (.inr hS) hce hpi,q⟩⟩
theorem qsi{elt iter tg:Expr}{nm:LSt}{tup md:Bool}{scope:Scope}{pos:Pos}{ti:RTI}{tt:RTT}{te:RTE}{ifs:LEx}{cap:List (Nat×Str)}(O:OkX Γ k true N sc X)(c:qmL X N sc scope nm cap)(htg:qrP tup tg nm)(hi:RPI X tg iter ti)
 (hif:∀ cl C s H fp,qrn (blk X scope cl C (nm++cap.map Prod.snd) s H fp) ifs tt) (hel:∀ cl C s H fp,RPE (blk X scope cl C (nm++cap.map Prod.snd) s H fp) elt te) (hs:∀ v,foldedSetIterable iter X.env v=pure v):
 RPE X (.ListComp elt [⟨tg,iter,ifs,0⟩] scope pos) (qfk (qod tup nm.length) md ti (cap.map Prod.fst) tt te):=by
 obtain⟨hsc,nd,hl,hf,_⟩:=O.fn rfl;intro pins s σ0 H Q0 I hw;rw[eval_ListComp];exact qjk cap htg O.calm hi hif hel hsc O.hN c.hcaps c.hfr c.hcell c.hkind c.hnames c.hx c.hnd hs I hw (use:=none) fun D C s5 m5 H5 hn inv q hC hL hS hce hpi=>⟨m5,hn,fun h' sb=>⟨.ref D,H5,inv h' sb,rfl,q⟩⟩
end
section
variable {X:Cx}{Γ:G}{t:T}{nd:Nd}
theorem qi0{op:BoolOp}{vs:LEx}{p:Pos}{t:RTT}(h:RPT X (.BoolOp op vs p) t):RPW X (.BoolOp op vs p) t:=fun whole pins s σ H Q I w=>h pins s σ H Q I w
theorem qji{f g:Expr->Bool}(he:∀ x,f x=true->RPE X x (tr Γ t).E)(ht:∀ x,g x=true->RPT X x (tr Γ t).T)(h:onT nd f g=true):Good Γ X t nd:=by
 cases nd<;>first|(cases h;done)|exact ht _ h|exact he _ (qbL h).2
theorem qtS{f:Stmt->Bool}(he:∀ x,f x=true->RPS X x (tr Γ t).S)(h:onS nd f=true):Good Γ X t nd:=by
 cases nd<;>first|(cases h;done)|exact he _ h
theorem qo2{f:(LEx->Nd)->LEx->Bool}(he:∀ x,f .a x=true->RPA X x (tr Γ t).A)(hl:∀ x,f .l x=true->RPL X x (tr Γ t).L)(h:onA nd f=true):Good Γ X t nd:=by
 cases nd<;>first|(cases h;done)|exact he _ h|exact hl _ h
theorem qhl{f:Expr->Expr->Bool}(he:∀ tg x,f tg x=true->RPI X tg x (tr Γ t).I)(h:onI nd f=true):Good Γ X t nd:=by
 cases nd<;>first|(cases h;done)|exact he _ _ h
theorem qo0{f:Option Expr->Bool}(he:∀ x,f x=true->RPO X x (tr Γ t).P)(h:onP nd f=true):Good Γ X t nd:=by
 cases nd<;>first|(cases h;done)|exact he _ h
theorem qo1{f:List Stmt->Bool}(he:∀ x,f x=true->qmN X x (tr Γ t).S)(h:onL nd f=true):Good Γ X t nd:=by
 cases nd<;>first|(cases h;done)|exact he _ h
theorem qCZ{st:Stmt}:RPS X st (fun _ _ _=>False):=fun pins s σ0 H D0 I h=>by
 obtain⟨σ,M,D,hs,hv,ht,hd⟩:=h;exact ht.elim
theorem qvQ{st:List Stmt}:qmN X st (fun _ _ _=>False):=fun pins s σ0 H D0 I h=>by
 obtain⟨σ,M,D,hs,hv,ht,hd⟩:=h;exact ht.elim
end
theorem qvL{x y:Str}{px py pt pt2:Pos}{kt k2:Nat}{u v:Expr}{env:Env}(hb:env.blockKind= .function)(hx:env.kindOf x=some .local)(hy:env.kindOf y=some .local)(hl:py.line=px.line)(ne:¬y=x)(ho:[u,v].all okE=true)(hf:[u,v].all (foldedForSure 8)=false)(hc:[u,v].all (constantsAlone 8)=false):
 swappedStores [.Tuple [.Name x px,.Name y py] kt pt] (.Tuple [u,v] k2 pt2) env=pure (some [x,y]):=by
 unfold swappedStores;have en:([x,y]:LSt).eraseDups.length=2:=by
  have:(y==x)=false:=by simpa using ne
  simp[List.eraseDups_cons,this]
 simp only[wav,List.all_nil,Bool.and_true,wac]at ho;simp[hb,hx,hy,hl,hf,hc,en,Expr.pos];rintro (z|z)
 · split at z
   · cases ho.1
   · cases z
 · split at z
   · cases ho.2
   · cases z
theorem qxW{ps:Arguments}{v:Str}(h:qxX ps v=true):∃ an p,ps=⟨[],[⟨v,an,p⟩],none,[],[],none,[]⟩:=by
 unfold qxX at h;simp only[wac,List.isEmpty_iff,Option.isNone_iff_eq_none]at h;obtain⟨⟨⟨⟨⟨⟨h1,h2⟩,h3⟩,h4⟩,h5⟩,h6⟩,h7⟩:=h;obtain⟨a,b,c,d,e,f,g⟩:=ps;cases h1;cases h2;cases h3;cases h4;cases h5;cases h6;refine qb3 (C:=fun b=>∃ an p,(⟨[],b,none,[],[],none,[]⟩:Arguments)=⟨[],[⟨v,an,p⟩],none,[],[],none,[]⟩) h7 fun y hy=>?_
 obtain⟨y1,y2,y3⟩:=y;obtain rfl:=wa2 hy;exact⟨y2,y3,rfl⟩
theorem qxE{sc:Scope}{env:Env}(h:∀ y∈sc.names,y.2≠.free):closureFor sc env=pure []:=by
 unfold closureFor;have:∀ (l:List (Str×NameKind)) (cs:List (Str×Addr)),(∀ y∈l,y.2≠.free)->(forIn l cs fun x r=>do
  let(name,kind):=x
  if(kind== .free)=true then do
   let y<-cellOf env name
   pure (ForInStep.yield ((name,y)::r))
  else pure (ForInStep.yield r):Sem (List (Str×Addr)))=pure cs:=by
  intro l
  induction l with
  |nil=>intro cs _;rfl
  |cons y l ih=>
   intro cs hy;rw[wbq];have:(y.2==NameKind.free)=false:=by simpa using hy y waz
   simp only[this,waD,if_false,pure_bind];exact ih cs fun z hz=>hy z (wat _ hz)
 have e:=this sc.names [] h;simp only[]at e ⊢
 first
  |(rw[e];rfl)
  |(simp only[bind_pure];exact e)
theorem bind1{v:Str}{an:Option Expr}{p:Pos}{sc:Scope}(name qual:Str)(body:Expr)(pm cd ct u:Value):bindArgs (PySem.W.kla_fn name qual ⟨[],[⟨v,an,p⟩],none,[],[],none,[]⟩ body sc [] pm cd ct) ⟨[u],[]⟩=pure [(v,u)]:=by
 have e:([(v,u)]:List (Str×Value)).lookup v=some u:=by simp
 unfold bindArgs;simp[seqItems?,PySem.W.kla_fn,e];rfl
theorem qAC{v:Str}{an:Option Expr}{p:Pos}{sc:Scope}(h:qw1 v sc=true):qoi v ⟨[],[⟨v,an,p⟩],none,[],[],none,[]⟩ sc/\∀ env:Env,closureFor sc env=pure []:=by
 unfold qw1 dbg at h;simp only[wac,wap,waM,bne_iff_ne,waZ]at h;obtain⟨⟨⟨⟨⟨h1,h2⟩,h3⟩,h4⟩,h5⟩,h6,h7⟩:=h;exact⟨⟨bind1,h1,fun y hy=>(h2 y hy).1,h3,h4,h5,h6⟩,fun _=>qxE fun y hy=>(h2 y hy).2⟩
theorem qfv{Γ:G}{k:Nat}{X:Cx}{N:LSt}{sc:Scope}{t:T}{ifs:LEx}(O:OkX Γ k false N sc X)(W:Wd X.prog X.w X.K X.mg X.base Γ k)
 (ih:∀ {fc:Bool} {N:LSt} {sc:Scope} {X:Cx},OkX Γ k fc N sc X->Wd X.prog X.w X.K X.mg X.base Γ k->∀ {nd},mt Γ.S fc N sc t nd=true->Good Γ X t nd)
 (h:(match ifs with| []=>qqJ t| [c]=>mt Γ.S false N sc t (.t c)|_=>false)=true):qrn X ifs (tr Γ t).T:=by
 split at h
 · revert h
   exact fun h=>di h fun i=>T.b.elim t i fun b h=>by cases b<;>first|exact qB5|cases h
 · exact qB4 (ih O W h)
 · cases h
set_option hygiene false in
local macro_rules
 | `(tactic|walk_at "g0")=>`(tactic|(intro fc N sc X O W nd h))
 | `(tactic|walk_at "gE")=>`(tactic|(walk_at "g0";refine qcw rfl (fun x hx=>?_) h))
 | `(tactic|walk_at "gS")=>`(tactic|(walk_at "g0";refine qtS (fun x hx=>?_) h))
 | `(tactic|walk_at "ga")=>`(tactic|simp only[wac,waM]at hx)
theorem qrC{X:Cx}{pos:Pos}:∀ {ks:LSt} {keys:List (Option Expr)} {vals:LEx} {ts:List RTE},qu6 ks keys=true->vals.length=ks.length->RPL X vals ts->quL X pos keys vals (ks.zip ts)/\(ks.zip ts).map (·.1)=ks/\keys.length=ks.length/\keys.all (·.isSome)=true
 | [],keys,[],ts,h,_,hr=>by cases keys with|nil=>exact⟨qBL,rfl,rfl,rfl⟩|cons a b=>cases h
 | [],keys,_::_,ts,h,hl,hr=>by cases hl
 |k::ks,keys,[],ts,h,hl,hr=>by cases hl
 |k::ks,keys,v::vals,ts,h,hl,hr=>by
  obtain⟨t,r,rfl,h1,h2⟩:=hr;revert h;unfold qu6;intro h;refine qcN h fun x zs h=>?_
  obtain⟨ha,hb⟩:=qbL h;obtain⟨i1,i2,i3,i4⟩:=qrC (pos:=pos) hb (Nat.succ.inj hl) h2;refine qqj ha fun e ha=>?_
  refine qmg ha fun c _ _ ha=>?_
  obtain rfl:=wa2 ha;exact⟨qvl h1 i1,by rw[List.zip_cons_cons,wan,i2],by rw[wal,i3];rfl,by rw[wav,i4];rfl⟩
theorem sound{Γ:G}{k:Nat}:∀ (t:T) {fc:Bool} {N:LSt} {sc:Scope} {X:Cx},OkX Γ k fc N sc X->Wd X.prog X.w X.K X.mg X.base Γ k->∀ {nd},mt Γ.S fc N sc t nd=true->Good Γ X t nd:=by
 intro t
 induction t with
 |v i=>
  walk_at "gE";refine qco hx fun _ _ hx=>?_
  exact O.var (by simpa using hx)
 |i n=>
  walk_at "gE";refine qmg hx fun m _ _ hx=>?_
  obtain rfl:=wa2 hx;exact ri
 |s n=>
  walk_at "gE";refine qmg hx fun m _ _ hx=>?_
  obtain rfl:=wa2 hx;exact rs
 |b n=>
  walk_at "gE";refine qmg hx fun m _ _ hx=>?_
  obtain rfl:=wa2 hx;exact rb
 |n=>
  walk_at "gE";refine qmg hx fun _ _ _ hx=>?_
  obtain rfl:=wa2 hx;exact rn
 |g x0=>
  walk_at "gE";refine qco hx fun _ _ hx=>?_
  walk_at "ga";obtain⟨⟨rfl,h1⟩,h2⟩:=hx;obtain⟨h2,h3⟩:=qbd h2;obtain⟨i,hi⟩:=wbe.mp h1;rw[hi];exact rgi (W.gi _ _ hi) (O.gl _ h2) h3
 |ty x0=>
  walk_at "gE";refine qco hx fun _ _ hx=>?_
  walk_at "ga";obtain⟨⟨⟨rfl,h1⟩,h2⟩,h3⟩:=hx;exact qvr h1 (W.bl _ (mem_of h2)) (O.gl _ (qbd h3).1)
 |op o a b iha ihb=>
  walk_at "gE";refine qxB hx fun _ _ _ _ hx=>?_
  walk_at "ga";obtain⟨⟨rfl,h1⟩,h2⟩:=hx;exact rop (qs7 o) (iha O W h1) (ihb O W h2)
 |cm o a b iha ihb=>
  walk_at "g0";refine qcP rfl (fun x hx=>?_) h
  refine qhu hx fun _ _ _ _ hx=>?_
  walk_at "ga";obtain⟨⟨rfl,h1⟩,h2⟩:=hx;exact⟨qDv (qfw O.room.units o) (iha O W h1) (ihb O W h2) (qbf (qau h2)),qv9 (qfw O.room.units o) (iha O W h1) (ihb O W h2) (qbf (qau h2))⟩
 |ch o p a b c iha ihb ihc=>
  walk_at "g0";refine qcP rfl (fun x hx=>?_) h
  refine quf hx fun _ z1 z2 _ hx=>?_
  refine qjN hx fun _ _ hx=>?_
  refine qjN hx fun _ _ hx=>?_
  walk_at "ga";obtain⟨⟨⟨⟨rfl,rfl⟩,h1⟩,h2⟩,h3⟩:=hx;exact⟨qsj (qfw O.room.units _) (qfw O.room.units _) (iha O W h1) (ihb O W h2) (ihc O W h3) (qeR (qau h3)),qpF (qfw O.room.units _) (qfw O.room.units _) (iha O W h1) (ihb O W h2) (ihc O W h3) (qeR (qau h3))⟩
 |an a b iha ihb=>
  walk_at "g0";refine qji (fun x hx=>?_) (fun x hx=>?_) h
  · refine qn1 hx fun z1 z2 p hx=>?_
    refine qiy hx fun hx=>?_
    refine qcN hx fun x z3 hx=>?_
    refine qcN hx fun y r hx=>?_
    simp only[wac]at hx;have h1:=iha O W hx.1;have h2:=ihb O W hx.2;cases r with
    |nil=>exact qsm h1 (qz8 (h2:RPE X y _))
    |cons z r=>exact qsm h1 h2
  · refine qn1 hx fun z1 z2 p hx=>?_
    refine qiy hx fun hx=>?_
    refine qcN hx fun x z3 hx=>?_
    refine qcN hx fun y r hx=>?_
    simp only[wac]at hx;have h1:=iha O W hx.1;have h2:=ihb O W hx.2;cases r with
    |nil=>exact rtw (rand h1 (qwm (h2:RPT X y _)))
    |cons z r=>exact rtw (rand h1 (qi0 h2))
 |or a b iha ihb=>
  walk_at "g0";refine qji (fun x hx=>?_) (fun x hx=>?_) h
  · refine qn1 hx fun z1 z2 p hx=>?_
    refine qiy hx fun hx=>?_
    refine qcN hx fun x z3 hx=>?_
    refine qcN hx fun y r hx=>?_
    simp only[wac]at hx;have h1:=iha O W hx.1;have h2:=ihb O W hx.2;cases r with
    |nil=>exact qz7 h1 (qz8 (h2:RPE X y _))
    |cons z r=>exact qz7 h1 h2
  · refine qn1 hx fun z1 z2 p hx=>?_
    refine qiy hx fun hx=>?_
    refine qcN hx fun x z3 hx=>?_
    refine qcN hx fun y r hx=>?_
    simp only[wac]at hx;have h1:=iha O W hx.1;have h2:=ihb O W hx.2;cases r with
    |nil=>exact rtw (ror h1 (qDr (h2:RPT X y _)))
    |cons z r=>exact rtw (ror h1 (qi0 h2))
 |no a iha=>
  walk_at "g0";refine qji (fun x hx=>?_) (fun x hx=>?_) h
  · refine quc hx fun z1 _ _ hx=>?_
    refine qiy hx fun hx=>?_
    exact qwd (iha O W hx)
  · refine quc hx fun z1 _ _ hx=>?_
    refine qiy hx fun hx=>?_
    exact qv8 (iha O W hx)
 |ie t a b iht iha ihb=>
  walk_at "gE";refine qxA hx fun _ _ _ _ hx=>?_
  walk_at "ga";obtain⟨⟨h1,h2⟩,h3⟩:=hx;exact rif (iht O W h1) (iha O W h2) (ihb O W h3)
 |tu a iha=>
  walk_at "gE";refine qmf hx fun _ _ _ hx=>?_
  exact qDp (iha O W hx)
 |ll a iha=>
  walk_at "gE";refine qud hx fun _ _ hx=>?_
  exact qDt (iha O W hx)
 |lm a iha=>
  walk_at "gE";refine qud hx fun _ _ hx=>?_
  exact qDs (iha O W hx)
 |e0=>
  walk_at "g0";refine qo2 (fun x hx=>?_) (fun x hx=>?_) h
  · refine qcO hx fun _=>?_
    exact qxY
  · refine qcO hx fun _=>?_
    rfl
 |ec a r iha ihr=>
  walk_at "g0";refine qo2 (fun x hx=>?_) (fun x hx=>?_) h
  · refine qcN hx fun _ _ hx=>?_
    have hx:=qbL hx;exact qoe (iha O W hx.1) (ihr O W hx.2) (qaU (qau hx.1))
  · refine qcN hx fun _ _ hx=>?_
    have hx:=qbL hx;exact⟨_,_,rfl,iha O W hx.1,ihr O W hx.2⟩
 |ix a b iha ihb=>
  walk_at "gE";refine qiD hx fun _ _ _ hx=>?_
  walk_at "ga";obtain⟨h1,h2⟩:=hx;exact rix (iha O W h1) (ihb O W h2) (qia (qau h2))
 |sl a l h0 iha ihl ihh=>
  walk_at "gE";refine qiD hx fun _ z1 _ hx=>?_
  refine qxy hx fun _ _ z2 _ hx=>?_
  refine qqk hx fun hx=>?_
  walk_at "ga";obtain⟨⟨h1,h2⟩,h3⟩:=hx;exact rsl (iha O W h1) (ihl O W h2) (ihh O W h3)
 |p0=>
  walk_at "g0";refine qo0 (fun x hx=>?_) h
  refine qqk hx fun hx=>?_
  exact qwE
 |p1 a iha=>
  walk_at "g0";refine qo0 (fun x hx=>?_) h
  refine qqj hx fun _ hx=>?_
  exact qwA (iha O W hx)
 |fl c f a iha=>
  walk_at "gE";refine qmh hx fun _ _ _ hx=>?_
  walk_at "ga";obtain⟨⟨⟨rfl,h1⟩,h2⟩,h3⟩:=hx;exact qxq (W.fs _ _ (mem_of h1)).1 (W.fs _ _ (mem_of h1)).2 (iha O W h3) (by simpa using h2)
 |ca f a iha=>
  walk_at "gE";refine qc1 hx fun x p es p' hx=>?_
  simp only[wac]at hx;obtain⟨⟨h1,h2⟩,h3⟩:=hx;cases e:Γ.S.fd[f]? with
  |none=>rw[e]at h1;cases h1
  |some d=>
  rw[e]at h1;simp only[wac,waM]at h1;obtain⟨h1,rfl⟩:=h1;obtain⟨h2,h4⟩:=qbd h2;cases es with
  |nil=>
   have:=qq1 h3;subst this;exact qpM (W.fn f d e h1) O.room (O.gl _ h2) h4
  |cons z es=>
   have ho:=qba h3;rw[wav,wac]at ho;exact qsl (W.fn f d e h1) O.room (iha O W h3) (O.gl _ h2) h4 (qaU ho.1) (qcm ho.2)
 |me f o a iho iha=>
  walk_at "g0";cases ef:Γ.S.fd[f]? with
  |none=>
   refine qcw (r:=qbj) (by show ex _=_;rw[ef]) (fun x hx=>qib) h
  |some d=>
   refine qcw (r:=uMe (Γ.C d.cls) d.name (Γ.fn f) (tr Γ o).E (tr Γ a).A) (by show ex _=_;rw[ef]) (fun x hx=>?_) h
   refine qc2 hx fun x m ap es p hx=>?_
   rw[ef]at hx;simp only[wac,waM,waQ]at hx;obtain⟨⟨⟨⟨⟨⟨h1,rfl⟩,h2⟩,h3⟩,h4⟩,h5⟩,h6⟩:=hx;have W1:=W.me f d ef h1;cases es with
   |nil=>
    have:=qq1 h6;subst this;exact qth W1.2 W1.1 O.room (iho O W h5) (by simpa using h2) h3
   |cons z es=>exact qwZ W1.2 W1.1 O.room (iho O W h5) (iha O W h6) (by simpa using h2) (qba h6) h4 h3
 |mk f a iha=>
  walk_at "g0";cases ef:Γ.S.fd[f]? with
  |none=>
   refine qcw (r:=qbj) (by show ex _=_;rw[ef]) (fun x hx=>qib) h
  |some d=>
   refine qcw (r:=qjB (Γ.C d.cls) (Γ.ini f) (tr Γ a).A) (by show ex _=_;rw[ef]) (fun x hx=>?_) h
   refine qc1 hx fun x p es p' hx=>?_
   rw[ef]at hx;walk_at "ga";obtain⟨⟨⟨h1,h1'⟩,h2⟩,h3⟩:=hx;obtain⟨h2,h4⟩:=qbd h2;obtain⟨j,hj,F⟩:=W.ini f d ef h1;have C1:=W.cl _ _ h1';cases es with
   |nil=>
    have:=qq1 h3;subst this;exact qpL F (O.room.mono hj) C1.2 (O.gl _ h2) h4
   |cons z es=>
    have ho:=qba h3;rw[wav,wac]at ho;exact qsb F (O.room.mono hj) C1.2 (iha O W h3) (O.gl _ h2) h4 (qaU ho.1) (qcm ho.2)
 |bf f a iha=>
  walk_at "gE";refine qc1 hx fun x p es p' hx=>?_
  walk_at "ga";obtain⟨⟨⟨⟨⟨rfl,h1⟩,h2⟩,h3⟩,h4⟩,h5⟩:=hx;obtain⟨h3,h6⟩:=qbd h3;cases es with
  |nil=>cases h4
  |cons z es=>exact qxQ O.calm h1 (W.bl _ (mem_of h2)) (O.gl _ h3) h6 (iha O W h5) (qba h5)
 |bt f a iha=>
  walk_at "gE";refine qc1 hx fun x p es p' hx=>?_
  walk_at "ga";obtain⟨⟨⟨⟨⟨rfl,h1⟩,h2⟩,h3⟩,h4⟩,h5⟩:=hx;obtain⟨h3,h6⟩:=qbd h3;cases es with
  |nil=>cases h4
  |cons z es=>exact quo O.calm h1 (W.bl _ (mem_of h2)) (O.gl _ h3) h6 (iha O W h5) (qba h5)
 |ap o a iho iha=>
  walk_at "gE";refine qc2 hx fun _ _ _ z1 _ hx=>?_
  refine qb3 hx fun _ hx=>?_
  walk_at "ga";obtain⟨⟨⟨⟨rfl,h1⟩,h2⟩,h3⟩,h4⟩:=hx;exact qpN (iho O W h3) (iha O W h4) (qbW (by simpa using h1)) (by rw[qc3 (qba h4)];rfl) h2 (qaU (by have:=qba h4;rw[wav,wac]at this;exact this.1)) rfl
 |sw o a iho iha=>
  walk_at "gE";refine qc2 hx fun _ _ _ z1 _ hx=>?_
  refine qb3 hx fun _ hx=>?_
  walk_at "ga";obtain⟨⟨⟨⟨rfl,h1⟩,h2⟩,h3⟩,h4⟩:=hx;exact rsplit (iho O W h3) (iha O W h4) (qbW (by simpa using h1)) (by rw[qc3 (qba h4)];rfl) h2 (qaU (by have:=qba h4;rw[wav,wac]at this;exact this.1)) rfl
 |dg d k0 ihd ihk=>
  walk_at "gE";refine qiD hx fun _ _ _ hx=>?_
  walk_at "ga";obtain⟨h1,h2⟩:=hx;exact qvq (qfb O.room) (ihd O W h1) (ihk O W h2) (qia (qau h2))
 |dn neg k0 d ihk ihd=>
  walk_at "g0";refine qcP rfl (fun x hx=>?_) h
  refine qhu hx fun _ _ _ _ hx=>?_
  walk_at "ga";obtain⟨⟨h0,h1⟩,h2⟩:=hx;have g1:=ihk O W h1;have g2:=ihd O W h2;cases neg with
  |true=>rw[wag rfl]at h0;subst h0;exact⟨qpl (qfb O.room) g1 g2 (qbf (qau h2)),qmO (qfb O.room) g1 g2 (qbf (qau h2))⟩
  |false=>rw[wad (by decide)]at h0;subst h0;exact⟨qB3 (qfb O.room) g1 g2 (qbf (qau h2)),qvp (qfb O.room) g1 g2 (qbf (qau h2))⟩
 |d1 d k0 ihd ihk=>
  walk_at "gE";refine qc2 hx fun _ _ _ z1 _ hx=>?_
  refine qb3 hx fun _ hx=>?_
  walk_at "ga";obtain⟨⟨⟨⟨rfl,h1⟩,h2⟩,h3⟩,h4⟩:=hx;exact qrH (qfb O.room) (ihd O W h3) (ihk O W h4) (qtk (by simpa using h1) h2 (qau h4))
 |d2 d k0 z ihd ihk ihz=>
  walk_at "gE";refine qc2 hx fun _ _ _ z1 _ hx=>?_
  refine qjN hx fun _ _ hx=>?_
  walk_at "ga";obtain⟨⟨⟨⟨⟨rfl,h1⟩,h2⟩,h3⟩,h4⟩,h5⟩:=hx;exact qrG (qfb O.room) (ihd O W h3) (ihk O W h4) (ihz O W h5) (qw0 (by simpa using h1) h2 (qau h4) (qau h5))
 |dk=>
  walk_at "gE";refine qq9 hx fun z1 z2 _ hx=>?_
  refine qcO hx fun hx=>?_
  refine qcO hx fun hx=>?_
  exact qwi
 |dt=>
  walk_at "gE";refine qq9 hx fun z1 z2 _ hx=>?_
  refine qcO hx fun hx=>?_
  refine qcO hx fun hx=>?_
  exact qsg
 |ic neg a x0 iha=>
  walk_at "g0";cases ef:Γ.S.gt.lookup x0 with
  |none=>
   refine qcP (r:=qbj) (by show ex _=_;rw[ef]) (fun x hx=>?_) h
   refine qhu hx fun _ _ z1 _ hx=>?_
   refine qco hx fun _ _ hx=>?_
   rw[ef]at hx;simp at hx
  |some ss=>
   refine qcP (r:=qrr neg ss (tr Γ a).E) (by show ex _=_;rw[ef]) (fun x hx=>?_) h
   refine qhu hx fun _ _ z1 _ hx=>?_
   refine qco hx fun _ _ hx=>?_
   walk_at "ga";obtain⟨⟨⟨⟨h0,rfl⟩,_⟩,h2⟩,h3⟩:=hx;obtain⟨h2,h4⟩:=qbd h2;have g:=iha O W h3;cases neg with
   |true=>rw[wag rfl]at h0;subst h0;exact qoX (qqi O.room.units) (W.gt _ _ ef) g (O.gl _ h2) h4
   |false=>rw[wad (by decide)]at h0;subst h0;exact qoX (qDM O.room.units) (W.gt _ _ ef) g (O.gl _ h2) h4
 |tx x0 a iha=>
  walk_at "gE";refine qiD hx fun z1 _ _ hx=>?_
  refine qco hx fun _ _ hx=>?_
  walk_at "ga";obtain⟨⟨⟨rfl,h1⟩,h2⟩,h3⟩:=hx;exact qDq (W.tb _ (mem_of h1)) (iha O W h3) (qia (qau h3)) (O.gl _ (qbd h2).1) (qbd h2).2
 |tg x0 a iha=>
  walk_at "g0";cases ef:Γ.S.tt.lookup x0 with
  |none=>refine qcw (r:=qbj) (by show ex _=_;rw[ef]) (fun x hx=>qib) h
  |some l=>
   refine qcw (r:=qfL l (tr Γ a).E) (by show ex _=_;rw[ef]) (fun x hx=>?_) h
   refine qc2 hx fun z1 _ _ z2 _ hx=>?_
   refine qco hx fun _ _ hx=>?_
   refine qb3 hx fun _ hx=>?_
   walk_at "ga";obtain⟨⟨⟨⟨⟨rfl,rfl⟩,_⟩,h2⟩,h3⟩,h4⟩:=hx;obtain⟨h2,h5⟩:=qbd h2;exact qpG (qfb O.room) (W.tt _ _ ef) (iha O W h4) (qtk rfl h3 (qau h4)) (O.gl _ h2) h5
 |tn x0 a iha=>
  walk_at "g0";refine qji (fun x hx=>by cases hx) (fun x hx=>?_) h
  refine qhu hx fun _ _ z1 _ hx=>?_
  refine qco hx fun _ _ hx=>?_
  walk_at "ga";obtain⟨⟨⟨⟨rfl,rfl⟩,h1⟩,h2⟩,h3⟩:=hx;obtain⟨h2,h5⟩:=qbd h2;exact qkB (W.tb _ (mem_of h1)) (iha O W h3) (O.gl _ h2) h5
 |cv i a iha=>
  walk_at "gE";refine qc1 hx fun x p es p' hx=>?_
  walk_at "ga";obtain⟨⟨h1,h2⟩,h3⟩:=hx;cases es with
  |nil=>cases h2
  |cons z es=>
   have ho:=qba h3;rw[wav,wac]at ho;exact qsk Γ.cvs (fun q hq=>by obtain⟨fd,ps,a1,a2,a3⟩:=W.cvs q hq;exact⟨fd,ps,k,O.room,a1,a2,a3⟩) (O.var h1) (iha O W h3) (qaU ho.1) (qcm ho.2)
 |lr a b iha ihb=>
  walk_at "gE";refine qc1 hx fun _ _ z1 _ hx=>?_
  refine qb3 hx fun z2 hx=>?_
  refine qc1 hx fun _ _ z3 _ hx=>?_
  refine qjN hx fun _ _ hx=>?_
  walk_at "ga";obtain⟨⟨⟨⟨⟨⟨⟨rfl,rfl⟩,h1⟩,h2⟩,h3⟩,h4⟩,h5⟩,h6⟩:=hx;have s1:=qaU (es:=[]) (env:=X.env) (qau h6);have s2:=fun r=>qaU (es:=r) (env:=X.env) (qau h5)
  exact qsc (W.bl _ (mem_of h1)) (W.bl _ (mem_of h2)) O.calm (iha O W h5) (ihb O W h6) (O.gl _ (qbd h3).1) (O.gl _ (qbd h4).1) (by rw[s2,s1];rfl) s1 (s2 _) s1 rfl
 |cp md tup nm cap it t e ihi iht ihe=>
  walk_at "gE";refine que hx fun el z1 scope p hx=>?_
  refine qb3 hx fun z2 hx=>?_
  obtain⟨tg,ite,ifs,as⟩:=z2;walk_at "ga";obtain⟨⟨⟨⟨⟨⟨⟨rfl,rfl⟩,h1⟩,h2⟩,h3⟩,h4⟩,h5⟩,h6⟩:=hx;exact qsi O (qhv h2) (qrO h1) (ihi O W h4) (fun cl C s H fp=>qfv (qgf O h2) W iht h6) (fun cl C s H fp=>ihe (qgf O h2) W h5) (qf8 h3)
 |iv a iha=>
  walk_at "g0";refine qhl (fun tg x hx=>?_) h
  refine qc2 hx fun _ _ _ z1 _ hx=>?_
  refine qcO hx fun hx=>?_
  walk_at "ga";obtain⟨⟨⟨rfl,h1⟩,h2⟩,h3⟩:=hx;exact qxc (iha O W h3) (qbW (by simpa using h1)) h2
 |im a iha=>
  walk_at "g0";refine qhl (fun tg x hx=>?_) h
  refine qc2 hx fun x m ap z p hx=>?_
  refine qcO hx fun hx=>?_
  walk_at "ga";obtain⟨⟨⟨⟨h0,rfl⟩,h1⟩,h2⟩,h3⟩:=hx;exact Expr.Tuple.elim tg h0 fun _ _ _=>qtO (iha O W h3) (qbW (by simpa using h1)) h2
 |lv md a iha=>
  walk_at "gE";refine qc1 hx fun _ _ z1 _ hx=>?_
  refine qb3 hx fun z2 hx=>?_
  refine qc2 hx fun _ _ _ z3 _ hx=>?_
  refine qcO hx fun hx=>?_
  walk_at "ga";obtain⟨⟨⟨⟨⟨⟨rfl,rfl⟩,h1⟩,h2⟩,h3⟩,h4⟩,h5⟩:=hx;exact rlv (W.bl _ (mem_of h1)) O.calm (iha O W h5) (O.gl _ (qbd h2).1) (qbW (by simpa using h3)) h4
 |pr i j a iha=>
  walk_at "gS";refine qeb hx fun z1 z2 pos hx=>?_
  refine qmf hx fun z3 kt pt hx=>?_
  refine qjN hx fun z4 z5 hx=>?_
  refine qco hx fun x px hx=>?_
  refine qco hx fun y py hx=>?_
  refine qmf hx fun z6 k2 pt2 hx=>?_
  refine qjN hx fun u v hx=>?_
  simp only[wac,waM,bne_iff_ne,ne_eq]at hx;obtain⟨⟨⟨⟨⟨⟨⟨⟨⟨⟨rfl,h1⟩,h2⟩,h3⟩,h4⟩,h5⟩,h6⟩,h7⟩,h8⟩,h9⟩,h10⟩:=hx;obtain⟨hsc,nd,hl,hf,_,hb,hk⟩:=O.fn rfl;exact qCX O.calm (by rw[O.hN];exact nd) (by rw[O.hN];exact h1) (by rw[O.hN];exact h2) h3 (by rw[hsc];exact h4) (by rw[hsc];exact h5) (iha O W h10) (qvL hb (by rw[hk];exact h4) (by rw[hk];exact h5) h6 (by simpa using h7) (qba h10) ((waZ _).mp h8) ((waZ _).mp h9))
 |af c f o a iho iha=>
  walk_at "gS";refine qvu hx fun z1 z2 _ _ hx=>?_
  refine qmh hx fun _ _ _ hx=>?_
  refine qiy hx fun hx=>?_
  walk_at "ga";obtain⟨⟨⟨rfl,h1⟩,h2⟩,h3⟩:=hx;exact saf (W.fs _ _ (mem_of h1)).1 (W.fs _ _ (mem_of h1)).2 (iho O W h2) (iha O W h3)
 |dd d k0 ihd ihk=>
  walk_at "gS";refine qvE hx fun z1 _ hx=>?_
  refine qb3 hx fun z2 hx=>?_
  refine qiD hx fun _ _ _ hx=>?_
  simp only[wac]at hx;exact qrE (qfb O.room) (ihd O W hx.1) (ihk O W hx.2)
 |is a iha=>
  walk_at "g0";refine qhl (fun tg x hx=>?_) h
  simp only[wac]at hx;exact qDR (iha O W hx.2)
 |st a iha=>
  walk_at "g0";refine qhl (fun tg x hx=>?_) h
  simp only[wac]at hx;exact qDQ (iha O W hx.2)
 |r1 a iha=>
  walk_at "g0";refine qhl (fun tg x hx=>?_) h
  refine qc1 hx fun _ _ z1 _ hx=>?_
  refine qb3 hx fun _ hx=>?_
  walk_at "ga";obtain⟨⟨⟨rfl,h1⟩,h2⟩,h3⟩:=hx;have s1:=qaU (es:=[]) (env:=X.env) (qau h3);exact qtM (W.bl _ (mem_of h1)) (iha O W h3) (O.gl _ (qbd h2).1) s1 s1
 |set i a iha=>
  walk_at "gS";refine qeb hx fun z1 e p' hx=>?_
  refine qco hx fun x p hx=>?_
  simp only[wac,waM,Bool.or_eq_true]at hx;obtain⟨⟨⟨rfl,h1⟩,h2⟩,h3⟩:=hx;rcases h2 with h2|h2
  · exact O.setN h1 (iha O W h3) (qda (qau h3) (by simpa using h2))
  · by_cases hc:isC e=true
    · cases e<;>first|(cases hc;done)|skip
      exact O.setN h1 (iha O W h3) (qvK O h2)
    · exact O.setN h1 (iha O W h3) (qda (qau h3) (by simpa using hc))
 |sc i md tup nm cap it t e ihi iht ihe=>
  walk_at "gS";refine qeb hx fun z1 z2 p3 hx=>?_
  refine qco hx fun x p hx=>?_
  refine que hx fun el z3 scope p2 hx=>?_
  refine qb3 hx fun z4 hx=>?_
  obtain⟨tg,ite,ifs,as⟩:=z4;walk_at "ga";obtain⟨⟨⟨⟨⟨⟨⟨⟨⟨⟨⟨rfl,h1⟩,h2⟩,h3⟩,h4⟩,rfl⟩,h5⟩,h6⟩,h7⟩,h8⟩,h9⟩,h10⟩:=hx;exact qr3 O i (qhv h6) (qrO h5) (ihi O W h8) (fun cl C s H fp=>qfv (qgf O h6) W iht h10) (fun cl C s H fp=>ihe (qgf O h6) W h9) (qf8 h7) h1 (qvJ O h2 h3 (by simpa using h4))
 |un is a iha=>
  walk_at "gS";refine qeb hx fun z1 e p' hx=>?_
  refine qmf hx fun es j p hx=>?_
  simp only[wac]at hx;obtain⟨⟨⟨⟨rfl,h1⟩,h2⟩,h3⟩,h4⟩:=hx;have hw:swappedStores [.Tuple es j p] e X.env=pure none:=by cases e<;>first|rfl|cases h3
  exact qz5 (iha O W h4) (gT O h1) (qiQ (qau h4) (by simpa using h2)) hw rfl
 |sf c f o a iho iha=>
  walk_at "gS";refine qeb hx fun z1 _ _ hx=>?_
  refine qmh hx fun _ _ _ hx=>?_
  walk_at "ga";obtain⟨⟨⟨⟨rfl,h1⟩,h2⟩,h3⟩,h4⟩:=hx;exact qvR (W.fs _ _ (mem_of h1)).1 (W.fs _ _ (mem_of h1)).2 (iho O W h3) (iha O W h4) (qda (qau h4) (by simpa using h2))
 |dp d k0 a ihd ihk iha=>
  walk_at "gS";refine qeb hx fun z1 _ _ hx=>?_
  refine qiD hx fun _ _ _ hx=>?_
  walk_at "ga";obtain⟨⟨⟨h1,h2⟩,h3⟩,h4⟩:=hx;exact qrD (qfb O.room) (ihd O W h2) (ihk O W h3) (iha O W h4) (qda (qau h4) (by simpa using h1))
 |sp l i a ihl ihi iha=>
  walk_at "gS";refine qeb hx fun z1 _ _ hx=>?_
  refine qiD hx fun _ _ _ hx=>?_
  walk_at "ga";obtain⟨⟨⟨h1,h2⟩,h3⟩,h4⟩:=hx;exact qz5 (iha O W h4) (qDY (ihl O W h2) (ihi O W h3) qwL (qrl (qau h3))) (qiQ (qau h4) (by simpa using h1)) rfl rfl
 |re a iha=>
  walk_at "gS";refine qrS hx fun z1 _ hx=>?_
  refine qqj hx fun _ hx=>?_
  exact qCW (iha O W hx)
 |r0=>
  walk_at "gS";refine qrS hx fun z1 _ hx=>?_
  refine qqk hx fun hx=>?_
  exact qvO
 |if_ t a b iht iha ihb=>
  walk_at "gS";refine qvz hx fun _ _ _ _ hx=>?_
  walk_at "ga";obtain⟨⟨h1,h2⟩,h3⟩:=hx;exact sif (iht O W h1) (iha O W h2) (ihb O W h3)
 |fo tup is it b ihi ihb=>
  walk_at "gS";refine qvA hx fun tg x y z1 p hx=>?_
  refine qcO hx fun hx=>?_
  simp only[wac]at hx;obtain⟨⟨⟨⟨rfl,h1⟩,h2⟩,h3⟩,h4⟩:=hx;have hp:=(O.fn rfl).2.2.2.2.1;have g3:=ihi O W h3;revert g3;cases tup with
  |true=>exact qmf h2 fun es _ _ h2 g3=>qz4 hp O.calm g3 (gT O h2) (ihb O W h4) (qf8 h1)
  |false=>
   refine qco h2 fun z _ h2=>?_
   exact qb3 h2 fun i h2 g3=>qz4 hp O.calm g3 (O.gN (by simpa using h2)) (ihb O W h4) (qf8 h1)
 |ex a iha=>
  walk_at "gS";refine qvB hx fun _ _ hx=>?_
  walk_at "ga";obtain⟨h1,h2⟩:=hx;exact qvS (iha O W h2) (qda (qau h2) (by simpa using h1))
 |ra=>
  intro fc N sc X O W nd h;cases nd<;>first|exact qCZ|exact qvQ|exact waI h waA
 |se a b iha ihb=>
  walk_at "g0";refine qo1 (fun x hx=>?_) h
  refine qcN hx fun _ _ hx=>?_
  walk_at "ga";obtain⟨h1,h2⟩:=hx;exact qvT (t:=(tr Γ a).S) (u:=(tr Γ b).S) (iha O W h1) (ihb O W h2)
 |en=>
  walk_at "g0";refine qo1 (fun x hx=>?_) h
  refine qcO hx fun hx=>?_
  exact qCY
 |dy ks a iha=>
  walk_at "gE";refine qq9 hx fun _ _ _ hx=>?_
  simp only[wac,waQ,waM]at hx;obtain⟨⟨⟨⟨⟨h1,h2⟩,h3⟩,h4⟩,h5⟩,h6⟩:=hx;obtain⟨i1,i2,i3,i4⟩:=qrC h1 h5 (iha O W h6);exact qwj i1 (by rw[i2];exact h4) (by rw[<-waj (f:=(·.1)),i2];exact h3) i4 (by rw[i3,h5]) (by intro z;rw[z]at i3;cases ks with|nil=>cases h2|cons _ _=>cases i3) (by rw[i3];exact h3)
 |sk c f a iha=>
  walk_at "gE";refine qq7 hx fun g es ks _ hx=>?_
  refine qco hx fun x _ hx=>?_
  refine qb3 hx fun e hx=>?_
  refine qb3 hx fun k hx=>?_
  obtain⟨k1,k2,k3⟩:=k;simp only[wac,waQ,waM]at hx;obtain⟨⟨⟨⟨⟨⟨⟨⟨rfl,rfl⟩,hy⟩,hf⟩,hN⟩,h2⟩,h3⟩,h4⟩,h5⟩:=hx;refine qxx (C:=fun z=>RPE X (.Call (.Name _ _) [e] [⟨_,z,k3⟩] _) _) hy fun ps b ls lp hy=>?_
  refine qmh hy fun e' f' _ hy=>?_
  obtain⟨hy0,hz⟩:=qbL hy;obtain rfl:=wa2 hy0;refine qco hz fun v _ hy=>?_
  simp only[wac,waQ]at hy;obtain⟨⟨rfl,hy1⟩,hy2⟩:=hy;obtain⟨an,p,rfl⟩:=qxW hy1;obtain⟨h3,h6⟩:=qbd h3;obtain⟨lq,⟨cc,lc,lh⟩,lb,lg⟩:=O.lm hf hN;exact qr6 (iha O W h5) (W.bl _ (mem_of h2)) (O.gl _ h3) (W.fs _ _ (mem_of h4)).1 (W.fs _ _ (mem_of h4)).2 (qAC hy2).1 O.room.depth lc lh lb lg rfl ((qAC (an:=an) (p:=p) hy2).2 _) lq (qaU (qau h5))
structure Prg where
 S:SI
 tb:Str->LKR
 C:Nat->Addr
 cv:List (Addr×Nat)
 lP:Addr:=0
def Prg.G(p:Prg)(f f':Nat->RSp):G:=⟨p.S,p.tb,p.C,f,f',p.cv.map fun q=>(q.1,f q.2),p.lP⟩
def qz6(Γ:G)(d:FD):RSp:=fun rs M Q=>rs.length=d.ps.length/\(tr Γ d.body).S { nx:=fun _ M'=>Q .non M',rt:=Q } (qbY d.N rs) M
def qpv(p:Prg)(f f':Nat->RSp)(i:Nat):RSp:=match p.S.fd[i]? with
 |some d=>qz6 (p.G f f') d
 |none=>fun _ _ _=>False
def qpA(p:Prg):Nat->(Nat->RSp)×(Nat->RSp)
 |0=>(fun _ _ _ _=>False,fun _ _ _ _=>False)
 |n+1=>(qpv p (qpA p n).1 (qpA p n).2,(qpA p n).1)
def sem(p:Prg)(n:Nat):Nat->RSp:=(qpA p n).1
def Prg.Gn(p:Prg)(n:Nat):R.G:=p.G (sem p n) (qpA p n).2
theorem qiS{p:Prg}{n i:Nat}{d:FD}(h:p.S.fd[i]? =some d):sem p (n+1) i=qz6 (p.Gn n) d:=by
 show qpv p _ _ i=_;unfold qpv;rw[h];rfl
structure HdF(K:Frg)(mg:SOV)(S:SI)(C:Nat->Addr)(lP:Addr)(d:FD)(g:Addr)(fd:FuncData):Prop where
 ex:∃ (qual:Str) (st:Stmt),(d.N=S.ln->qual++(".<locals>.":Str)++("<lambda>":Str)=S.lq/\∃ cc,fd.code= .ref cc/\∀ h:Heap,K.In h->PySem.W.CodeHd h cc lP)/\Fun K d.name qual st g fd/\qdn d.N d.ps (qas st)/\qpg d.N (qas st)/\mt S true d.N (qas st) d.body (.b (qcy st))=true
 bd:Binds K fd d.ps []
 k0:d.kind=0->mg d.name=some (.ref g)
 k1:d.kind=1->Cls K (C d.cls)/\Meth K (C d.cls) d.name g
 k2:d.kind=2->Mk K (C d.cls) g
structure Hd(P:Program)(w:World)(K:Frg)(mg:SOV)(p:Prg):Prop where
 bl:∀ x∈p.S.bl,mg x=none
 gi:∀ x i,p.S.gi.lookup x=some i->qya mg x i
 gt:∀ x l,p.S.gt.lookup x=some l->qry K mg x l
 tb:∀ x∈p.S.tb,KTab P w K mg x (p.tb x)
 tt:∀ x l,p.S.tt.lookup x=some l->qiL P w K mg x l
 cl:∀ (i:Nat) c,p.S.cl[i]? =some c->Cls K (p.C i)/\mg c=some (.ref (p.C i))
 fs:∀ c f,(c,f)∈p.S.fs->Cls K (p.C c)/\NoAttr K (p.C c) f
 fns:∀ (i:Nat) d,p.S.fd[i]? =some d->∃ g fd,HdF K mg p.S p.C p.lP d g fd
 lm:∀ (i:Nat) d,p.S.fd[i]? =some d->d.N=p.S.ln->mainGlobals≠p.lP/\∀ h:Heap,K.In h->h.BuiltinsAt mg p.lP
 cv:∀ q∈p.cv,∃ d,p.S.fd[q.2]? =some d/\d.kind=0/\mg d.name=some (.ref q.1)
section
variable {P:Program}{w:World}{K:Frg}{mg:SOV}{p:Prg}{base:Heap}
theorem qi8{k:Nat}{g:Addr}{fd:FuncData}{ps:LSt}:qc4 P w K mg base CX0 k g fd ps (qfB K fun _ _ _=>False) where
 len:=fun vs H Q E h=>by obtain⟨rs,M,Q',_,_,h,_⟩:=h;exact h.elim
 run:=fun A outer s H args us vs Q E _ _ _ _ h=>by obtain⟨rs,M,Q',_,_,h,_⟩:=h;exact h.elim
theorem qvj{n:Nat}(H:Hd P w K mg p)(L:∀ (i:Nat) d g fd,p.S.fd[i]? =some d->HdF K mg p.S p.C p.lP d g fd->qc4 P w K mg base CX0 (n+1) g fd d.ps (qfB K (sem p n i))/\qc4 P w K mg base CX0 n g fd d.ps (qfB K ((qpA p n).2 i))):Wd P w K mg base (p.Gn n) (n+1) where
 bl:=H.bl
 gi:=H.gi
 gt:=H.gt
 tb:=H.tb
 tt:=H.tt
 cl:=H.cl
 fs:=H.fs
 fn:=fun i d e hk=>by
  obtain⟨g,fd,F⟩:=H.fns i d e;obtain⟨q,st,_,F1,_⟩:=F.ex;exact⟨g,fd,F.k0 hk,F1.kp,F.bd,(L i d g fd e F).1⟩
 me:=fun i d e hk=>by
  obtain⟨g,fd,F⟩:=H.fns i d e;exact⟨(F.k1 hk).1,⟨g,fd,(F.k1 hk).2,F.bd,(L i d g fd e F).1⟩⟩
 ini:=fun i d e hk=>by
  obtain⟨g,fd,F⟩:=H.fns i d e;exact⟨n,waf _,⟨g,fd,F.k2 hk,F.bd,(L i d g fd e F).2⟩⟩
 cvs:=fun q hq=>by
  obtain⟨q0,h0,rfl⟩:=waE.mp hq;obtain⟨d,e,hk,hm⟩:=H.cv q0 h0;obtain⟨g,fd,F⟩:=H.fns q0.2 d e;have:=(F.k0 hk).symm.trans hm;cases this;obtain⟨q,st,_,F1,_⟩:=F.ex;exact⟨fd,d.ps,F1.kp,F.bd,(L q0.2 d _ fd e F).1⟩
theorem lev(H:Hd P w K mg p)(kb:K.In base):∀ (n:Nat) (i:Nat) d g fd,p.S.fd[i]? =some d->HdF K mg p.S p.C p.lP d g fd->qc4 P w K mg base CX0 (n+1) g fd d.ps (qfB K (sem p n i))/\qc4 P w K mg base CX0 n g fd d.ps (qfB K ((qpA p n).2 i))
 |0,i,d,g,fd,e,F=>⟨qi8,qi8⟩
 |n+1,i,d,g,fd,e,F=>by
  refine⟨?_,(lev H kb n i d g fd e F).1⟩;rw[qiS e];obtain⟨qual,st,L1,F1,S1,N1,m1⟩:=F.ex;refine qwh F1 S1 (fun rs M Q h=>h.1) (fun cdv hcd A outer s H0 E hr=>?_) fun rs M Q h=>h.2
  have O:OkX (p.Gn n) (n+1) true d.N (qas st) (qo7 CX0 P w K mg base d.N qual (qas st) g cdv A outer s H0 E).nox:=by
   refine⟨rfl,fun x hx=>⟨?_,?_⟩,fun x h=>h,rfl,hr,fun _=>⟨rfl,N1.nd,N1.loc,fun _=>rfl,PassesOwn.never,?_,fun x=>rfl⟩,fun _ hN=>?_⟩
   · exact(N1.loc x hx).elim .inl fun z=>.inr (.inl z)
   · have:=N1.dbg x hx
     unfold dbg;rw[this.1,this.2];rfl
   · show(if(qas st).kind.isAnnotationScope then ScopeKind.function else(qas st).kind)=_
     rw[S1.kind];rfl
   · obtain⟨l1,cc,l2,l3⟩:=L1 hN
     obtain⟨l4,l5⟩:=H.lm i d e hN;exact⟨l1,⟨cc,hcd.symm.trans l2,l3 _ kb⟩,l5 _ kb,l4⟩
  exact sound d.body O (qvj H (lev H kb n)) m1
end
end R
namespace HD
open PySem PySem.W PyProof.Rows
def qvt(p:Program)(i:Nat):Stmt:=p.main.body.getD i (.Pass ⟨0,0,0,0⟩)
def sub(s:Stmt)(i:Nat):Stmt:=match s with
 | .ClassDef (body:=b) ..=>b.getD i (.Pass ⟨0,0,0,0⟩)
 |s=>s
def qAM(s:Stmt):Arguments:=match s with
 | .FunctionDef (args:=a) ..=>a
 |_=>default
def qrw(s:Stmt):List Stmt:=match s with
 | .FunctionDef (body:=b) ..=>b
 |_=>[]
def qAL(s:Stmt):Scope:=match s with
 | .FunctionDef (scope:=c) ..=>c
 |_=>default
noncomputable abbrev e1 (P:Params) (x:String) (t:Tok) (v:Value):DictEntry:=⟨PyData.keyHash P x,.str x t,v⟩
noncomputable abbrev nsO (es:List DictEntry) (n:Nat):Obj:=⟨.type "dict",none,.dict es.toArray n,#[]⟩
noncomputable abbrev tbO (vs:LVl):Obj:=⟨.none,none,.fields vs.toArray,#[]⟩
noncomputable abbrev coO (vs:LVl):Obj:=⟨.type "code",none,.fields vs.toArray,#[]⟩
noncomputable abbrev tup (xs:LVl):Obj:=⟨.type "tuple",none,.seq xs.toArray 0,#[]⟩
noncomputable abbrev fnO (n q:String) (s:Stmt) (pm cd:Value):Obj:=⟨.type "function",none,.func { name:=n,qualname:=q,params:=qAM s,body:=.stmts (qrw s),scope:=qAL s,globals:=3,closure:=[],defaults:=.none,kwdefaults:=.none,doc:=.none,pyModule:=pm,annotations:=none,code:=cd,closureTuple:=.none,builtins:=0 },#[]⟩
noncomputable abbrev tfO (n q:String) (s:Stmt):Obj:=⟨.none,none,.func { name:=n,qualname:=q,params:=qAM s,body:=.stmts (qrw s),scope:=qAL s,globals:=0,closure:=[],defaults:=.none,kwdefaults:=.none,doc:=.none,pyModule:=.none,annotations:=none,code:=.none,closureTuple:=.none,builtins:=0 },#[]⟩
structure DF where
 n:String
 q:String
 s:Stmt
 a:Nat
 t:Nat
 l:Nat
 c:Nat
 xs:List String
 pm:Value
noncomputable def df (n q:String)(s:Stmt)(a t l c:Nat)(xs:List String)(pm:Value):DF:=⟨n,q,s,a,t,l,c,xs,pm⟩
def qop:Nat->List String->LVl
 |_,[]=>[]
 |t,x::xs=>.str x t::qop (t+1) xs
noncomputable def DF.co (d:DF):Obj:=coO [.str d.n d.t,.str d.q (d.t+1),.str "/claim/cut.py" (d.t+2),.int d.l 0,.int d.c 0,.int 0 0,.int 0 0,.int 3 0,.ref d.a,.bool true,.int 181 0,.ref (d.a+1),.none,.ref (d.a+2),.ref (d.a+3),.ref (d.a+4),.int (d.t+3+d.xs.length:Nat) 0,.int d.l 0,.str "/claim/cut.py" (d.t+4+d.xs.length)]
def DF.fn(d:DF):Obj:=fnO d.n d.q d.s d.pm (.ref (d.a+5))
def DF.objs(d:DF):List Obj:=[tup [],tbO [],tup (qop (d.t+3) d.xs),tup [],tfO d.n d.q d.s,d.co,d.fn]
def treeOf(l:List Obj):BT:=(l.foldl (fun(x:BT×Nat) o=>(x.1.ins x.2 o,x.2+1)) (.nil,0)).1
theorem qo3{tb:String->Option Builtin}{p:Program}{w:World}{n₀:Nat}{an:OVl}{b:Nat}:∀ {n m:Nat} {s s':SharedT} {t t':Thread} {r:Option (SharedT×Thread)},
 segGoT tb p w n₀ an b n s t=some (s',t')->segGoT tb p w n₀ an b m s' t'=r->segGoT tb p w n₀ an b (n+m) s t=r
 |0,m,s,s',t,t',r,h,k=>by
  simp only[segGoT,wbB,Prod.mk.injEq]at h;obtain⟨rfl,rfl⟩:=h;rw[waL];exact k
 |n+1,m,s,s',t,t',r,h,k=>by
  have e:n+1+m=(n+m)+1:=by omega
  rw[e];simp only[segGoT]at h ⊢;split at h
  · cases h
  · rename_i he
    split at h
    · cases h
    · rename_i hk
      split at h
      · rename_i s2 t2 hs
        exact qo3 h k
      · cases h
theorem qkz{tb:String->Option Builtin}{p:Program}{w:World}{n₀:Nat}{an:OVl}{b:Nat}:∀ {n m:Nat} {s s':SharedT} {t t':Thread} {r:Flow×SharedT×Code×Pos},
 segGoT tb p w n₀ an b n s t=some (s',t')->segRunT tb p w n₀ an b m s' t'=some r->segRunT tb p w n₀ an b (n+m) s t=some r
 |0,m,s,s',t,t',r,h,k=>by
  simp only[segGoT,wbB,Prod.mk.injEq]at h;obtain⟨rfl,rfl⟩:=h;rw[waL];exact k
 |n+1,m,s,s',t,t',r,h,k=>by
  have e:n+1+m=(n+m)+1:=by omega
  rw[e];simp only[segGoT]at h;simp only[segRunT];split at h
  · cases h
  · rename_i he
    split at h
    · cases h
    · rename_i hk
      split at h
      · rename_i s2 t2 hs
        exact qkz h k
      · cases h
theorem qiT{tb:String->Option Builtin}{p:Program}{w:World}{n₀:Nat}{an:OVl}{b:Nat}(k:Nat):∀ {n:Nat} {s:SharedT} {t:Thread} {r:Flow×SharedT×Code×Pos},
 segRunT tb p w n₀ an b n s t=some r->segRunT tb p w n₀ an b (n+k) s t=some r
 |0,s,t,r,h=>by cases h
 |n+1,s,t,r,h=>by
  have e:n+1+k=(n+k)+1:=by omega
  rw[e];simp only[segRunT]at h ⊢;split at h
  · exact h
  · rename_i he
    split at h
    · cases h
    · rename_i hk
      split at h
      · exact qiT k h
      · cases h
def Rn{α:Type}(p:Program)(w:World)(n₀:Nat)(an:OVl)(c:Code)(F:List Frame)(m:Nat)(x:Sem α)(ps:Pos)(s:SharedT)(a:α)(ps':Pos)(s':SharedT):Prop:=
 ∀ (K:α->Sem Fin) (H:Value->Sem Fin) (lv:LVl->LVl),∃ n,n<=m/\segGoT treeTable p w n₀ an 1 n s ⟨x.wrap K H id lv,c,ps,F⟩=some (s',⟨K a,c,ps',F⟩)
section
variable {α β:Type}{p:Program}{w:World}{n₀:Nat}{an:OVl}{c:Code}{F:List Frame}{m m1 m2:Nat}{ps ps1 ps2 ps':Pos}{s s1 s2 s':SharedT}
theorem Rn.more{x:Sem α}{a:α}(h:Rn p w n₀ an c F m1 x ps s a ps' s')(e:m1<=m):Rn p w n₀ an c F m x ps s a ps' s':=fun K H lv=>by
 obtain⟨n,hn,h⟩:=h K H lv;exact⟨n,was hn e,h⟩
theorem qaG{a:α}:Rn p w n₀ an c F m (pure a) ps s a ps s:=fun K H lv=>⟨0,wbi _,rfl⟩
theorem qah{x:Sem α}{f:α->Sem β}{a:α}{b:β}(h1:Rn p w n₀ an c F m1 x ps s a ps1 s1)(h2:Rn p w n₀ an c F m2 (f a) ps1 s1 b ps2 s2):Rn p w n₀ an c F (m1+m2) (x >>= f) ps s b ps2 s2:=fun K H lv=>by
 obtain⟨n1,l1,e1⟩:=h1 (fun a=>(f a).wrap K H id lv) H lv
 obtain⟨n2,l2,e2⟩:=h2 K H lv;refine⟨n1+n2,Nat.add_le_add l1 l2,?_⟩;rw[Sem.bind_eq_wrap',Sem.wrap_wrap];exact qo3 e1 e2
theorem qpJ{x:Sem α}{a:α}{vs:LVl}(h:Rn p w n₀ an c F m x ps s a ps' s'):Rn p w n₀ an c F m (x.keep vs) ps s a ps' s':=fun K H lv=>by
 obtain⟨n,l,e⟩:=h K H (fun r=>lv (vs++r))
 refine⟨n,l,?_⟩;rw[Sem.keep_eq_wrap,Sem.wrap_wrap];exact e
theorem qbF{x:Sem α}{a:α}{vs:LVl}(h:Rn p w n₀ an c F m x ps s a ps' s'):Rn p w n₀ an c F m (holding vs x) ps s a ps' s':=by
 unfold holding;split
 · exact h
 · exact qpJ h
theorem qed{x:Sem α}{a:α}{n:Nat}(h:∀ (K:α->Sem Fin) (H:Value->Sem Fin) (lv:LVl->LVl),segGoT treeTable p w n₀ an 1 n s ⟨x.wrap K H id lv,c,ps,F⟩=some (s',⟨K a,c,ps',F⟩)):Rn p w n₀ an c F n x ps s a ps' s':=
 fun K H lv=>⟨n,waf _,h K H lv⟩
theorem mapOf{α β:Type}{f g:α->β}:∀ {l:List α},l.map f=l.map g->∀ i∈l,f i=g i:=fun h=>List.map_inj_left.mp h
theorem qr8{ι:Type}{l:List ι}{g:ι->Nat}{x:ι->Sem α}{a:α}(h:∀ (K:α->Sem Fin) (H:Value->Sem Fin) (lv:LVl->LVl),l.map (fun i=>segGoT treeTable p w n₀ an 1 (g i) s ⟨(x i).wrap K H id lv,c,ps,F⟩)=l.map fun _=>some (s',⟨K a,c,ps',F⟩)):∀ i∈l,Rn p w n₀ an c F (g i) (x i) ps s a ps' s':=
 fun i hi=>qed fun K H lv=>mapOf (h K H lv) i hi
theorem qh1{b:β}{f:α->β->Sem (ForInStep β)}:∀ {xs:List α},(∀ x∈xs,Rn p w n₀ an c F m (f x b) ps s (.yield b) ps s)->Rn p w n₀ an c F (m*xs.length) (forIn xs b f) ps s b ps s
 | [],_=>by rw[List.forIn_nil];exact qaG
 |x::xs,h=>by
  rw[wbq];have h1:=h x (waz ..);have h2:=qh1 (xs:=xs) fun y hy=>h y (wat _ hy)
  have e:m*(x::xs).length=m+m*xs.length:=by rw[wal,Nat.mul_succ,Nat.add_comm]
  rw[e];exact qah h1 h2
end
section
variable {p:Program}{w:World}{n₀:Nat}{an:OVl}{c:Code}{F:List Frame}{ps:Pos}{s:SharedT}{m L:Nat}
theorem qkn{a:Addr}{st:LVl}(hL:st.length<=L)(hq:Rn p w n₀ an c F m (eqIsQuiet 8 (.ref a)) ps s true ps s)
 (hs:∀ v∈st,Rn p w n₀ an c F m (eqIsQuiet 8 v) ps s true ps s):Rn p w n₀ an c F (m+m*L) (tableMayTell (.ref a) st) ps s false ps s:=by
 unfold tableMayTell;split
 · exact qaG
 · refine Rn.more (qah hq (m2:=m*st.length) ?_) (Nat.add_le_add_left (Nat.mul_le_mul_left _ hL) _)
   rw[wad (by decide)]
   refine Rn.more (qah (m2:=0) (qh1 (m:=m) fun v hv=>?_) ?_) (waf _)
   · refine Rn.more (qah (m2:=0) (hs v hv) ?_) (waf _)
     rw[wad (by decide)]
     exact qaG
   · exact qaG
theorem find_none{d a:Addr}{h:Int}{es:Array DictEntry}{ep:Nat}(hL:es.size<=L)(rn_rule:∀ t,Rn p w n₀ an c F 1 (rule t) ps s () ps s)
 (hd:Rn p w n₀ an c F 1 (dictEntries d none) ps s es ps s) (he:Rn p w n₀ an c F 1 (dictEpoch d none) ps s ep ps s)
 (hq:Rn p w n₀ an c F m (eqIsQuiet 8 (.ref a)) ps s true ps s)
 (hk:∀ e∈es.toList,(∃ b:Addr,e.key= .ref b/\b≠a)/\Rn p w n₀ an c F m (eqIsQuiet 8 e.key) ps s true ps s/\Rn p w n₀ an c F m (eqBool e.key (.ref a)) ps s false ps s):
 Rn p w n₀ an c F (1+((m+m*L)+(m+3)*L)) (dictFind d (.ref a) h) ps s none ps s:=by
 unfold dictFind;refine qbF ?_;dsimp only[keyPart];refine qah hd ?_;have hp:∀ i∈placesWithHash es.size (fun i=>Option.map (fun x=>x.hash) es[i]?) h,i<es.size:=fun i hi=>by
  unfold placesWithHash at hi;exact wa9.mp (wbd.mp hi).1
 have hpl:(placesWithHash es.size (fun i=>Option.map (fun x=>x.hash) es[i]?) h).length<=L:=by
  unfold placesWithHash;refine was (wbp _ _) ?_;rw[wbA];exact hL
 generalize placesWithHash es.size (fun i=>Option.map (fun x=>x.hash) es[i]?) h=places at hp hpl ⊢
 have hst:∀ v∈List.filterMap (fun i=>Option.map (fun x=>x.key) es[i]?) places,∃ e∈es.toList,v=e.key:=fun v hv=>by
  obtain⟨i,hi,e⟩:=wbk.mp hv;obtain⟨x,hx,rfl⟩:=Option.map_eq_some_iff.mp e;exact⟨x,Array.mem_toList_iff.mpr (Array.mem_of_getElem? hx),rfl⟩
 have hsl:(List.filterMap (fun i=>Option.map (fun x=>x.key) es[i]?) places).length<=L:=was (List.length_filterMap_le _ _) hpl
 generalize List.filterMap (fun i=>Option.map (fun x=>x.key) es[i]?) places=stored at hst hsl ⊢
 have hno:∀ e∈es.toList,(e.key==Value.ref a)=false:=fun e h1=>by
  obtain⟨⟨b,h2,h3⟩,_⟩:=hk e h1;rw[h2];exact waR.mpr fun q=>h3 (Value.ref.inj q)
 rw[wad (by simp[carriedByValue])]
 rw[wad (by
  rw[<-Array.any_toList,Bool.not_eq_true,List.any_eq_false];intro e h1;rw[hno e h1];simp)]
 rw[wad (by
  intro q;have q:=wa2 q;obtain⟨e,h1,h2⟩:=hst (.ref a) (by rw[q];exact waz ..)
  have:=hno e h1;rw[<-h2]at this;simp at this)]
 refine qah (qkn hsl hq fun v hv=>?_) ?_
 · obtain⟨e,h1,rfl⟩:=hst v hv
   exact(hk e h1).2.1
 rw[wad (by simp)]
 refine Rn.more (qah (m2:=0) (qh1 (m:=m+3) fun i hi=>?_) ?_) (Nat.mul_le_mul_left _ hpl)
 · have hi':=hp i hi
   have hg:es[i]? =some es[i]:=Array.getElem?_eq_getElem hi';rw[hg];dsimp only;split
   · obtain⟨_,_,hb⟩:=hk es[i] (Array.mem_toList_iff.mpr (Array.getElem_mem hi'))
     refine Rn.more (qah he (qah (m2:=2) hb (qah (m2:=1) he ?_))) (by omega)
     rw[wad (by simp),wad (by decide)]
     refine Rn.more (qah (m2:=0) (rn_rule _) ?_) (waf _);rw[wad (by simp)]
     exact qaG
   · exact qaG
 · exact qaG
end
section
variable {α β:Type}{p:Program}{w:World}{n₀:Nat}{an:OVl}{c:Code}{F:List Frame}{ps ps1 ps2:Pos}{s s1 s2:SharedT}{m m1 m2 m3 mf mu:Nat}
theorem qnR{i:Int}(hr:∀ t,Rn p w n₀ an c F 1 (rule t) ps s () ps s):Rn p w n₀ an c F 1 (pyHashByItsType.reduced i) ps s (reduceHash i) ps s:=by
 unfold pyHashByItsType.reduced reduceHash;split
 · exact qaG
 · exact Rn.more (qah (m2:=0) (hr _) qaG) (waf _)
theorem qnQ{a:Addr}{i:Int}{t:Tok}(hr:∀ x,Rn p w n₀ an c F 1 (rule x) ps s1 () ps s1)(h1:Rn p w n₀ an c F m1 (cRoomFor "hash" [.ref a]) ps s () ps s)
 (h2:Rn p w n₀ an c F m2 (specialOf (.ref a) "__hash__") ps s (some (.builtin "tuple.__hash__")) ps s)
 (h3:∀ E,Rn p w n₀ an c F m3 (callSpecialIfBoundUnlessNone? (.ref a) "__hash__" E) ps s (some (.int i t)) ps s1):Rn p w n₀ an c F (m1+(m2+(m2+(m3+1)))) (pyHash (.ref a)) ps s (reduceHash i) ps s1:=by
 unfold pyHash;dsimp only;unfold pyHashByItsType;refine qah h1 (qah h2 ?_);rw[wad (by decide)]
 refine qah h2 ?_;rw[wad (by decide)]
 refine qah (h3 _) ?_;exact qnR hr
theorem qpy{d a:Addr}{h:Int}{v:Value}(hr:∀ x,Rn p w n₀ an c F 1 (rule x) ps s1 () ps s1)(hh:Rn p w n₀ an c F m1 (pyHash (.ref a)) ps s h ps s1)(hf:Rn p w n₀ an c F mf (dictFind d (.ref a) h) ps s1 none ps s1)
 (hu:Rn p w n₀ an c F mu (updateDictKeys d (fun x=>x.push ⟨h,.ref a,v⟩) none) ps s1 () ps s2):Rn p w n₀ an c F (m1+(mf+(1+mu))) (dictSet d (.ref a) v) ps s () ps s2:=by
 unfold dictSet;refine qbF (qah hh ?_);unfold dictSetHashed;refine qbF (qah hf ?_);exact qah (hr _) hu
theorem qpH{x:α}{xs:List α}{b:β}{f:α->β->Sem (ForInStep β)}(h1:Rn p w n₀ an c F m1 (f x b) ps s (.yield b) ps1 s1)(h2:Rn p w n₀ an c F m2 (forIn xs b f) ps1 s1 b ps2 s2):Rn p w n₀ an c F (m1+m2) (forIn (x::xs) b f) ps s b ps2 s2:=by
 rw[wbq];exact qah h1 h2
theorem qpI{b:β}{f:α->β->Sem (ForInStep β)}:Rn p w n₀ an c F 0 (forIn [] b f) ps s b ps s:=by
 rw[List.forIn_nil];exact qaG
theorem qwe{x y:Sem α}{a:α}(e:x=y)(h:Rn p w n₀ an c F m y ps s a ps1 s1):Rn p w n₀ an c F m x ps s a ps1 s1:=e ▸ h
end
section
theorem qqe{q:Program}{loose mods:LSt}{Xt:Shared->Bool}{h:Heap}{d:Drawn}{k:Nat}{os:OsState}
 (a:PyProof.Rows.seen (List.map (fun x=>x.name) (recsOf q)) (ownsOf q) [] ⟨h,#[],d,k,os⟩=expectedOf q) (b:h.bltView=bltViewBooted)
 (c:h.keysOk (looseW q loose) (List.map (fun x=>x.name) (recsOf q)) (List.map (fun x=>x.fst) (litsOf q)) (List.map (fun x=>x.name) (clssOf q (looseW q loose)))=true)
 (c2:h.accountedOkI mods=true) (c3:(h.isNs mainGlobals&&h.isNs builtinsNs)=true) (c4:tablesOk q h=true) (c5:Xt ⟨h,#[],d,k,os⟩=true)
 (e:tabsOk q ⟨h,#[],d,k,os⟩=true) (f:pinSeenD q (drecsOf q) ⟨h,#[],d,k,os⟩=pinGoodD (drecsOf q)) (g:plainSeenE q (looseW q loose) ⟨h,#[],d,k,os⟩=plainGoodE q (looseW q loose)) (g2:plainSeenD q loose ⟨h,#[],d,k,os⟩=plainGoodD q loose)
 (g3:wideSeen q ⟨h,#[],d,k,os⟩=wideGood q) (g4:clsSeenW q loose ⟨h,#[],d,k,os⟩=clsGoodW q loose):openSeen q loose mods Xt true ⟨h,#[],d,k,os⟩=openGood q loose:=by
 rw[wac]at c3;unfold openSeen openGood;dsimp only;rw[a,b,c,c2,c3.1,c3.2,c4,c5,e,f,g,g2,g3,g4];rfl
end
end HD
namespace R
open PySem PySem.Spec PyProof.Rows L2
def qqS:Stmt->Bool
 | .FunctionDef ..=>true
 |_=>false
structure FA where
 n:String
 q:String
 s:Stmt
 g:Addr
 c:Addr
 pm:Value
def FA.fn(D:FA):Obj:=HD.fnO D.n D.q D.s D.pm (.ref D.c)
def fdOf(D:FA):FuncData:=PySem.W.fnOf D.n D.q (qma D.s) (qcy D.s) (qas D.s) .none .none .none D.pm none (.ref D.c) .none
theorem qxp{D:FA}(h:qqS D.s=true):D.fn=⟨.type "function",none,.func (fdOf D),#[]⟩:=by
 unfold FA.fn fdOf;cases e:D.s<;>rw[e]at h<;>first|rfl|cases h
theorem qtU{K:Frg}{D:FA}(h:qqS D.s=true)(l:K.lookup D.g=some D.fn)(c:PySem.W.codeIn K (.ref D.c) D.q=true)(k:PySem.W.keepIn K (.ref D.g)=true):Fun K D.n D.q D.s D.g (fdOf D):=
 ⟨⟨_,_,_,_,_,_,_,_,_,rfl,by rw[l,qxp h],c⟩,k⟩
def qw5(o:Option NameKind):Bool:=match o with
 |some .local=>true
 |some .cell=>true
 |_=>false
theorem qqp{o:Option NameKind}(h:qw5 o=true):o=some .local∨o=some .cell:=by
 unfold qw5 at h;split at h
 · exact .inl rfl
 · exact .inr rfl
 · cases h
def qxn:NameKind->Bool
 | .free=>false
 |_=>true
noncomputable def qkw (N ps:LSt)(sc:Scope):Bool:=(match sc.kind with| .function=>true|_=>false)&& !sc.isCoroutine&& !sc.isGenerator&&decide N.Nodup&&decide (N.take ps.length=ps)&&sc.names.all (fun y=>qxn y.2)&&N.all (fun x=>qw5 (sc.names.lookup x)&& !(x==("__debug__":Str))&& !(x==("__classdict__":Str)))
theorem qmY{N ps:LSt}{sc:Scope}(h:qkw N ps sc=true):qdn N ps sc/\qpg N sc:=by
 unfold qkw at h;simp only[wac,waZ,waQ,wap]at h;obtain⟨⟨⟨⟨⟨⟨h1,h2⟩,h3⟩,h4⟩,h5⟩,h6⟩,h7⟩:=h;have l:∀ x∈N,sc.names.lookup x=some .local∨sc.names.lookup x=some .cell:=fun x hx=>qqp (h7 x hx).1.1
 refine⟨⟨?_,h2,h3,h4,h5,fun x hx=>l x ?_,fun y hy=>?_⟩,⟨h4,l,fun x hx=>⟨(h7 x hx).1.2,(h7 x hx).2⟩⟩⟩
 · revert h1;cases sc.kind<;>simp
 · rw[<-h5]at hx;exact List.mem_of_mem_take hx
 · have:=h6 y hy
   intro z;rw[z]at this;cases this
def qru:Option (OVl)->Bool
 |some none=>true
 |_=>false
theorem qlA{o:Option (OVl)}(h:qru o=true):o=some none:=by
 unfold qru at h;split at h
 · rfl
 · cases h
def qu7(i:Int):Option (OVl)->Bool
 |some (some (.int j _))=>j==i
 |_=>false
theorem qqL{i:Int}{o:Option (OVl)}(h:qu7 i o=true):∃ t,o=some (some (.int i t)):=by
 unfold qu7 at h;split at h
 · rename_i j t;exact⟨t,by rw[wa2 h]⟩
 · cases h
def qoV(a:Addr):Option (OVl)->Bool
 |some (some (.ref b))=>b==a
 |_=>false
theorem qeB{a:Addr}{o:Option (OVl)}(h:qoV a o=true):o=some (some (.ref a)):=by
 unfold qoV at h;split at h
 · rw[wa2 h]
 · cases h
def qxd:Option (OVl)->Bool
 |some (some (.builtin "object.__setattr__"))=>true
 |_=>false
theorem qqM{o:Option (OVl)}(h:qxd o=true):o=some (some (.builtin "object.__setattr__")):=by
 unfold qxd at h;split at h
 · rfl
 · cases h
def qmR:LSt->LVl->Bool
 | [],[]=>true
 |x::xs,.str y _::ys=>(x==y)&&qmR xs ys
 |_,_=>false
theorem qkr:∀ {ss:LSt} {vs:LVl},qmR ss vs=true->Vals (ss.map V.str) vs
 | [],[],_=>.nil
 |x::xs,.str y t::ys,h=>by
  unfold qmR at h;rw[wac]at h;cases wa2 h.1;exact .cons ⟨t,rfl⟩ (qkr h.2)
noncomputable def quS (K:Frg)(ss:LSt):Option (OVl)->Bool
 |some (some (.ref a))=>match K.lookup a with
  |some ⟨.type "tuple",_,.seq its _,_⟩=>decide (its.size<=100)&&qmR ss its.toList
  |_=>false
 |_=>false
theorem qrL{K:Frg}{h:Heap}{mg:SOV}{x:Str}{ss:LSt}(X:K.In h)(G:h.Ns mainGlobals mg)(e:quS K ss (PySem.W.nsIn K mainGlobals x)=true):qry K mg x ss:=by
 unfold quS at e;split at e
 · rename_i a ea
   split at e
   · rename_i its n d sl el
     rw[wac,waQ]at e;exact qpn (wa8 X G ea) el (was e.1 (by decide)) (qkr e.2)
   · cases e
 · cases e
noncomputable def qra (K:Frg)(C:Addr):Bool:=wbt K C Str.empty&&wbx K C&&PySem.W.plainOver K C&&qxd (PySem.W.findIn K (.ref C) "__setattr__")
theorem qmk{K:Frg}{C:Addr}(h:qra K C=true):Cls K C:=by
 unfold qra at h;simp only[wac]at h;exact⟨h.1.1.1,h.1.1.2,h.1.2,qqM h.2⟩
noncomputable def qgd (K:Frg)(c P:Addr):Bool:=match K.lookup c with
 |some ⟨.type "code",_,.fields (vs:Array Value),_⟩=>(match(vs[11]?:OVl)with|some (.ref b)=>b==P|_=>false)&&(match vs.getD 18 .none with| .str _ _=>true|_=>false)&&(match vs.getD 7 .none with| .int _ _=>true|_=>false)&&(match vs.getD 9 .none with| .bool _=>true|_=>false)&&(match vs.getD 10 .none with| .int _ _=>true|_=>false)&& !(c==P)
 |_=>false
theorem qhw{K:Frg}{c P:Addr}(e:qgd K c P=true){h:Heap}(X:K.In h):PySem.W.CodeHd h c P:=by
 unfold qgd at e;split at e
 · rename_i d vs sl el
   simp only[wac]at e;obtain⟨⟨⟨⟨⟨e1,e2⟩,e3⟩,e4⟩,e5⟩,e6⟩:=e;have ne:c≠P:=by simpa using e6
   split at e1
   · rename_i b eb
     have ebP:b=P:=wa2 e1;subst ebP;have eg:vs.getD 11 .none= .ref b:=by simp only[Array.getD_eq_getD_getElem?];rw[eb];rfl
     split at e2
     · rename_i a2 t2 h2
       split at e3
       · rename_i a3 t3 h3
         split at e4
         · rename_i a4 h4
           split at e5
           · rename_i a5 t5 h5
             exact⟨_,vs,a2,t2,a3,t3,a4,a5,t5,X _ _ el,rfl,rfl,eb,eg,h2,h3,h4,h5,ne⟩
           · cases e5
         · cases e4
       · cases e3
     · cases e2
   · cases e1
 · cases e
noncomputable def bmB (K:Frg)(lP:Addr):Bool:=match PySem.W.nsIn K mainGlobals "__builtins__" with
 |some (some (.ref bm))=>!(bm==builtinsNs)&& !(bm==mainGlobals)&& !(bm==lP)&&(match K.lookup bm with
  |some ⟨.type "module",some n,.plain,_⟩=>n==builtinsNs
  |_=>false)
 |_=>false
theorem qxO{K:Frg}{lP:Addr}{h0 h:Heap}{mg:SOV}(X0:K.In h0)(G:h0.Ns mainGlobals mg)(e:bmB K lP=true)(X:K.In h):h.BuiltinsAt mg lP:=by
 unfold bmB at e;split at e
 · rename_i bm eb
   simp only[wac]at e;obtain⟨⟨⟨e1,e2⟩,e3⟩,e4⟩:=e;split at e4
   · rename_i n sl el
     cases wa2 e4;exact⟨bm,_,wa8 X0 G eb,by simpa using e1,by simpa using e2,by simpa using e3,X _ _ el,rfl,rfl,rfl⟩
   · cases e4
 · cases e
noncomputable def qAB (K:Frg)(S:SI)(lP:Addr)(d:FD)(D:FA):Bool:=!(decide (d.N=S.ln))||(decide ((D.q:Str)++(".<locals>.":Str)++("<lambda>":Str)=S.lq)&&qgd K D.c lP)
noncomputable def qrw (K:Frg)(S:SI)(C:Nat->Addr)(lP:Addr)(d:FD)(D:FA):Bool:=qAB K S lP d D&&qqS D.s&&PySem.W.codeIn K (.ref D.c) D.q&&PySem.W.keepIn K (.ref D.g)&&qkw d.N d.ps (qas D.s)&&decide (d.name=(D.n:Str))&&
 (match d.kind with
  |0=>qoV D.g (PySem.W.nsIn K mainGlobals d.name)
  |1=>qra K (C d.cls)&&qoV D.g (PySem.W.findIn K (.ref (C d.cls)) d.name)&&PySem.W.isFn K (.ref D.g)
  |2=>PySem.W.makesIn K (C d.cls)&&qoV D.g (PySem.W.findIn K (.ref (C d.cls)) "__init__")&&PySem.W.isFn K (.ref D.g)&&PySem.W.keepIn K (.ref (C d.cls))
  |_=>false)
theorem qtQ{K:Frg}{h:Heap}{mg:SOV}{S:SI}{C:Nat->Addr}{lP:Addr}{d:FD}{D:FA}(X:K.In h)(G:h.Ns mainGlobals mg)(b:qrw K S C lP d D=true)(l:K.lookup D.g=some D.fn)(m:mt S true d.N (qas D.s) d.body (.b (qcy D.s))=true)
 (hb:∀ us:LVl,us.length=d.ps.length->bindArgs (fdOf D) ⟨us,[]⟩=pure (d.ps.zip us)):HdF K mg S C lP d D.g (fdOf D):=by
 unfold qrw at b;simp only[wac,waQ]at b;obtain⟨⟨⟨⟨⟨⟨b0,b1⟩,b2⟩,b3⟩,b4⟩,b5⟩,b6⟩:=b;obtain⟨s1,s2⟩:=qmY b4;have lm:d.N=S.ln->(D.q:Str)++(".<locals>.":Str)++("<lambda>":Str)=S.lq/\∃ cc,(fdOf D).code= .ref cc/\∀ h:Heap,K.In h->PySem.W.CodeHd h cc lP:=fun z=>by
  unfold qAB at b0;rw[z]at b0;simp only[decide_true,Bool.not_true,Bool.false_or,wac,waQ]at b0;exact⟨b0.1,D.c,rfl,fun h X=>qhw b0.2 X⟩
 refine⟨⟨D.q,D.s,lm,b5 ▸ qtU b1 l b2 b3,s1,s2,m⟩,.all hb,fun k=>?_,fun k=>?_,fun k=>?_⟩
 · rw[k]at b6;exact wa8 X G (qeB b6)
 · rw[k]at b6
   simp only[wac]at b6;exact⟨qmk b6.1.1,⟨qeB b6.1.2,b6.2,b3⟩⟩
 · rw[k]at b6
   simp only[wac]at b6;exact⟨b6.1.1.1,qeB b6.1.1.2,b6.1.2,b6.2⟩
theorem qfy{α:Type}{f:α->Bool}{l:List α}(h:l.all f=true){x:α}(hx:x∈l):f x=true:=wap.mp h x hx
theorem qle{α β:Type}{f g:α->β}:∀ {l:List α},l.map f=l.map g->∀ {x:α},x∈l->f x=g x
 |y::l,h,x,hx=>by
  rw[wan,wan]at h;injection h with h1 h2
  rcases waH.mp hx with rfl|hx
  · exact h1
  · exact qle h2 hx
theorem lookup_mem{β:Type}{x:Str}{y:β}:∀ {l:List (Str×β)},l.lookup x=some y->(x,y)∈l
 |(k,z)::l,h=>by
  unfold List.lookup at h;split at h
  · rename_i e
    cases h;rw[wa2 e];exact .head _
  · exact .tail _ (lookup_mem h)
def kvA(l:List (Str×Addr)):LKR:=l.map fun p=>(.inr p.1,.ref p.2)
def wsA(l:List (Str×Addr)):List (Key×V):=l.map fun p=>(.inr p.1,.ref p.2)
theorem qAD:∀ l:List (Str×Addr),KV (wsA l) ((l.map fun p=>(p.1,Value.ref p.2)).map fun p=>((Sum.inr p.1:Key),p.2))
 | []=>.nil
 |(x,a)::r=>.cons ⟨rfl,rfl⟩ (qAD r)
theorem qos{K:Frg}{H:Hp}:∀ l:List (Str×Addr),RepP K H (kvA l) (wsA l)
 | []=>rfl
 |p::r=>⟨V.ref p.2,wsA r,rfl,by simp only[Rep],qos r⟩
theorem qnN{P:Program}{w:World}{K:Frg}{mg:SOV}{x:Str}{a:Addr}{es:Array DictEntry}{ep:Nat}{l:List (Str×Addr)}
 (hm:mg x=some (.ref a)) (lk:K.lookup a=some ⟨.type "dict",none,.dict es ep,#[]⟩) (ha:(a==sysModules)=false) (hr:qmJ w es.toList (l.map fun p=>(p.1,Value.ref p.2))) (hn:(l.map Prod.fst).Nodup):KTab P w K mg x (kvA l):=
 qlp hm lk ha hr (by rw[waG];exact hn) ⟨rfl,rfl,rfl⟩ (qAD l) fun H=>qos l
theorem qxh{P:Program}{w:World}{K:Frg}{h:Heap}{mg:SOV}{p:Prg}(X:K.In h)(G:h.Ns mainGlobals mg)
 (bl:(p.S.bl.all fun x=>qru (PySem.W.nsIn K mainGlobals x))=true) (gi:(p.S.gi.all fun x=>qu7 x.2 (PySem.W.nsIn K mainGlobals x.1))=true) (gt:(p.S.gt.all fun x=>quS K x.2 (PySem.W.nsIn K mainGlobals x.1))=true)
 (cl:(p.S.cl.zipIdx.all fun x=>qra K (p.C x.2)&&qoV (p.C x.2) (PySem.W.nsIn K mainGlobals x.1))=true) (fs:(p.S.fs.all fun x=>qra K (p.C x.1)&&qru (PySem.W.findIn K (.ref (p.C x.1)) x.2))=true)
 (tb:∀ x∈p.S.tb,KTab P w K mg x (p.tb x)) (tt:∀ x l,p.S.tt.lookup x=some l->qiL P w K mg x l) (fn:∀ d∈p.S.fd,∃ g fd,HdF K mg p.S p.C p.lP d g fd) (lm:∀ (i:Nat) d,p.S.fd[i]? =some d->d.N=p.S.ln->mainGlobals≠p.lP/\∀ h:Heap,K.In h->h.BuiltinsAt mg p.lP)
 (cv:∀ q∈p.cv,∃ d,p.S.fd[q.2]? =some d/\d.kind=0/\qoV q.1 (PySem.W.nsIn K mainGlobals d.name)=true):Hd P w K mg p where
 bl:=fun x hx=>PySem.W.mg_none_of X G (qlA (qfy bl hx))
 gi:=fun x i hx=>by
  obtain⟨t,e⟩:=qqL (qfy gi (lookup_mem hx));exact⟨t,wa8 X G e⟩
 gt:=fun x l hx=>qrL X G (qfy gt (lookup_mem hx))
 tb:=tb
 tt:=tt
 cl:=fun i c hi=>by
  have:=qfy cl (x:=(c,i)) (List.mk_mem_zipIdx_iff_getElem?.mpr hi);rw[wac]at this;exact⟨qmk this.1,wa8 X G (qeB this.2)⟩
 fs:=fun c f hx=>by
  have:=qfy fs hx;rw[wac]at this;exact⟨qmk this.1,qlA this.2⟩
 fns:=fun i d hi=>fn d (waF hi)
 lm:=lm
 cv:=fun q hq=>by
  obtain⟨d,a,b,c⟩:=cv q hq;exact⟨d,a,b,wa8 X G (qeB c)⟩
noncomputable def qj3 (K:Frg)(S:SI)(C:Nat->Addr)(lP:Addr)(n:Nat)(l:List (FD×FA)):Bool:=l.all fun x=>qrw K S C lP x.1 x.2&&decide (x.1.ps.length=n)&&mt S true x.1.N (qas x.2.s) x.1.body (.b (qcy x.2.s))
def qAT:Nat->(LVl->Prop)->Prop
 |0,p=>p []
 |n+1,p=>∀ v,qAT n fun l=>p (v::l)
theorem qa0:∀ {n:Nat} {p:LVl->Prop},qAT n p->∀ us,us.length=n->p us
 |0,_,h,[],_=>h
 |_+1,_,h,v::us,e=>qa0 (h v) us (Nat.succ.inj e)
abbrev uT(l:List (FD×FA))(n:Nat):Prop:=∀ us:LVl,us.length=n->l.map (fun x=>bindArgs (fdOf x.2) ⟨us,[]⟩)=l.map fun x=>pure (x.1.ps.zip us)
abbrev lT2(K:Frg)(l:List (FD×FA)):Prop:=l.map (fun x=>K.lookup x.2.g)=l.map fun x=>some x.2.fn
def fD(d:HD.DF):FA:=⟨d.n,d.q,d.s,d.a+6,d.a+5,d.pm⟩
theorem grp{K:Frg}{h:Heap}{mg:SOV}{S:SI}{C:Nat->Addr}{lP:Addr}{n:Nat}{l:List (FD×FA)}(X:K.In h)(G:h.Ns mainGlobals mg)(b:qj3 K S C lP n l=true)(k:lT2 K l)(u:uT l n):∀ x∈l,HdF K mg S C lP x.1 x.2.g (fdOf x.2):=fun x hx=>by
 have:=qfy b hx;simp only[wac,waQ]at this;exact qtQ X G this.1.1 (qle k hx) this.2 fun us hu=>qle (u us (hu.trans this.1.2)) hx
theorem qtV{K:Frg}{mg:SOV}{S:SI}{C:Nat->Addr}{lP:Addr}{l:List (FD×FA)}(e:S.fd=l.map (·.1))(h:∀ x∈l,HdF K mg S C lP x.1 x.2.g (fdOf x.2)):∀ d∈S.fd,∃ g fd,HdF K mg S C lP d g fd:=fun d hd=>by
 rw[e]at hd;obtain⟨x,hx,rfl⟩:=waE.mp hd;exact⟨_,_,h x hx⟩
theorem qbk{α:Type}{P:α->Prop}{a b:List α}(h1:∀ x∈a,P x)(h2:∀ x∈b,P x):∀ x∈a++b,P x:=fun x hx=>(wa1.mp hx).elim (h1 x) (h2 x)
section
variable {P:Program}{w:World}{K:Frg}{mg:SOV}
def itB:TK->LVl->Bool
 | [],[]=>true
 |k::ks,v::vs=>qu5 k v&&itB ks vs
 |_,_=>false
theorem qje:∀ {k:TK} {l:LVl},itB k l=true->ItemsAre (optKind P w) k l
 | [],[],_=>.nil
 |_::_,_::_,h=>.cons (qbL h).1 (qje (qbL h).2)
 | [],_::_,h=>by cases h
 |_::_,[],h=>by cases h
def qAG(y:Str):Value->Bool
 | .str z _=>y==z
 |_=>false
noncomputable def qvm:List (TK×Str)->List (TK×Addr×Value)->Bool
 | [],[]=>true
 |(k,y)::r,(k',_,v)::r'=>decide (k=k')&&qAG y v&&qvm r r'
 |_,_=>false
theorem qok:∀ {l:List (TK×Str)} {xs:List (TK×Addr×Value)},qvm l xs=true->quJ l xs
 | [],[],_=>trivial
 |(k,y)::r,(k',_,v)::r',h=>by
  obtain⟨h1,h2⟩:=qbL h;obtain⟨h3,h4⟩:=qbL h1;refine⟨wbb h3,?_,qok h2⟩;cases v<;>first|(cases h4;done)|skip
  rename_i z t;exact⟨t,by rw[show y=z by simpa[qAG]using h4]⟩
 | [],_::_,h=>by cases h
 |_::_,[],h=>by cases h
def tkO(ks:List (Option Str)):TK:=ks.map (Option.map Sum.inr)
noncomputable def quR (kt:List (List (Option Str)))(vt:LVl)(a:Addr):List (TK×Addr×Value):=(List.range kt.length).map fun k=>(tkO (kt.getD k []),a+1+k,vt.getD k .none)
theorem qnK{x:Str}{a:Addr}{kt:List (List (Option Str))}{vt:LVl}{tk:List (LVl)}{kvs:List (TK×Str)}{D:Obj}{hx:Option Str->Int}(hm:mg x=some (.ref a))(l:K.lookup a=some D)(ha:(a==sysModules)=false)
 (hD:D=⟨.type "dict",none,.dict ((List.range kt.length).map fun k=>(⟨reduceHash (Builtin.Tuple.tupleHashOf ((kt.getD k []).map hx)),.ref (a+1+k),vt.getD k .none⟩:DictEntry)).toArray kt.length,#[]⟩) (hh:∀ o:Option Str,hx o=okH w (o.map Sum.inr))
 (ht:((List.range kt.length).map fun k=>K.lookup (a+1+k))=(List.range kt.length).map fun k=>some (HD.tup (tk.getD k [])))
 (hb:((List.range kt.length).all fun k=>itB (tkO (kt.getD k [])) (tk.getD k []))=true) (hn:((quR kt vt a).map (·.1)).Nodup) (hv:qvm kvs (quR kt vt a)=true):qiL P w K mg x kvs:=by
 subst hD;refine qnL (xs:=quR kt vt a) hm l ha ⟨rfl,rfl,rfl⟩ ?_ (fun y hy=>?_) hn (qok hv)
 · unfold quR
   rw[waG];refine wbu fun k _=>?_
   have e:(kt.getD k []).map hx=(tkO (kt.getD k [])).map (okH w):=by unfold tkO;rw[waG];exact wbu fun o _=>hh o
   show(⟨reduceHash (Builtin.Tuple.tupleHashOf ((kt.getD k []).map hx)),_,_⟩:DictEntry)=_;rw[e];rfl
 · obtain⟨k,hk,rfl⟩:=waE.mp hy
   exact⟨_,_,_,List.map_inj_left.mp ht k hk,rfl,rfl,qje (wap.mp hb k hk)⟩
end
theorem qnv{α:Type}{x y:Str}{t l:α}(h:List.lookup x [(y,t)]=some l):x=y/\l=t:=by
 rw[waW]at h
 by_cases z:x=y
 · subst z;rw[beq_self_eq_true]at h;cases h;exact⟨rfl,rfl⟩
 · rw[show(x==y)=false by simpa using z]at h;cases h
open PySem.W
def qjG(P:Addr)(pos:Pos)(q:Str):RM:=fun b=>if b=P then some (.tb P pos q)else none
theorem qi2{P:Addr}{pos:Pos}{q:Str}:qjG P pos q P=some (.tb P pos q):=wag rfl
theorem qnu{P b:Addr}{pos:Pos}{q:Str}(h:b≠P):qjG P pos q b=none:=wad h
theorem qln{PR:Program}{w:World}{K:Frag}{mg mb:SOV}{k:Nat}{fa a T c:Addr}{pos:Pos}{q:Str}{fd:FuncData}{x:Str}{sp:RSp}{s₁:Shared}{vs:LVl}{ns:List Int}
 (KX:K.In s₁.heap) (hT:K.lookup T=none) (gT:s₁.heap.get? T=some (tabObj #[])) (C:CodeHd s₁.heap c T) (hns:s₁.heap.Ns mainGlobals mg) (hb:s₁.heap.Ns builtinsNs mb) (hbb:∀ x:Str,x≠"__name__"->mb x=bootBuiltins x) (hlim:s₁.heap.NoLimit) (hg:s₁.gens= #[])
 (ha:s₁.heap.get? a=some { cls:=.type "list",data:=.seq vs.toArray }) (hi:IntsAre vs ns) (hl:ns.length<=sizeLine) (hr:Room k callerA)
 (F:∀ base:Heap,K.In base->base.Ns mainGlobals mg->qc4 PR w K mg base CX0 k fa fd [x] (qfB K sp)) (hbind:∀ (s:Shared) (u:Value),BindsTo s fd ⟨[u],[]⟩ [(x,u)])
 (hsp:sp [.ls (ns.map RV.int)] (qjG T pos q) fun v M'=>v= .bl true/\M' T=some (.tb T pos q)):
 codeAny (model PR w) callerA (.call (.ref fa) ⟨[.ref a],[]⟩) (fun r s'=>r= .ok (.ret (.bool true))/\OldK s₁.heap s'.heap/\s'.os=s₁.os/\AllBare s'.gens) s₁:=by
 have rv:=L2.vals_ints hi;have lenV:=hi.length;have aT:a≠T:=fun z=>by rw[z,gT]at ha;cases ha
 have core:∀ H:Hp,H T=some (.ext (qgk T pos none))->Fz K H a (ns.map V.int)->HOk PR w H s₁.heap->(∀ b,H b≠none->b=T∨b=a/\∃ o u,H a=some (.frz o u))->(H a≠none->K.lookup a=none)->
  codeAny (model PR w) callerA (.call (.ref fa) ⟨[.ref a],[]⟩) (fun r s'=>r= .ok (.ret (.bool true))/\OldK s₁.heap s'.heap/\s'.os=s₁.os/\AllBare s'.gens) s₁:=by
  intro H hHT hS hok hA hK;have nd:∀ {b:Addr} {o:Obj} {es:Array DictEntry} {ep:Nat},s₁.heap.get? b=some o->o.data= .dict es ep->H b=none:=fun {b o es ep} e d=>by
   cases z:H b with
   |none=>rfl
   |some u=>
    rcases hA b (by rw[z];simp)with y|⟨y,_⟩
    · rw[y,gT]at e;cases e;cases d
    · rw[y,ha]at e;cases e
      have d':Data.seq vs.toArray _=Data.dict es ep:=d;cases d'
  have nsK:∀ {b:Addr} {m:SOV},s₁.heap.Ns b m->(qj2 s₁.heap H).Ns b m:=fun {b m} ⟨o,es,ep,e,d,r⟩=>⟨o,es,ep,qf4 e (nd e d),d,r⟩
  have hKb:K.In (qj2 s₁.heap H):=fun b o e=>qf4 (KX b o e) (by
   cases z:H b with
   |none=>rfl
   |some u=>
    rcases hA b (by rw[z];simp)with y|⟨y,_⟩
    · rw[y,hT]at e;cases e
    · rw[y,hK (by rw[<-y,z];simp)]at e;cases e)
  have hM:Mod K mg (qj2 s₁.heap H):=⟨hKb,nsK hns,⟨mb,nsK hb,hbb⟩,let⟨mc,h1,h2⟩:=hlim;⟨mc,nsK h1,h2⟩⟩;have e0:Env0 PR w K mg (qj2 s₁.heap H) callerA [] s₁ H:=⟨rfl,hM,fun b o e=>qk7 e,Nat.le_of_eq (qhk _ _),trivial,fun b hb=>waI (show b∈([]:List Addr)from hb) (by simp),hok,.of_eq hg⟩
  have up:qfB K sp [.ref a] H (fun v H'=>v= .bl true/\∃ o,H' T=some (.ext (qgk T pos o))) fun _ _ _=>False:=by
   refine⟨[.ls (ns.map RV.int)],qjG T pos q,fun v M'=>v= .bl true/\M' T=some (.tb T pos q),Reps.cons (by simp only[Rep];exact⟨a,_,rfl,hS,qee ns⟩) Reps.nil,fun b o e=>?_,hsp,fun rv M' v H' z _ w' r=>?_⟩
   · by_cases hb:b=T
     · subst hb;rw[qi2]at e;cases e;exact⟨_,hHT,.inl rfl⟩
     · rw[qnu hb]at e;cases e
   · obtain⟨rfl,z⟩:=z
     obtain⟨ho,e1,e2⟩:=w' T _ z;simp only[Rep]at r;rcases e2 with rfl|⟨c',_,_,_,rfl,_⟩
     · exact⟨r,none,e1⟩
     · exact⟨r,some c',e1⟩
  refine codeAny_mono ((F _ hKb (nsK hns)).run callerA [] s₁ H ⟨[.ref a],[]⟩ [.ref a] [.ref a] _ _ hr e0 (hbind s₁ (.ref a)) (.cons rfl .nil) up) fun r s' h=>?_
  cases r with
  |error e=>exact False.elim h
  |ok fl=>
   cases fl with
   |next=>exact False.elim h
   |brk=>exact False.elim h
   |cont=>exact False.elim h
   |ret u=>
    obtain⟨v,H',os,bare,un,hok',r',q',o,hT'⟩:=h;subst q';obtain rfl:u=Value.bool true:=r';have gT':qgk T pos o s'.heap:=(hok' T _ hT').1;refine⟨rfl,⟨fun b ob e=>?_,fun b ob e=>un.there b ob e (by simp)⟩,os,bare⟩
    cases z:H b with
    |none=>exact .inl (un.keep b ob e z (by intro z;exact waI (show b∈([]:List Addr)from z) (by simp)) (by simp))
    |some u=>
     rcases hA b (by rw[z];simp)with rfl|⟨rfl,ob',u',z'⟩
     · rw[gT]at e;cases e
       refine .inr (.inl ⟨(C.tab gT).isCodeTable,rfl,#[],match o with|none=>#[]|some c=>#[rawInt pos.line,rawInt pos.col,.ref c],rfl,?_⟩)
       cases o<;>exact gT'
     · have z2:=un.frzs b ob' u' z'
       have e1:=(hok b _ z').1;rw[e]at e1;cases e1;exact .inl (hok' b _ z2).1
 cases hk:K.lookup a with
 |some o=>
  have e:=KX a o hk;rw[ha]at e;cases e;refine core (fun b=>if b=T then some (.ext (qgk T pos none))else none) (wag rfl) (.inr ⟨_,vs.toArray,_,hk,rfl,rfl,rfl,by rw[wak,lenV];exact hl,by simpa using rv⟩) (fun b u z=>?_) (fun b z=>?_) fun z=>waI (wad aT) z
  · by_cases hb:b=T
    · subst hb;have z':=(wag rfl).symm.trans z;cases z';exact qko gT
    · have z':=(wad hb).symm.trans z;cases z'
  · by_cases hb:b=T
    · exact .inl hb
    · exact waI (wad hb) z
 |none=>
  refine core (fun b=>if b=T then some (.ext (qgk T pos none))else if b=a then some (.frz { cls:=.type "list",data:=.seq vs.toArray } (.lst (ns.map V.int)))else none) (wag rfl) (.inl ⟨_,(wad aT).trans (wag rfl)⟩) (fun b u z=>?_) (fun b z=>?_) fun _=>hk
  · by_cases hb:b=T
    · subst hb;have z':=(wag rfl).symm.trans z;cases z';exact qko gT
    · by_cases hb2:b=a
      · have z':=((wad hb).trans (wag hb2)).symm.trans z
        cases z';subst hb2;exact⟨ha,by rw[waj];exact hl,vs,_,rv,ha⟩
      · have z':=((wad hb).trans (wad hb2)).symm.trans z;cases z'
  · by_cases hb:b=T
    · exact .inl hb
    · by_cases hb2:b=a
      · exact .inr ⟨hb2,_,_,(wad aT).trans (wag rfl)⟩
      · exact waI ((wad hb).trans (wad hb2)) z
theorem walk_ofP{l:OpenLaw}{n k:Nat}{q:Program}{loose:LSt}{XP:(SOV)->Heap->Prop}{YP:World->Heap->Prop}{d:DefRec}{K:Params->Frag}{sp:RSp}{x:Str}{T c:Addr}{pos:Pos}{lq:Str}
 (hn:l.most=some n) (hn2:n<=sizeLine) (hdf:d.params.defaults= []) (hr:Room k callerA)
 (hY:∀ (w:World) (h:Heap),YP w h->(K w.params).In h/\h.get? T=some (tabObj #[])) (hT:∀ p,(K p).lookup T=none) (hC:∀ (p:Params) (h:Heap),(K p).In h->CodeHd h c T)
 (F:∀ (w:World) (mg:SOV) (fa:Addr) (h:Heap),(K w.params).In h->h.Ns mainGlobals mg->mg d.name=some (.ref fa)->
  ∃ fd:FuncData,(∀ (s:Shared) (u:Value),BindsTo s fd ⟨[u],[]⟩ [(x,u)])/\
   ∀ base:Heap,(K w.params).In base->base.Ns mainGlobals mg->qc4 l.prog w (K w.params) mg base CX0 k fa fd [x] (qfB (K w.params) sp))
 (hsp:∀ ns:List Int,ns.length<=n->sp [.ls (ns.map RV.int)] (qjG T pos lq) fun v M'=>v= .bl true/\M' T=some (.tb T pos lq)):
 WalkO q loose XP YP l.row.toRowW d [] (fun f vs=>PySem.call f vs):=by
 refine Att.attach_call hn hdf fun w s₀ s₁ mg mb fa o pm cd doc a vs ns G Y ho hd hcd hmg hobj hints hlen hg=>?_
 obtain⟨KX,gT⟩:=hY w _ Y;obtain⟨fd,hb,hF⟩:=F w mg fa _ KX G.T.g hmg;exact qln KX (hT _) gT (hC _ _ KX) G.T.g G.T.b G.T.builtins G.T.nolimit hg hobj hints (was hlen hn2) hr hF hb (hsp ns hlen)
end R
namespace H08
open PySem PySem.W PyProof.Rows HD
variable(P:Params)
abbrev p:=PySem.Challenge.pw_lentgate_k08_a_line_word_by_word
abbrev body:=behindTheImports p
abbrev top(i:Nat):Stmt:=qvt p i
def env:Env:={ scope:=p.main.scope,locals:=mainNs,globals:=mainNs,cells:=[],code:=.ref 13,frame:=some 14 }
def cd:Code:=.body body env
def ann:OVl:=some (.ref 6)
def q0:Pos:=⟨0,0,0,0⟩
def B:List Frame:=[topFrame q0]
abbrev wf(w:World)(b:Bool):World:=w.withFollow "special-get-raises" b
noncomputable section
abbrev pm0:Value:=.str "__main__" 164
abbrev pm1:Value:=.str "lentgate.ends" 194
abbrev pm2:Value:=.str "lentgate.forms" 475
abbrev pm3:Value:=.str "lentgate.lines" 565
abbrev pm4:Value:=.str "lentgate.rules" 711
abbrev pm5:Value:=.str "lentgate.pool" 794
abbrev pm6:Value:=.str "lentgate.talks" 894
abbrev pm7:Value:=.str "lentgate.gate" 1101
abbrev pm8:Value:=.str "law_lentgate_k08_a_line_word_by_word" 1436
noncomputable def cO (n q:Str)(a:Nat)(L k f:Int)(r:Nat)(b:Bool)(z:Value):Obj:=coO [.str n a,.str q (a+1),.str "/claim/cut.py" (a+2),.int L 0,.int k 0,.int 0 0,.int 0 0,.int f 0,.ref r,.bool b,.int 181 0,.ref (r+1),.none,.none,.none,z,.int ((a+3:Nat):Int) 0,.int L 0,.str "/claim/cut.py" (a+4)]
noncomputable def cC (n:Str)(a:Nat)(L:Int)(r:Nat):Obj:=cO n n a L 0 0 r false .none
noncomputable def cF (n q:Str)(a:Nat)(L k:Int)(r:Nat):Obj:=cO n q a L k 3 r true (.ref (r+2))
noncomputable def frO (b:Nat)(v:Value):Obj:=⟨.type "frame",none,.plain,#[some (.ref (b+3)),some (.ref 3),some (.ref b),none,some v,none,some (.ref 0)]⟩
noncomputable def clO (n:Str)(bs rs:LVl)(k:Nat)(sb:LVl)(x:OVl)(a b:Nat)(w:String):Obj:=⟨.type "type",none,.cls { name:=n,bases:=bs,mro:=.ref (k+1)::rs,ns:=k,qualname:=n,hasDict:=true,slotNames:=[],subclasses:=sb,abstract:=false,collection:=none,hasDel:=false },#[x,none,some (.str n a),some (.str n b),some (.builtin w),some (.bool true)]⟩
noncomputable def clP (n:Str)(k a:Nat):Obj:=clO n [.type "object"] [.type "object"] k [] none a (a+8) "object.__new__"
noncomputable def clE (n:Str)(b:Value)(rs:LVl)(k:Nat)(sb:LVl)(x a:Nat):Obj:=clO n [b] (rs++ [.type "ValueError",.type "Exception",.type "BaseException",.type "object"]) k sb (some (.ref x)) a (a+8) "ValueError.__new__"
noncomputable def gD (t r:Nat):Obj:=⟨.type "getset_descriptor",none,.fields #[.str "__dict__" t,.ref r,.builtin "function.__dict__",.builtin "function.__dict__#set"],#[]⟩
noncomputable def gW (t r:Nat):Obj:=⟨.type "getset_descriptor",none,.fields #[.str "__weakref__" t,.ref r,.builtin "ExceptionGroup.__weakref__",.none],#[]⟩
noncomputable def sU (r:Nat):Obj:=⟨.type "super",none,.fields #[.ref r,.ref r,.ref r],#[]⟩
noncomputable def iS (r:Nat):Obj:=⟨.type "builtin_function_or_method",none,.fields #[.builtin "object.__init_subclass__",.ref r],#[]⟩
noncomputable def lnV (c:Int)(l:List (Int×Nat)):LVl:=l.flatMap fun x=>[.int x.1 0,.int c 0,.ref x.2]
noncomputable def liO (l:List (Int×Nat)):Obj:=⟨.none,none,.fields (lnV 4 l).toArray,#[]⟩
noncomputable def rE (l:List (String×Nat×Nat)):List DictEntry:=l.map fun x=>e1 P x.1 x.2.1 (.ref x.2.2)
def nB(v:Value)(n:Str)(t:Nat)(L:Int)(l:List (String×Nat×Nat))(a b:Nat):Obj:=nsO ([e1 P "__module__" t v,e1 P "__qualname__" (t+2) (.str n (t+1)),e1 P "__firstlineno__" (t+4) (.int L (t+3))]++rE P l++ [e1 P "__static_attributes__" a (.ref b)]) (l.length+4)
def nA(v:Value)(t:Nat)(L:Int)(l:List (String×Nat×Nat))(a b:Nat)(es:List DictEntry)(k:Nat):Obj:=nsO ([e1 P "__module__" t v,e1 P "__firstlineno__" (t+4) (.int L (t+3))]++rE P l++ [e1 P "__static_attributes__" a (.ref b)]++es) k
def nF(v:Value)(t:Nat)(L:Int)(l:List (String×Nat×Nat))(a b:Nat):Obj:=nA P v t L l a b [e1 P "__dict__" (a+2) (.ref (b+3)),e1 P "__weakref__" (a+4) (.ref (b+4)),e1 P "__doc__" (a+5) .none] 4
def ns:List DictEntry:=[e1 P "__name__" 165 pm8,e1 P "__doc__" 166 (.none),e1 P "__package__" 167 (.none),e1 P "__loader__" 168 (.builtin "__main__.__loader__#opaque"),e1 P "__spec__" 169 (.none),e1 P "__annotations__" 170 (.ref 6),e1 P "__builtins__" 171 (.ref 4),e1 P "__file__" 173 (.str "/claim/cut.py" 172),e1 P "__cached__" 174 (.none),e1 P "_wall" 193 (.ref 21),e1 P "GREATEST_HOUSE" 197 (.int 99 196),e1 P "GREATEST_DOOR" 199 (.int 9999 198),e1 P "GREATEST_PLACE" 201 (.int 1000000 200),e1 P "GREATEST_TICKS" 203 (.int 1000000 202),e1 P "GREATEST_RULE" 205 (.int 1000000 204),e1 P "MOST_SIGNS" 207 (.int 40 206),e1 P "FIRST_SIGN" 209 (.int 32 208),e1 P "LAST_SIGN" 211 (.int 126 210),e1 P "PERCENT_SIGN" 213 (.int 37 212),e1 P "KINDS" 216 (.ref 22),e1 P "NOTE_WORDS" 218 (.ref 23),e1 P "LINE_WORDS" 223 (.ref 24),e1 P "is_whole" 230 (.ref 31),e1 P "is_whole_within" 239 (.ref 38),e1 P "is_house" 246 (.ref 45),e1 P "is_door" 253 (.ref 52),e1 P "is_place" 260 (.ref 59),e1 P "is_outer_place" 267 (.ref 66),e1 P "is_ticks" 274 (.ref 73),e1 P "is_kind" 281 (.ref 80),e1 P "is_word" 289 (.ref 87),e1 P "is_sign" 297 (.ref 94),e1 P "is_text" 303 (.ref 99),e1 P "is_letter" 312 (.ref 106),e1 P "is_out" 326 (.ref 113),e1 P "is_come" 339 (.ref 120),e1 P "is_lost" 351 (.ref 127),e1 P "is_wait" 358 (.ref 134),e1 P "is_rule" 370 (.ref 141),e1 P "is_unrule" 377 (.ref 148),e1 P "DEEDS" 390 (.ref 149),e1 P "name_of" 397 (.ref 156),e1 P "is_deed" 406 (.ref 163),e1 P "GateError" 426 (.ref 173),e1 P "NoForm" 442 (.ref 186),e1 P "NoDeed" 458 (.ref 198),e1 P "NoRule" 474 (.ref 210),e1 P "LENDINGS" 480 (.ref 213),e1 P "SIEVES" 484 (.ref 214),e1 P "PICKS" 487 (.ref 215),e1 P "WIDEST_STEP" 489 (.int 199 488),e1 P "GREATEST_MOST" 491 (.int 200 490),e1 P "GREATEST_TIME" 493 (.int 1000000 492),e1 P "TIME_AT" 512 (.ref 216),e1 P "is_pool" 520 (.ref 223),e1 P "is_times" 526 (.ref 228),e1 P "is_form" 541 (.ref 235),e1 P "holder_of" 555 (.ref 242),e1 P "time_of" 564 (.ref 249),e1 P "LINE_STEPS" 677 (.ref 250),e1 P "BREAKABLE" 683 (.ref 265),e1 P "note_state" 691 (.ref 272),e1 P "line_state" 700 (.ref 279),e1 P "next_state" 710 (.ref 286),e1 P "Rules" 793 (.ref 338),e1 P "Pool" 893 (.ref 411),e1 P "Talk" 930 (.ref 432),e1 P "Talks" 1100 (.ref 552),e1 P "talk_row" 1114 (.ref 563),e1 P "Gate" 1435 (.ref 765),e1 P "_law_cell" 1445 (.ref 776),e1 P "_law_well" 1453 (.ref 783),e1 P "_law_take" 1464 (.ref 790),e1 P "_law_bag_at" 1473 (.ref 797),e1 P "_law_step" 1486 (.ref 804),e1 P "_law_a_form" 1498 (.ref 811),e1 P "_law_house" 1511 (.ref 818),e1 P "_law_far" 1526 (.ref 825),e1 P "_law_shown" 1537 (.ref 832),e1 P "law" 1553 (.ref 839)]
def tb:LVl:=lnV 0 [(1,20),(17,30),(19,37),(21,44),(23,51),(25,58),(27,65),(29,72),(31,79),(33,86),(37,93),(40,98),(44,105),(46,112),(51,119),(56,126),(61,133),(63,140),(70,147),(73,155),(77,162),(84,169),(86,182),(88,194),(90,206),(100,222),(102,227),(107,234),(116,241),(124,248),(130,271),(134,278),(138,285),(143,292),(171,348),(215,421),(222,442),(305,562),(308,569),(479,775),(483,782),(487,789),(497,796),(503,803),(517,810),(524,817),(539,824),(561,831),(570,838)]
abbrev d15:=df "_wall" "_wall" (top 0) 15 187 1 1 ["k"] pm0
abbrev d25:=df "is_whole" "is_whole" (top 14) 25 224 17 1 ["thing"] pm1
abbrev d32:=df "is_whole_within" "is_whole_within" (top 15) 32 231 19 3 ["thing","least","greatest"] pm1
abbrev d39:=df "is_house" "is_house" (top 16) 39 240 21 1 ["thing"] pm1
abbrev d46:=df "is_door" "is_door" (top 17) 46 247 23 1 ["thing"] pm1
abbrev d53:=df "is_place" "is_place" (top 18) 53 254 25 1 ["thing"] pm1
abbrev d60:=df "is_outer_place" "is_outer_place" (top 19) 60 261 27 1 ["thing"] pm1
abbrev d67:=df "is_ticks" "is_ticks" (top 20) 67 268 29 1 ["thing"] pm1
abbrev d74:=df "is_kind" "is_kind" (top 21) 74 275 31 1 ["thing"] pm1
abbrev d81:=df "is_word" "is_word" (top 22) 81 282 33 2 ["kind","thing"] pm1
abbrev d88:=df "is_sign" "is_sign" (top 23) 88 290 37 1 ["sign","at"] pm1
abbrev d100:=df "is_letter" "is_letter" (top 25) 100 304 44 3 ["kind","word","text"] pm1
abbrev d107:=df "is_out" "is_out" (top 26) 107 313 46 1 ["parts","kind","house","door","place","far","word","text"] pm1
abbrev d114:=df "is_come" "is_come" (top 27) 114 327 51 1 ["parts","kind","place","far","number","word","text"] pm1
abbrev d121:=df "is_lost" "is_lost" (top 28) 121 340 56 1 ["parts","teller","kind","number","place","far"] pm1
abbrev d128:=df "is_wait" "is_wait" (top 29) 128 352 61 1 ["parts"] pm1
abbrev d135:=df "is_rule" "is_rule" (top 30) 135 359 63 1 ["parts","kind","number","place","house","door"] pm1
abbrev d142:=df "is_unrule" "is_unrule" (top 31) 142 371 70 1 ["parts"] pm1
abbrev d150:=df "name_of" "name_of" (top 33) 150 391 73 1 ["thing"] pm1
abbrev d157:=df "is_deed" "is_deed" (top 34) 157 398 77 1 ["thing","name","has_parts"] pm1
abbrev d217:=df "is_pool" "is_pool" (top 48) 217 513 100 2 ["low","high"] pm2
abbrev d229:=df "is_form" "is_form" (top 50) 229 527 107 1 ["thing","low","high","lending","sieve","pick","most","renew","times"] pm2
abbrev d236:=df "holder_of" "holder_of" (top 51) 236 542 116 2 ["form","inner","kind","house","door","place","far","lending"] pm2
abbrev d243:=df "time_of" "time_of" (top 52) 243 556 124 2 ["form","state","times"] pm2
abbrev d266:=df "note_state" "note_state" (top 56) 266 684 130 2 ["state","word"] pm3
abbrev d273:=df "line_state" "line_state" (top 57) 273 692 134 3 ["state","side","word"] pm3
abbrev d280:=df "next_state" "next_state" (top 58) 280 701 138 4 ["kind","state","side","word"] pm3
abbrev d294:=df "__init__" "Rules.__init__" (sub (top 60) 0) 294 725 145 1 ["self"] pm4
abbrev d301:=df "tell" "Rules.tell" (sub (top 60) 1) 301 732 149 6 ["self","kind","number","place","house","door","told"] pm4
abbrev d308:=df "stands" "Rules.stands" (sub (top 60) 2) 308 745 155 2 ["self","k"] pm4
abbrev d315:=df "drop" "Rules.drop" (sub (top 60) 3) 315 753 158 2 ["self","k"] pm4
abbrev d322:=df "door_for" "Rules.door_for" (sub (top 60) 4) 322 761 161 4 ["self","kind","number","place","rule_kind","rule_number","rule_place","house","door","fits_place"] pm4
abbrev d329:=df "listed" "Rules.listed" (sub (top 60) 5) 329 777 168 1 ["self"] pm4
abbrev d350:=df "__init__" "Pool.__init__" (sub (top 62) 0) 350 808 173 3 ["self","low","high"] pm5
abbrev d357:=df "has" "Pool.has" (sub (top 62) 1) 357 817 180 2 ["self","number"] pm5
abbrev d364:=df "is_free" "Pool.is_free" (sub (top 62) 2) 364 825 183 3 ["self","number","moment"] pm5
abbrev d371:=df "from_mark" "Pool.from_mark" (sub (top 62) 3) 371 834 188 1 ["self"] pm5
abbrev d378:=df "picked" "Pool.picked" (sub (top 62) 4) 378 841 191 4 ["self","pick","door","moment","number"] pm5
abbrev d385:=df "take" "Pool.take" (sub (top 62) 5) 385 852 199 2 ["self","number"] pm5
abbrev d392:=df "give" "Pool.give" (sub (top 62) 6) 392 860 205 3 ["self","number","until"] pm5
abbrev d423:=df "__init__" "Talk.__init__" (sub (top 64) 0) 423 908 217 5 ["self","inner","number","state","over"] pm6
abbrev d444:=df "__init__" "Talks.__init__" (sub (top 65) 0) 444 943 224 2 ["self","form"] pm6
abbrev d451:=df "of_inner" "Talks.of_inner" (sub (top 65) 1) 451 951 233 2 ["self","inner"] pm6
abbrev d458:=df "of_outer" "Talks.of_outer" (sub (top 65) 2) 458 959 236 5 ["self","kind","number","place","far"] pm6
abbrev d470:=df "living" "Talks.living" (sub (top 65) 4) 470 976 244 1 ["self"] pm6
abbrev d477:=df "is_living" "Talks.is_living" (sub (top 65) 5) 477 983 247 2 ["self","talk"] pm6
abbrev d484:=df "number_of" "Talks.number_of" (sub (top 65) 6) 484 991 250 2 ["self","inner"] pm6
abbrev d491:=df "holder_at" "Talks.holder_at" (sub (top 65) 7) 491 999 253 2 ["self","number"] pm6
abbrev d503:=df "lent_until" "Talks.lent_until" (sub (top 65) 9) 503 1013 259 2 ["self","number"] pm6
abbrev d510:=df "lend" "Talks.lend" (sub (top 65) 10) 510 1021 262 3 ["self","number","inner","holder"] pm6
abbrev d517:=df "end_lend" "Talks.end_lend" (sub (top 65) 11) 517 1031 268 3 ["self","number","moment"] pm6
abbrev d524:=df "begin" "Talks.begin" (sub (top 65) 12) 524 1040 273 4 ["self","inner","number","state","kind","house","door","place","far","talk"] pm6
abbrev d531:=df "lead" "Talks.lead" (sub (top 65) 13) 531 1056 281 3 ["self","talk","state"] pm6
abbrev d538:=df "end" "Talks.end" (sub (top 65) 14) 538 1065 288 3 ["self","talk","moment","kind","house","door","place","far","number"] pm6
abbrev d557:=df "talk_row" "talk_row" (top 67) 557 1103 305 1 ["talk","kind","house","door","place","far"] pm7
abbrev d571:=df "__init__" "Gate.__init__" (sub (top 68) 0) 571 1127 310 2 ["self","form"] pm7
abbrev d578:=df "deed" "Gate.deed" (sub (top 68) 1) 578 1135 319 2 ["self","deed","answer"] pm7
abbrev d585:=df "out" "Gate.out" (sub (top 68) 2) 585 1144 326 8 ["self","kind","house","door","place","far","word","text"] pm7
abbrev d592:=df "come" "Gate.come" (sub (top 68) 3) 592 1158 329 7 ["self","kind","place","far","number","word","text"] pm7
abbrev d599:=df "lost" "Gate.lost" (sub (top 68) 4) 599 1171 332 6 ["self","teller","kind","number","place","far"] pm7
abbrev d606:=df "wait" "Gate.wait" (sub (top 68) 5) 606 1183 335 2 ["self","ticks"] pm7
abbrev d613:=df "rule" "Gate.rule" (sub (top 68) 6) 613 1191 338 6 ["self","kind","number","place","house","door"] pm7
abbrev d620:=df "unrule" "Gate.unrule" (sub (top 68) 7) 620 1203 341 2 ["self","k"] pm7
abbrev d627:=df "moment" "Gate.moment" (sub (top 68) 8) 627 1211 344 1 ["self"] pm7
abbrev d634:=df "free" "Gate.free" (sub (top 68) 9) 634 1218 347 1 ["self"] pm7
abbrev d651:=df "rests" "Gate.rests" (sub (top 68) 12) 651 1237 356 1 ["self"] pm7
abbrev d658:=df "rules" "Gate.rules" (sub (top 68) 13) 658 1244 359 1 ["self"] pm7
abbrev d665:=df "book" "Gate.book" (sub (top 68) 14) 665 1251 362 1 ["self"] pm7
abbrev d672:=df "answered" "Gate.answered" (sub (top 68) 15) 672 1258 365 3 ["self","name","parts","kind","place","far","number","word","text"] pm7
abbrev d679:=df "sent" "Gate.sent" (sub (top 68) 16) 679 1273 380 2 ["self","parts","kind","house","door","place","far","word","text","answer","number"] pm7
abbrev d686:=df "lead_out" "Gate.lead_out" (sub (top 68) 17) 686 1290 388 3 ["self","inner","word","talk","state"] pm7
abbrev d693:=df "begin_out" "Gate.begin_out" (sub (top 68) 18) 693 1301 398 3 ["self","inner","state","number"] pm7
abbrev d700:=df "picked_for" "Gate.picked_for" (sub (top 68) 19) 700 1311 410 2 ["self","door","pool","now"] pm7
abbrev d707:=df "come_in" "Gate.come_in" (sub (top 68) 20) 707 1321 416 6 ["self","kind","place","far","number","word","talk"] pm7
abbrev d714:=df "lead_in" "Gate.lead_in" (sub (top 68) 21) 714 1334 424 3 ["self","talk","word","kind","house","door","place","far","state","renew"] pm7
abbrev d721:=df "sifted" "Gate.sifted" (sub (top 68) 22) 721 1350 434 4 ["self","kind","place","number","holder"] pm7
abbrev d728:=df "lets_note_in" "Gate.lets_note_in" (sub (top 68) 23) 728 1361 442 3 ["self","place","number","sieve"] pm7
abbrev d735:=df "come_by_rule" "Gate.come_by_rule" (sub (top 68) 24) 735 1371 446 6 ["self","kind","place","far","number","word","to","house","door","state","inner"] pm7
abbrev d742:=df "told_lost" "Gate.told_lost" (sub (top 68) 25) 742 1388 460 2 ["self","parts","teller","kind","number","place","far","talk"] pm7
abbrev d749:=df "rule_told" "Gate.rule_told" (sub (top 68) 26) 749 1402 467 2 ["self","parts","kind","number","place","house","door"] pm7
abbrev d756:=df "rule_dropped" "Gate.rule_dropped" (sub (top 68) 27) 756 1415 473 2 ["self","k"] pm7
abbrev d770:=df "_law_cell" "_law_cell" (top 70) 770 1438 479 2 ["script","k"] pm8
abbrev d777:=df "_law_well" "_law_well" (top 71) 777 1446 483 2 ["cell","turn"] pm8
abbrev d784:=df "_law_take" "_law_take" (top 72) 784 1454 487 2 ["bag","many","found","p","n"] pm8
abbrev d791:=df "_law_bag_at" "_law_bag_at" (top 73) 791 1465 497 2 ["cells","k","bag"] pm8
abbrev d798:=df "_law_step" "_law_step" (top 74) 798 1474 503 4 ["kind","state","side","word","rows","row","one"] pm8
abbrev d805:=df "_law_a_form" "_law_a_form" (top 75) 805 1487 517 1 ["bag","low","times","lending","sieve","pick"] pm8
abbrev d812:=df "_law_house" "_law_house" (top 76) 812 1499 524 4 ["own","gate","form","word","inner","state","found"] pm8
abbrev d819:=df "_law_far" "_law_far" (top 77) 819 1512 539 5 ["own","gate","form","word","by_rule","inner","number","found","state"] pm8
abbrev d826:=df "_law_shown" "_law_shown" (top 78) 826 1527 561 3 ["own","gate","form","inner","time"] pm8
abbrev d833:=df "law" "law" (top 79) 833 1538 570 1 ["script","form","bag","inner","own","gate","cells","k","word","way"] pm8
def v7:Obj:=tup []
def v13:Obj:=cC "<module>" 182 1 11
noncomputable def v14:Obj:=⟨.type "frame",none,.plain,#[some (.ref 13),some (.ref 3),some (.ref 3),none,some pm0,none,some (.ref 0)]⟩
def v35:Obj:=tup [.str "note" 214,.str "line" 215]
def v37:Obj:=tup [.str "say" 217]
def v39:Obj:=tup [.str "open" 219,.str "say" 220,.str "close" 221,.str "break" 222]
noncomputable def v8:Obj:=⟨.none,none,.fields #[],#[]⟩
def qB2:Obj:=tfO "is_text" "is_text" (top 24)
def qz2:Obj:=cF "is_text" "is_text" 298 40 1 95
def qz1:Obj:=fnO "is_text" "is_text" (top 24) pm1 (.ref 98)
def v201:Obj:=nsO (rE P [("out",378,113),("come",379,120),("lost",380,127),("wait",381,134),("rule",382,141),("unrule",383,148)]) 6
def qz0:Obj:=tup [.type "ValueError"]
noncomputable def qgj:Obj:=⟨.type "builtin_function_or_method",none,.fields #[.builtin "type.__prepare__",.type "type"],#[]⟩
def qzZ:Obj:=nB P (.str "lentgate.errors" 407) "GateError" 416 84 [] 421 171
def qzY:Obj:=cC "GateError" 411 84 167
def qzX:Obj:=frO 166 (.str "lentgate.errors" 407)
def qzW:Obj:=nA P (.str "lentgate.errors" 407) 416 84 [] 421 171 [e1 P "__weakref__" 423 (.ref 174),e1 P "__doc__" 424 (.none)] 3
def qB1:Obj:=clE "GateError" (.type "ValueError") [] 172 [] 164 409
def qzV:Obj:=gW 422 173
def qzU:Obj:=sU 173
def qzT:Obj:=iS 173
def qB0:Obj:=clE "GateError" (.type "ValueError") [] 172 [.ref 186] 164 409
def qro:Obj:=tup [.ref 173]
def qzS:Obj:=nB P (.str "lentgate.errors" 407) "NoForm" 434 86 [] 439 184
def qzR:Obj:=cC "NoForm" 429 86 180
def qzQ:Obj:=frO 179 (.str "lentgate.errors" 407)
def qzP:Obj:=nA P (.str "lentgate.errors" 407) 434 86 [] 439 184 [e1 P "__doc__" 440 (.none)] 2
def qzO:Obj:=clE "NoForm" (.ref 173) [.ref 173] 185 [] 177 427
def qzN:Obj:=sU 186
def qzM:Obj:=iS 186
def qBZ:Obj:=clE "GateError" (.type "ValueError") [] 172 [.ref 186,.ref 198] 164 409
def qzL:Obj:=nB P (.str "lentgate.errors" 407) "NoDeed" 450 88 [] 455 196
def qzK:Obj:=cC "NoDeed" 445 88 192
def qzJ:Obj:=frO 191 (.str "lentgate.errors" 407)
def qzI:Obj:=nA P (.str "lentgate.errors" 407) 450 88 [] 455 196 [e1 P "__doc__" 456 (.none)] 2
def qzH:Obj:=clE "NoDeed" (.ref 173) [.ref 173] 197 [] 189 443
def qzG:Obj:=sU 198
def qzF:Obj:=iS 198
def qzE:Obj:=clE "GateError" (.type "ValueError") [] 172 [.ref 186,.ref 198,.ref 210] 164 409
def qzD:Obj:=nB P (.str "lentgate.errors" 407) "NoRule" 466 90 [] 471 208
def qzC:Obj:=cC "NoRule" 461 90 204
def qzB:Obj:=frO 203 (.str "lentgate.errors" 407)
def qzA:Obj:=nA P (.str "lentgate.errors" 407) 466 90 [] 471 208 [e1 P "__doc__" 472 (.none)] 2
def qzz:Obj:=clE "NoRule" (.ref 173) [.ref 173] 209 [] 201 459
def qzy:Obj:=sU 210
def qzx:Obj:=iS 210
def qzw:Obj:=tup [.str "door" 477,.str "place" 478,.str "talk" 479]
def qzv:Obj:=tup [.str "all" 481,.str "place" 482,.str "talk" 483]
def qzu:Obj:=tup [.str "next" 485,.str "keep" 486]
def v292:Obj:=nsO [e1 P "note" 494 (.int 0 495),e1 P "asked" 496 (.int 1 497),e1 P "called" 498 (.int 1 499),e1 P "up" 500 (.int 2 501),e1 P "near" 502 (.int 2 503),e1 P "far" 504 (.int 2 505)] 6
def qBY:Obj:=tfO "is_times" "is_times" (top 49)
def qzt:Obj:=cF "is_times" "is_times" 521 102 1 224
def qzs:Obj:=fnO "is_times" "is_times" (top 49) pm2 (.ref 227)
def qzr:Obj:=tup [.str "house" 567,.none,.str "open" 568]
def qzq:Obj:=tup [.str "house" 570,.str "asked" 571,.str "open" 572]
def qzp:Obj:=tup [.str "house" 574,.str "called" 575,.str "open" 576]
def qzo:Obj:=tup [.str "house" 578,.str "up" 579,.str "say" 580]
def qzn:Obj:=tup [.str "house" 582,.str "far" 583,.str "say" 584]
def qzm:Obj:=tup [.str "house" 586,.str "up" 587,.str "close" 588]
def qzl:Obj:=tup [.str "house" 590,.str "far" 591,.str "close" 592]
def qzk:Obj:=tup [.str "far" 594,.none,.str "open" 595]
def qzj:Obj:=tup [.str "far" 597,.str "called" 598,.str "open" 599]
def qzi:Obj:=tup [.str "far" 601,.str "asked" 602,.str "open" 603]
def qzh:Obj:=tup [.str "far" 605,.str "up" 606,.str "say" 607]
def qzg:Obj:=tup [.str "far" 609,.str "near" 610,.str "say" 611]
def qzf:Obj:=tup [.str "far" 613,.str "up" 614,.str "close" 615]
def qze:Obj:=tup [.str "far" 617,.str "near" 618,.str "close" 619]
def qzd:Obj:=tup [.str "asked" 678,.str "called" 679,.str "up" 680,.str "near" 681,.str "far" 682]
noncomputable def quQ:List (String×Nat×Nat):=[("__init__",731,300),("tell",744,307),("stands",752,314),("drop",760,321),("door_for",776,328),("listed",783,335)]
def qzc:Obj:=nB P pm4 "Rules" 720 143 quQ 786 336
def qBX:Obj:=liO [(145,299),(149,306),(155,313),(158,320),(161,327),(168,334)]
def qzb:Obj:=cC "Rules" 715 143 290
def qza:Obj:=frO 289 pm4
def qy9:Obj:=tup [.str "many_told" 784,.str "standing" 785]
def qy8:Obj:=nF P pm4 720 143 quQ 786 336
def qy7:Obj:=clP "Rules" 337 713
def qy6:Obj:=gD 787 338
def qy5:Obj:=gW 789 338
def qy4:Obj:=sU 338
def qy3:Obj:=iS 338
noncomputable def quP:List (String×Nat×Nat):=[("__init__",816,356),("has",824,363),("is_free",833,370),("from_mark",840,377),("picked",851,384),("take",859,391),("give",868,398),("resting",874,403),("many_free",880,408)]
def qy2:Obj:=nB P pm5 "Pool" 803 171 quP 886 409
def qBW:Obj:=liO [(173,355),(180,362),(183,369),(188,376),(191,383),(199,390),(205,397),(209,402),(212,407)]
def qy1:Obj:=cC "Pool" 798 171 346
def qy0:Obj:=frO 345 pm5
def qBV:Obj:=tfO "resting" "Pool.resting" (sub (top 62) 7)
def qyZ:Obj:=cF "resting" "Pool.resting" 869 209 2 399
def qyY:Obj:=fnO "resting" "Pool.resting" (sub (top 62) 7) pm5 (.ref 402)
def qBU:Obj:=tfO "many_free" "Pool.many_free" (sub (top 62) 8)
def qyX:Obj:=cF "many_free" "Pool.many_free" 875 212 2 404
def qyW:Obj:=fnO "many_free" "Pool.many_free" (sub (top 62) 8) pm5 (.ref 407)
def qyV:Obj:=tup [.str "high" 881,.str "low" 882,.str "mark" 883,.str "taken" 884,.str "until" 885]
def qyU:Obj:=nF P pm5 803 171 quP 886 409
def qyT:Obj:=clP "Pool" 410 796
def qyS:Obj:=gD 887 411
def qyR:Obj:=gW 889 411
def qyQ:Obj:=sU 411
def qyP:Obj:=iS 411
noncomputable def quO:List (String×Nat×Nat):=[("__init__",918,429)]
def qyO:Obj:=nB P pm6 "Talk" 903 215 quO 923 430
def qBT:Obj:=liO [(217,428)]
def qyN:Obj:=cC "Talk" 898 215 419
def qyM:Obj:=frO 418 pm6
def qyL:Obj:=tup [.str "inner" 919,.str "number" 920,.str "over" 921,.str "state" 922]
def qyK:Obj:=nF P pm6 903 215 quO 923 430
def qyJ:Obj:=clP "Talk" 431 896
def qyI:Obj:=gD 924 432
def qyH:Obj:=gW 926 432
def qyG:Obj:=sU 432
def qyF:Obj:=iS 432
noncomputable def quN:List (String×Nat×Nat):=[("__init__",950,450),("of_inner",958,457),("of_outer",969,464),("is_with",975,469),("living",982,476),("is_living",990,483),("number_of",998,490),("holder_at",1006,497),("held",1012,502),("lent_until",1020,509),("lend",1030,516),("end_lend",1039,523),("begin",1055,530),("lead",1064,537),("end",1079,544),("pass_by",1085,549)]
def qyE:Obj:=nB P pm6 "Talks" 938 222 quN 1093 550
def qBS:Obj:=liO [(224,449),(233,456),(236,463),(241,468),(244,475),(247,482),(250,489),(253,496),(256,501),(259,508),(262,515),(268,522),(273,529),(281,536),(288,543),(299,548)]
def qyD:Obj:=cC "Talks" 933 222 440
def qyC:Obj:=frO 439 pm6
def qBR:Obj:=tfO "is_with" "Talks.is_with" (sub (top 65) 3)
def qyB:Obj:=cF "is_with" "Talks.is_with" 970 241 3 465
def qyA:Obj:=fnO "is_with" "Talks.is_with" (sub (top 65) 3) pm6 (.ref 468)
def qBQ:Obj:=tfO "held" "Talks.held" (sub (top 65) 8)
def qyz:Obj:=cF "held" "Talks.held" 1007 256 2 498
def qyy:Obj:=fnO "held" "Talks.held" (sub (top 65) 8) pm6 (.ref 501)
def qBP:Obj:=tfO "pass_by" "Talks.pass_by" (sub (top 65) 15)
def qyx:Obj:=cF "pass_by" "Talks.pass_by" 1080 299 2 545
def qyw:Obj:=fnO "pass_by" "Talks.pass_by" (sub (top 65) 15) pm6 (.ref 548)
def qyv:Obj:=tup [.str "by_inner" 1086,.str "by_number" 1087,.str "form" 1088,.str "holders" 1089,.str "now" 1090,.str "numbers" 1091,.str "pool" 1092]
def qyu:Obj:=nF P pm6 938 222 quN 1093 550
def qyt:Obj:=clP "Talks" 551 931
def qys:Obj:=gD 1094 552
def qyr:Obj:=gW 1096 552
def qyq:Obj:=sU 552
def qyp:Obj:=iS 552
noncomputable def quM:List (String×Nat×Nat):=[("__init__",1134,577),("deed",1143,584),("out",1157,591),("come",1170,598),("lost",1182,605),("wait",1190,612),("rule",1202,619),("unrule",1210,626),("moment",1217,633),("free",1224,640),("lends",1230,645),("talks",1236,650),("rests",1243,657),("rules",1250,664),("book",1257,671),("answered",1272,678),("sent",1289,685),("lead_out",1300,692),("begin_out",1310,699),("picked_for",1320,706),("come_in",1333,713),("lead_in",1349,720),("sifted",1360,727),("lets_note_in",1370,734),("come_by_rule",1387,741),("told_lost",1401,748),("rule_told",1414,755),("rule_dropped",1422,762)]
def qyo:Obj:=nB P pm7 "Gate" 1122 308 quM 1428 763
def qBO:Obj:=liO [(310,576),(319,583),(326,590),(329,597),(332,604),(335,611),(338,618),(341,625),(344,632),(347,639),(350,644),(353,649),(356,656),(359,663),(362,670),(365,677),(380,684),(388,691),(398,698),(410,705),(416,712),(424,719),(434,726),(442,733),(446,740),(460,747),(467,754),(473,761)]
def qyn:Obj:=cC "Gate" 1117 308 567
def qym:Obj:=frO 566 pm7
def qBN:Obj:=tfO "lends" "Gate.lends" (sub (top 68) 10)
def qyl:Obj:=cF "lends" "Gate.lends" 1225 350 1 641
def qyk:Obj:=fnO "lends" "Gate.lends" (sub (top 68) 10) pm7 (.ref 644)
def qBM:Obj:=tfO "talks" "Gate.talks" (sub (top 68) 11)
def qyj:Obj:=cF "talks" "Gate.talks" 1231 353 1 646
def qyi:Obj:=fnO "talks" "Gate.talks" (sub (top 68) 11) pm7 (.ref 649)
def qyh:Obj:=tup [.str "done" 1423,.str "form" 1424,.str "strangers" 1425,.str "table" 1426,.str "wish" 1427]
def qyg:Obj:=nF P pm7 1122 308 quM 1428 763
def qyf:Obj:=clP "Gate" 764 1115
def qye:Obj:=gD 1429 765
def qyd:Obj:=gW 1431 765
def qyc:Obj:=sU 765
def qyb:Obj:=iS 765
def fin(P:Params)(D:Obj):List Obj:=[boot_o_0 P,boot_o_1 P,boot_o_2 P,nsO ((ns P).take 80) 80,boot_o_4 P,boot_o_5 P,boot_o_6 P,boot_o_7 P,boot_o_8 P,boot_o_9 P,boot_o_10 P,v7,tbO (tb.take 147),v13,v14]++(d15.objs++([v35,v37,v39]++(d25.objs++(d32.objs++(d39.objs++(d46.objs++(d53.objs++(d60.objs++(d67.objs++(d74.objs++(d81.objs++(d88.objs++([v7,v8,qB2,qz2,qz1]++(d100.objs++(d107.objs++(d114.objs++(d121.objs++(d128.objs++(d135.objs++(d142.objs++([v201 P]++(d150.objs++(d157.objs++([qz0,qgj,qzZ P,v7,v8,qzY,qzX,v7,qzW P,qzE,qzV,qzU,qzT,qro,qgj,qzS P,v7,v8,qzR,qzQ,v7,qzP P,qzO,qzN,qzM,qro,qgj,qzL P,v7,v8,qzK,qzJ,v7,qzI P,qzH,qzG,qzF,qro,qgj,qzD P,v7,v8,qzC,qzB,v7,qzA P,qzz,qzy,qzx,qzw,qzv,qzu,v292 P]++(d217.objs++([v7,v8,qBY,qzt,qzs]++(d229.objs++(d236.objs++(d243.objs++([D,qzr,qzq,qzp,qzo,qzn,qzm,qzl,qzk,qzj,qzi,qzh,qzg,qzf,qze,qzd]++(d266.objs++(d273.objs++(d280.objs++([v7,qgj,qzc P,v7,qBX,qzb,qza]++(d294.objs++(d301.objs++(d308.objs++(d315.objs++(d322.objs++(d329.objs++([qy9,qy8 P,qy7,qy6,qy5,qy4,qy3,v7,qgj,qy2 P,v7,qBW,qy1,qy0]++(d350.objs++(d357.objs++(d364.objs++(d371.objs++(d378.objs++(d385.objs++(d392.objs++([v7,v8,qBV,qyZ,qyY,v7,v8,qBU,qyX,qyW,qyV,qyU P,qyT,qyS,qyR,qyQ,qyP,v7,qgj,qyO P,v7,qBT,qyN,qyM]++(d423.objs++([qyL,qyK P,qyJ,qyI,qyH,qyG,qyF,v7,qgj,qyE P,v7,qBS,qyD,qyC]++(d444.objs++(d451.objs++(d458.objs++([v7,v8,qBR,qyB,qyA]++(d470.objs++(d477.objs++(d484.objs++(d491.objs++([v7,v8,qBQ,qyz,qyy]++(d503.objs++(d510.objs++(d517.objs++(d524.objs++(d531.objs++(d538.objs++([v7,v8,qBP,qyx,qyw,qyv,qyu P,qyt,qys,qyr,qyq,qyp]++(d557.objs++([v7,qgj,qyo P,v7,qBO,qyn,qym]++(d571.objs++(d578.objs++(d585.objs++(d592.objs++(d599.objs++(d606.objs++(d613.objs++(d620.objs++(d627.objs++(d634.objs++([v7,v8,qBN,qyl,qyk,v7,v8,qBM,qyj,qyi]++(d651.objs++(d658.objs++(d665.objs++(d672.objs++(d679.objs++(d686.objs++(d693.objs++(d700.objs++(d707.objs++(d714.objs++(d721.objs++(d728.objs++(d735.objs++(d742.objs++(d749.objs++(d756.objs++([qyh,qyg P,qyf,qye,qyd,qyc,qyb]++(d770.objs++(d777.objs++(d784.objs++(d791.objs++(d798.objs++(d805.objs++(d812.objs++(d819.objs++(d826.objs++(d833.objs)))))))))))))))))))))))))))))))))))))))))))))))))))))))))))))))))))))))))))))))))))))))))))))))))))))))))))
def qnU:List Obj:=fin P default
def S_A(P:Params)(os:OsState):SharedT:=⟨treeOf ((((qnU P).take 15).set 3 (boot_o_3 P)).set 12 (tbO (tb.take 0))),15,{},#[],{},187,os⟩
theorem qsM(w:World)(os:OsState):topGo treeTable p w 11 ann 12 ⟨boot_heap w.2,#[],boot_drawn,boot_toks,os⟩ (topStub p)=some ((S_A w.2 os).abs,⟨denote treeTable cd,cd,q0,B⟩):=by kernel_rfl
theorem qoc(w:World)(os:OsState):segRun treeTable p w 11 ann 1 1 (S_A w.2 os).abs (blockOf body env cd q0 B)=some (.next,(S_A w.2 os).abs,cd,q0):=by kernel_rfl
def S_0(P:Params)(os:OsState):SharedT:=⟨treeOf ((((qnU P).take 81).set 3 (nsO ((e1 P "__name__" 165 pm1)::((ns P).drop 1).take 29) 30)).set 12 (tbO (tb.take 27))),81,{},#[],{},282,os⟩
theorem qDo(w:World)(os:OsState):segRunT treeTable p w 11 ann 1 391 (S_A w.2 os) (piecesOf ((body.drop 0).take 22) env cd q0 B)=some (.next,S_0 w.2 os,cd,⟨31,0,32,25⟩):=by
 walk_at "w9"
def S_1(P:Params)(os:OsState):SharedT:=⟨treeOf ((((qnU P).take 149).set 3 (nsO ((e1 P "__name__" 165 pm1)::((ns P).drop 1).take 39) 40)).set 12 (tbO (tb.take 57))),149,{},#[],{},378,os⟩
theorem qDn(w:World)(os:OsState):segRunT treeTable p w 11 ann 1 315 (S_0 w.2 os) (piecesOf ((body.drop 22).take 10) env cd ⟨31,0,32,25⟩ B)=some (.next,S_1 w.2 os,cd,⟨70,0,71,74⟩):=by
 walk_at "w9"
def S_2(P:Params)(os:OsState):SharedT:=⟨treeOf (((((qnU P).take 177).set 3 (nsO ((e1 P "__name__" 165 (.str "lentgate.errors" 407))::((ns P).drop 1).take 43) 44)).set 12 (tbO (tb.take 66))).set 173 (qB1)),177,{},#[],{},427,os⟩
theorem qvZ(w:World)(os:OsState)(b:Bool):segRunT treeTable p (wf w b) 11 ann 1 362 (S_1 w.2 os) (piecesOf ((body.drop 32).take 5) env cd ⟨70,0,71,74⟩ B)=some (.next,S_2 w.2 os,cd,⟨84,0,85,8⟩):=by
 rw[PySem.W.Fast.te10110043849684766642,PySem.W.Fast.te14364793385576792824];cases b<;>kernel_rfl
theorem qDm(w:World)(os:OsState):segRunT treeTable p w 11 ann 1 362 (S_1 w.2 os) (piecesOf ((body.drop 32).take 5) env cd ⟨70,0,71,74⟩ B)=some (.next,S_2 w.2 os,cd,⟨84,0,85,8⟩):=by
 have h:=qvZ w os (w.2.followText "special-get-raises");unfold wf at h;rw[World.withFollow_self]at h;exact h
def S_3(P:Params)(os:OsState):SharedT:=⟨treeOf (((((qnU P).take 189).set 3 (nsO ((e1 P "__name__" 165 (.str "lentgate.errors" 407))::((ns P).drop 1).take 44) 45)).set 12 (tbO (tb.take 69))).set 173 (qB0)),189,{},#[],{},443,os⟩
theorem qDl(w:World)(os:OsState):segRunT treeTable p w 11 ann 1 214 (S_2 w.2 os) (piecesOf ((body.drop 37).take 1) env cd ⟨84,0,85,8⟩ B)=some (.next,S_3 w.2 os,cd,⟨86,0,87,8⟩):=by
 walk_at "w9"
def S_4(P:Params)(os:OsState):SharedT:=⟨treeOf (((((qnU P).take 201).set 3 (nsO ((e1 P "__name__" 165 (.str "lentgate.errors" 407))::((ns P).drop 1).take 45) 46)).set 12 (tbO (tb.take 72))).set 173 (qBZ)),201,{},#[],{},459,os⟩
theorem qDk(w:World)(os:OsState):segRunT treeTable p w 11 ann 1 214 (S_3 w.2 os) (piecesOf ((body.drop 38).take 1) env cd ⟨86,0,87,8⟩ B)=some (.next,S_4 w.2 os,cd,⟨88,0,89,8⟩):=by
 walk_at "w9"
def S_5(P:Params)(os:OsState):SharedT:=⟨treeOf ((((qnU P).take 217).set 3 (nsO ((e1 P "__name__" 165 pm2)::((ns P).drop 1).take 53) 54)).set 12 (tbO (tb.take 75))),217,{},#[],{},513,os⟩
theorem qvY(w:World)(os:OsState)(b:Bool):segRunT treeTable p (wf w b) 11 ann 1 388 (S_4 w.2 os) (piecesOf ((body.drop 39).take 9) env cd ⟨88,0,89,8⟩ B)=some (.next,S_5 w.2 os,cd,⟨99,0,99,7⟩):=by
 rw[PySem.W.Fast.te10110043849684766642,PySem.W.Fast.te14364793385576792824];cases b<;>kernel_rfl
theorem qDj(w:World)(os:OsState):segRunT treeTable p w 11 ann 1 388 (S_4 w.2 os) (piecesOf ((body.drop 39).take 9) env cd ⟨88,0,89,8⟩ B)=some (.next,S_5 w.2 os,cd,⟨99,0,99,7⟩):=by
 have h:=qvY w os (w.2.followText "special-get-raises");unfold wf at h;rw[World.withFollow_self]at h;exact h
def S_6(P:Params)(os:OsState):SharedT:=⟨treeOf ((((qnU P).take 250).set 3 (nsO ((e1 P "__name__" 165 pm3)::((ns P).drop 1).take 58) 59)).set 12 (tbO (tb.take 90))),250,{},#[],{},567,os⟩
theorem qDi(w:World)(os:OsState):segRunT treeTable p w 11 ann 1 170 (S_5 w.2 os) (piecesOf ((body.drop 48).take 6) env cd ⟨99,0,99,7⟩ B)=some (.next,S_6 w.2 os,cd,⟨127,0,127,8⟩):=by
 walk_at "w9"
def ob(P:Params)(i:Nat):Obj:=(((((qnU P).take 250).set 3 (nsO ((e1 P "__name__" 165 pm3)::((ns P).drop 1).take 58) 59)).set 12 (tbO (tb.take 90))):List Obj).getD i default
def Dd(es:Array DictEntry)(n:Nat):Obj:=⟨.type "dict",none,.dict es n,#[]⟩
def S(o:Nat->Obj)(os:OsState)(D:Obj)(tk:Nat):SharedT:=⟨((((((((((((((((treeOf ((List.range 250).map o)).ins 250 D).ins 251 (tup [.str "house" 567,.none,.str "open" 568])).ins 252 (tup [.str "house" 570,.str "asked" 571,.str "open" 572])).ins 253 (tup [.str "house" 574,.str "called" 575,.str "open" 576])).ins 254 (tup [.str "house" 578,.str "up" 579,.str "say" 580])).ins 255 (tup [.str "house" 582,.str "far" 583,.str "say" 584])).ins 256 (tup [.str "house" 586,.str "up" 587,.str "close" 588])).ins 257 (tup [.str "house" 590,.str "far" 591,.str "close" 592])).ins 258 (tup [.str "far" 594,.none,.str "open" 595])).ins 259 (tup [.str "far" 597,.str "called" 598,.str "open" 599])).ins 260 (tup [.str "far" 601,.str "asked" 602,.str "open" 603])).ins 261 (tup [.str "far" 605,.str "up" 606,.str "say" 607])).ins 262 (tup [.str "far" 609,.str "near" 610,.str "say" 611])).ins 263 (tup [.str "far" 613,.str "up" 614,.str "close" 615])).ins 264 (tup [.str "far" 617,.str "near" 618,.str "close" 619])),265,{},#[],{},tk,os⟩
def S0(o:Nat->Obj)(os:OsState)(tk:Nat):SharedT:=⟨treeOf ((List.range 250).map o),250,{},#[],{},tk,os⟩
def S0d(o:Nat->Obj)(os:OsState)(tk:Nat):SharedT:=⟨(treeOf ((List.range 250).map o)).ins 250 (Dd #[] 0),251,{},#[],{},tk,os⟩
theorem qvX(P:Params)(os:OsState):S_6 P os=S0 (ob P) os 567:=by kernel_rfl
def hs(P:Params)(x:Str):Int:=if x.cps.isEmpty then 0 else reduceHash (P.strHash x.cps)
noncomputable def kt:List (List (Option Str)):=[[some "house",none,some "open"],[some "house",some "asked",some "open"],[some "house",some "called",some "open"],[some "house",some "up",some "say"],[some "house",some "far",some "say"],[some "house",some "up",some "close"],[some "house",some "far",some "close"],[some "far",none,some "open"],[some "far",some "called",some "open"],[some "far",some "asked",some "open"],[some "far",some "up",some "say"],[some "far",some "near",some "say"],[some "far",some "up",some "close"],[some "far",some "near",some "close"]]
noncomputable def vt:LVl:=[.str "asked" 569,.str "asked" 573,.str "up" 577,.str "up" 581,.str "far" 585,.str "near" 589,.str "shut" 593,.str "called" 596,.str "called" 600,.str "up" 604,.str "up" 608,.str "near" 612,.str "far" 616,.str "shut" 620]
def hx(P:Params):Option Str->Int
 |some x=>hs P x
 |none=>hashW P .none
def hi(k:Nat)(P:Params):Int:=Builtin.Tuple.tupleHashOf ((kt.getD k []).map (hx P))
def en(k:Nat)(P:Params):DictEntry:=⟨reduceHash (hi k P),.ref (251+k),vt.getD k .none⟩
def De(k:Nat)(P:Params):Obj:=Dd ((List.range k).map fun j=>en j P).toArray k
theorem aM{X:Nat->Prop}(h0:X 0)(h1:X 1)(h2:X 2)(h3:X 3)(h4:X 4)(h5:X 5)(h6:X 6)(h7:X 7)(h8:X 8)(h9:X 9)(h10:X 10)(h11:X 11)(h12:X 12)(h13:X 13):∀ k,k<14->X k:=fun k hk=>match k,hk with|0,_=>h0|1,_=>h1|2,_=>h2|3,_=>h3|4,_=>h4|5,_=>h5|6,_=>h6|7,_=>h7|8,_=>h8|9,_=>h9|10,_=>h10|11,_=>h11|12,_=>h12|13,_=>h13|n+14,h=>waI h (by omega)
section
variable(w:World)(b:Bool)(o:Nat->Obj)(os:OsState)(D:Obj)(tk:Nat)(ps:Pos)
abbrev RR{α:Type}(w:World)(b:Bool)(o:Nat->Obj)(os:OsState)(D:Obj)(tk:Nat)(ps:Pos)(n:Nat)(x:Sem α)(a:α):Prop:=Rn p (wf w b) 11 ann cd B n x ps (S o os D tk) a ps (S o os D tk)
local macro_rules | `(tactic| walk_at "h0") => `(tactic| (refine qed fun K H lv => ?_; rw [war, PySem.W.Fast.te14364793385576792824]; kernel_rfl))
theorem ru(x:String):RR w b o os D tk ps 1 (rule x) ():=by walk_at "h0"
theorem den(es:Array DictEntry)(n:Nat):Rn p (wf w b) 11 ann cd B 1 (dictEntries 250 none) ps (S o os (Dd es n) tk) es ps (S o os (Dd es n) tk):=by walk_at "h0"
theorem dep(es:Array DictEntry)(n:Nat):Rn p (wf w b) 11 ann cd B 1 (dictEpoch 250 none) ps (S o os (Dd es n) tk) n ps (S o os (Dd es n) tk):=by walk_at "h0"
local macro_rules | `(tactic| walk_at "h1") => `(tactic| (refine qed fun K H lv => ?_; rw [war, PySem.W.Fast.te14364793385576792824, PySem.W.Fast.te13066428366354244818]; kernel_rfl))
theorem qu:∀ k,k<14->RR w b o os D tk ps 3 (eqIsQuiet 8 (.ref (251+k))) true:=by
 refine aM ?_ ?_ ?_ ?_ ?_ ?_ ?_ ?_ ?_ ?_ ?_ ?_ ?_ ?_<;>walk_at "h1"
local macro_rules | `(tactic| walk_at "h2") => `(tactic| (refine qed fun K H lv => ?_; rw [war, PySem.W.Fast.te14364793385576792824, PySem.W.Fast.te13383273872528276517]; kernel_rfl))
theorem ro:∀ k,k<14->RR w b o os D tk ps 1 (cRoomFor "hash" [.ref (251+k)]) ():=by
 refine aM ?_ ?_ ?_ ?_ ?_ ?_ ?_ ?_ ?_ ?_ ?_ ?_ ?_ ?_<;>walk_at "h2"
local macro_rules | `(tactic| walk_at "h3") => `(tactic| (refine qed fun K H lv => ?_; rw [war, PySem.W.Fast.te14364793385576792824, PySem.W.Fast.te4214721358667687652]; kernel_rfl))
theorem sp:∀ k,k<14->RR w b o os D tk ps 1 (specialOf (.ref (251+k)) "__hash__") (some (.builtin "tuple.__hash__")):=by
 refine aM ?_ ?_ ?_ ?_ ?_ ?_ ?_ ?_ ?_ ?_ ?_ ?_ ?_ ?_<;>walk_at "h3"
local macro_rules | `(tactic| walk_at "h4") => `(tactic| (refine qed fun K H lv => ?_; rw [war, PySem.W.Fast.te14364793385576792824, PySem.W.Fast.te16697807410369149715]; cases b <;> kernel_rfl))
theorem ca:∀ k,k<14->∀ E:Sem Value,Rn p (wf w b) 11 ann cd B 29 (callSpecialIfBoundUnlessNone? (.ref (251+k)) "__hash__" E) ps (S o os D tk) (some (.int (hi k w.2) (tk+3))) ps (S o os D (tk+4)):=
 aM (fun E=>Rn.more (m1:=27) (by walk_at "h4") (by decide)) (fun E=>Rn.more (m1:=29) (by walk_at "h4") (by decide)) (fun E=>Rn.more (m1:=29) (by walk_at "h4") (by decide)) (fun E=>Rn.more (m1:=29) (by walk_at "h4") (by decide)) (fun E=>Rn.more (m1:=29) (by walk_at "h4") (by decide)) (fun E=>Rn.more (m1:=29) (by walk_at "h4") (by decide)) (fun E=>Rn.more (m1:=29) (by walk_at "h4") (by decide)) (fun E=>Rn.more (m1:=27) (by walk_at "h4") (by decide)) (fun E=>Rn.more (m1:=29) (by walk_at "h4") (by decide)) (fun E=>Rn.more (m1:=29) (by walk_at "h4") (by decide)) (fun E=>Rn.more (m1:=29) (by walk_at "h4") (by decide)) (fun E=>Rn.more (m1:=29) (by walk_at "h4") (by decide)) (fun E=>Rn.more (m1:=29) (by walk_at "h4") (by decide)) (fun E=>Rn.more (m1:=29) (by walk_at "h4") (by decide))
local macro_rules | `(tactic| walk_at "h5") => `(tactic| (refine qed fun K H lv => ?_; rw [war, PySem.W.Fast.te14364793385576792824, PySem.W.Fast.te11826078720135083572]; kernel_rfl))
theorem up:∀ k,k<14->Rn p (wf w b) 11 ann cd B 3 (updateDictKeys 250 (fun x=>x.push (en k w.2)) none) ps (S o os (De k w.2) tk) () ps (S o os (De (k+1) w.2) tk):=by
 refine aM ?_ ?_ ?_ ?_ ?_ ?_ ?_ ?_ ?_ ?_ ?_ ?_ ?_ ?_<;>walk_at "h5"
def pj:List (Nat×Nat):=(List.range 14).flatMap fun k=>(List.range k).map fun j=>(j,k)
noncomputable def cs:List (List Nat):=[[],[26],[26,20],[26,20,20],[26,20,20,20],[26,20,20,24,20],[26,20,20,20,24,20],[16,16,16,16,16,16,16],[16,16,16,16,16,16,16,26],[16,16,16,16,16,16,16,26,20],[16,16,16,16,16,16,16,26,20,20],[16,16,16,16,16,16,16,26,20,20,20],[16,16,16,16,16,16,16,26,20,20,24,20],[16,16,16,16,16,16,16,26,20,20,20,24,20]]
noncomputable def cn (x:Nat×Nat):Nat:=(cs.getD x.2 []).getD x.1 0
theorem eqA:∀ x∈pj,RR w b o os D tk ps (cn x) (eqBool (.ref (251+x.1)) (.ref (251+x.2))) false:=qr8 fun K H lv=>by
 rw[war,PySem.W.Fast.te14364793385576792824,PySem.W.Fast.te13926502685295537346];cases b<;>kernel_rfl
theorem cnl:(pj.all fun x=>Nat.ble (cn x) 26)=true:=by kernel_rfl
theorem fi(k:Nat)(hk:k<14)(h:Int):Rn p (wf w b) 11 ann cd B 797 (dictFind 250 (.ref (251+k)) h) ps (S o os (De k w.2) tk) none ps (S o os (De k w.2) tk):=
 find_none (m:=26) (L:=14) (by show((List.range k).map _).length<=14;rw[waj,wbA];omega) (ru _ _ _ _ _ _ _) (den _ _ _ _ _ _ _ _) (dep _ _ _ _ _ _ _ _) ((qu w b o os _ tk ps k hk).more (by decide)) fun e he=>by
  obtain⟨j,hj,rfl⟩:=waE.mp (show e∈(List.range k).map fun j=>en j w.2 from he)
  have hj:=wa9.mp hj;have hm:(j,k)∈pj:=List.mem_flatMap.mpr ⟨k,wa9.mpr hk,waE.mpr ⟨j,wa9.mpr hj,rfl⟩⟩;have j1:j<14:=Nat.lt_trans hj hk;exact⟨⟨251+j,rfl,waq (Nat.add_lt_add_left hj _)⟩,(qu w b o os _ tk ps j j1).more (by decide),(eqA w b o os _ tk ps _ hm).more (Nat.le_of_ble_eq_true (wap.mp cnl _ hm))⟩
theorem se(k:Nat)(hk:k<14):Rn p (wf w b) 11 ann cd B 834 (dictSet 250 (.ref (251+k)) (vt.getD k .none)) ps (S o os (De k w.2) tk) () ps (S o os (De (k+1) w.2) (tk+4)):=
 (qpy (h:=reduceHash (hi k w.2)) (ru w b o os _ (tk+4) ps) (qnQ (ru w b o os _ (tk+4) ps) (ro w b o os _ tk ps k hk) (sp w b o os _ tk ps k hk) (ca w b o os _ tk ps k hk)) (fi w b o os (tk+4) ps k hk _) (up w b o os (tk+4) ps k hk)).more (by decide)
end
def vp(k:Nat):Value×Value:=(.ref (251+k),vt.getD k .none)
def vs:List (Value×Value):=(List.range' 0 14).map vp
def DD:Obj:=De 14 P
theorem qoI(w:World)(b:Bool)(o:Nat->Obj)(os:OsState)(ps:Pos){f:Value×Value->Unit->Sem (ForInStep Unit)}(hf:∀ k v,f (k,v) ()=(do dictSet 250 k v;pure (.yield ()))):∀ (j k tk:Nat),k+j=14->
 Rn p (wf w b) 11 ann cd B (834*j) (forIn ((List.range' k j).map vp) () f) ps (S o os (De k w.2) tk) () ps (S o os (DD w.2) (tk+4*j))
 |0,k,tk,h=>by rw[show k=14 by omega];exact qpI
 |j+1,k,tk,h=>by
  rw[List.range'_succ,wan,show tk+4*(j+1)=(tk+4)+4*j by omega]
  exact(qpH (qwe (hf _ _) (qah (m2:=0) (se w b o os tk ps k (by omega)) qaG)) (qoI w b o os ps hf j (k+1) (tk+4) (by omega))).more (by omega)
theorem qnE(w:World)(b:Bool)(o:Nat->Obj)(os:OsState)(tk:Nat)(ps:Pos){f:Value×Value->Unit->Sem (ForInStep Unit)}(hf:∀ k v,f (k,v) ()=(do dictSet 250 k v;pure (.yield ()))):
 Rn p (wf w b) 11 ann cd B 11676 (forIn vs () f) ps (S o os (De 0 w.2) tk) () ps (S o os (DD w.2) (tk+56)):=qoI w b o os ps hf 14 0 tk rfl
def st:Stmt:=body[54]
noncomputable def qkm:List (Option PySem.Expr):=match st with| .Assign _ (.Dict ks _ _) _=>ks|_=>[]
noncomputable def qkl:List PySem.Expr:=match st with| .Assign _ (.Dict _ vs _) _=>vs|_=>[]
def qnZ:Pos:=match st with| .Assign _ (.Dict _ _ q) _=>q|_=>default
def spos:Pos:=match st with| .Assign _ _ q=>q|_=>default
def qqm:Pos:=⟨128,0,128,10⟩
theorem qCV:st= .Assign [.Name "LINE_STEPS" qqm] (.Dict qkm qkl qnZ) spos:=by kernel_rfl
noncomputable def its:List (Option (Sem Value)×Sem Value):=(evalEachOpt qkm env).zip ((evalEach qkl env).map fun v=>do let x<-v;standAt qnZ;pure x)
noncomputable def prs:List (Sem Value×Sem Value):=its.filterMap fun x=>x.1.map fun k=>(k,x.2)
theorem stq:exec st env=(do
 standAt spos
 let v<-eval (.Dict qkm qkl qnZ) env
 standAt qqm
 bindName env "LINE_STEPS" v
 pure .next):=by rw[qCV];exact exec_Assign_Name env "LINE_STEPS" qqm (.Dict qkm qkl qnZ) spos (by kernel_rfl)
theorem dq:eval (.Dict qkm qkl qnZ) env=(do standAt qnZ;dictDisplay its):=by kernel_rfl
theorem dd:dictDisplay its=((subDict prs >>= fun d=>pure (some d)) >>= fun o=>match o with|some d=>pure (.ref d)|none=>newDict):=by kernel_rfl
theorem qtl(w:World)(o:Nat->Obj)(os:OsState)(tk:Nat)(ps:Pos){f:Value×Value->Unit->Sem (ForInStep Unit)}(hf:∀ k v,f (k,v) ()=(do dictSet 250 k v;pure (.yield ()))):
 Rn p w 11 ann cd B 11676 (forIn vs () f) ps (S o os (De 0 w.2) tk) () ps (S o os (DD w.2) (tk+56)):=by
 have h:=qnE w (w.2.followText "special-get-raises") o os tk ps hf;unfold wf at h;rw[World.withFollow_self]at h;exact h
theorem at_{w:World}{s:SharedT}{ps ps':Pos}:Rn p w 11 ann cd B 1 (standAt ps') ps s () ps' s:=qed fun K H lv=>by kernel_rfl
theorem al{w:World}{o:Nat->Obj}{os:OsState}{tk:Nat}{ps:Pos}:Rn p w 11 ann cd B 1 (alloc { cls:=.type "dict",data:=.dict #[] }) ps (S0 o os tk) 250 ps (S0d o os tk):=qed fun K H lv=>by kernel_rfl
theorem ev{w:World}{o:Nat->Obj}{os:OsState}{ps:Pos}:Rn p w 11 ann cd B 96 (evalPairs prs) ps (S0d o os 567) vs qnZ (S o os (De 0 w.2) 621):=qed fun K H lv=>by
 rw[war,PySem.W.Fast.te14364793385576792824];kernel_rfl
theorem sub{w:World}{o:Nat->Obj}{os:OsState}{ps:Pos}:Rn p w 11 ann cd B 11773 (subDict prs) ps (S0 o os 567) 250 qnZ (S o os (DD w.2) 677):=by
 unfold subDict;refine Rn.more (m1:=1+(96+(11676+0)+0)) (qah al (qah (a:=()) (qbF ?_) qaG)) (by decide)
 rw[wag (Nat.le_of_ble_eq_true (by kernel_rfl))]
 refine qah ev (qbF ?_);exact qah (qtl w o os 621 qnZ (fun _ _=>rfl)) qaG
def S_D(P:Params)(os:OsState)(D:Obj):SharedT:=⟨treeOf ((((fin P D).take 265).set 3 (nsO ((e1 P "__name__" 165 pm3)::((ns P).drop 1).take 59) 60)).set 12 (tbO (tb.take 90))),265,{},#[],{},678,os⟩
theorem bn{w:World}{os:OsState}{D:Obj}{ps:Pos}:Rn p w 11 ann cd B 6 (bindName env "LINE_STEPS" (.ref 250)) ps (S (ob w.2) os D 677) () ps (S_D w.2 os D):=qed fun K H lv=>by
 rw[war,PySem.W.Fast.te14364793385576792824];kernel_rfl
theorem qvM{w:World}{os:OsState}{ps:Pos}:Rn p w 11 ann cd B 11782 (execs [st] env) ps (S0 (ob w.2) os 567) .next qqm (S_D w.2 os (DD w.2)):=by
 rw[execs_cons,stq,dq,dd];refine Rn.more (m1:=(1+((1+((11773+0)+0))+(1+(6+0))))+0) (qah (a:=.next) (qah at_ (qah (qah at_ (qah (qah sub qaG) qaG)) (qah at_ (qah bn qaG)))) ?_) (by decide)
 exact qaG
theorem qDh(w:World)(os:OsState):segRunT treeTable p w 11 ann 1 11783 (S_6 w.2 os) (piecesOf [st] env cd ⟨127,0,127,8⟩ B)=some (.next,S_D w.2 os (DD w.2),cd,qqm):=by
 rw[qvX];obtain⟨n,hn,h⟩:=qvM (w:=w) (os:=os) (ps:=⟨127,0,127,8⟩) doneF deadEnd id;have e:=qkz (m:=1) (r:=(.next,S_D w.2 os (DD w.2),cd,qqm)) h rfl;have e2:=qiT (11782-n) e;rw[show n+1+(11782-n)=11783 by omega]at e2
 exact e2
def S_8(P:Params)(os:OsState)(D:Obj):SharedT:=⟨treeOf ((((fin P D).take 287).set 3 (nsO ((e1 P "__name__" 165 pm4)::((ns P).drop 1).take 63) 64)).set 12 (tbO (tb.take 99))),287,{},#[],{},713,os⟩
theorem qDg(w:World)(os:OsState)(D:Obj):segRunT treeTable p w 11 ann 1 118 (S_D w.2 os D) (piecesOf ((body.drop 55).take 5) env cd qqm B)=some (.next,S_8 w.2 os D,cd,⟨142,0,142,8⟩):=by
 walk_at "w9"
def S_9(P:Params)(os:OsState)(D:Obj):SharedT:=⟨treeOf ((((fin P D).take 343).set 3 (nsO ((e1 P "__name__" 165 pm4)::((ns P).drop 1).take 64) 65)).set 12 (tbO (tb.take 102))),343,{},#[],{},794,os⟩
theorem qDf(w:World)(os:OsState)(D:Obj):segRunT treeTable p w 11 ann 1 395 (S_8 w.2 os D) (piecesOf ((body.drop 60).take 1) env cd ⟨142,0,142,8⟩ B)=some (.next,S_9 w.2 os D,cd,⟨143,0,169,16⟩):=by
 walk_at "w9"
def qBk(P:Params)(os:OsState)(D:Obj):SharedT:=⟨treeOf ((((fin P D).take 343).set 3 (nsO ((e1 P "__name__" 165 pm5)::((ns P).drop 1).take 64) 65)).set 12 (tbO (tb.take 102))),343,{},#[],{},796,os⟩
theorem qv6(w:World)(os:OsState)(D:Obj):segRunT treeTable p w 11 ann 1 10 (S_9 w.2 os D) (piecesOf ((body.drop 61).take 1) env cd ⟨143,0,169,16⟩ B)=some (.next,qBk w.2 os D,cd,⟨170,0,170,8⟩):=by
 walk_at "w9"
def qBj(P:Params)(os:OsState)(D:Obj):SharedT:=⟨treeOf ((((fin P D).take 416).set 3 (nsO ((e1 P "__name__" 165 pm5)::((ns P).drop 1).take 65) 66)).set 12 (tbO (tb.take 105))),416,{},#[],{},894,os⟩
theorem qv5(w:World)(os:OsState)(D:Obj):segRunT treeTable p w 11 ann 1 480 (qBk w.2 os D) (piecesOf ((body.drop 62).take 1) env cd ⟨170,0,170,8⟩ B)=some (.next,qBj w.2 os D,cd,⟨171,0,213,105⟩):=by
 walk_at "w9"
def qBi(P:Params)(os:OsState)(D:Obj):SharedT:=⟨treeOf ((((fin P D).take 437).set 3 (nsO ((e1 P "__name__" 165 pm6)::((ns P).drop 1).take 66) 67)).set 12 (tbO (tb.take 108))),437,{},#[],{},931,os⟩
theorem qv4(w:World)(os:OsState)(D:Obj):segRunT treeTable p w 11 ann 1 238 (qBj w.2 os D) (piecesOf ((body.drop 63).take 2) env cd ⟨171,0,213,105⟩ B)=some (.next,qBi w.2 os D,cd,⟨215,0,221,24⟩):=by
 walk_at "w9"
def qBh(P:Params)(os:OsState)(D:Obj):SharedT:=⟨treeOf ((((fin P D).take 557).set 3 (nsO ((e1 P "__name__" 165 pm6)::((ns P).drop 1).take 67) 68)).set 12 (tbO (tb.take 111))),557,{},#[],{},1101,os⟩
theorem qv3(w:World)(os:OsState)(D:Obj):segRunT treeTable p w 11 ann 1 718 (qBi w.2 os D) (piecesOf ((body.drop 65).take 1) env cd ⟨215,0,221,24⟩ B)=some (.next,qBh w.2 os D,cd,⟨222,0,303,37⟩):=by
 walk_at "w9"
def qBg(P:Params)(os:OsState)(D:Obj):SharedT:=⟨treeOf ((((fin P D).take 564).set 3 (nsO ((e1 P "__name__" 165 pm7)::((ns P).drop 1).take 68) 69)).set 12 (tbO (tb.take 114))),564,{},#[],{},1115,os⟩
theorem qv2(w:World)(os:OsState)(D:Obj):segRunT treeTable p w 11 ann 1 44 (qBh w.2 os D) (piecesOf ((body.drop 66).take 2) env cd ⟨222,0,303,37⟩ B)=some (.next,qBg w.2 os D,cd,⟨305,0,307,78⟩):=by
 walk_at "w9"
def qBf(P:Params)(os:OsState)(D:Obj):SharedT:=⟨treeOf ((((fin P D).take 770).set 3 (nsO ((e1 P "__name__" 165 pm7)::((ns P).drop 1).take 69) 70)).set 12 (tbO (tb.take 117))),770,{},#[],{},1436,os⟩
theorem qv1(w:World)(os:OsState)(D:Obj):segRunT treeTable p w 11 ann 1 1159 (qBg w.2 os D) (piecesOf ((body.drop 68).take 1) env cd ⟨305,0,307,78⟩ B)=some (.next,qBf w.2 os D,cd,⟨308,0,477,19⟩):=by
 walk_at "w9"
def qBe(P:Params)(os:OsState)(D:Obj):SharedT:=⟨treeOf ((fin P D).take 840),840,{},#[],{},1554,os⟩
theorem qv0(w:World)(os:OsState)(D:Obj):segRunT treeTable p w 11 ann 1 346 (qBf w.2 os D) (piecesOf ((body.drop 69).take 11) env cd ⟨308,0,477,19⟩ B)=some (.next,qBe w.2 os D,cd,⟨570,0,594,15⟩):=by
 walk_at "w9"
def TF:BT:=(qBe P default (DD P)).tree
def H1:Heap:=absHeap (TF P) 840 {}
theorem qrg:body=((body.drop 0).take 22)++(((body.drop 22).take 10)++(((body.drop 32).take 5)++(((body.drop 37).take 1)++(((body.drop 38).take 1)++(((body.drop 39).take 9)++(((body.drop 48).take 6)++([st]++(((body.drop 55).take 5)++(((body.drop 60).take 1)++(((body.drop 61).take 1)++(((body.drop 62).take 1)++(((body.drop 63).take 2)++(((body.drop 65).take 1)++(((body.drop 66).take 2)++(((body.drop 68).take 1)++(((body.drop 69).take 11)++ [])))))))))))))))):=by kernel_rfl
theorem run_eq(w:World)(os:OsState):topRun treeTable p w 11 ann (12+(1+(391+(315+(362+(214+(214+(388+(170+(11783+(118+(395+(10+(480+(238+(718+(44+(1159+(346+2))))))))))))))))))) ⟨boot_heap w.2,#[],boot_drawn,boot_toks,os⟩ (topStub p)=some ⟨H1 w.2,#[],{},1554,os⟩:=by
 refine go_top (qsM w os) (piece_block (qoc w os) ?_);show topRun treeTable p w 11 ann _ _ (restOf body env cd q0 B)=_;rw[qrg];refine piece_app (segRun_of (qDo w os)) ?_;refine piece_app (segRun_of (qDn w os)) ?_;refine piece_app (segRun_of (qDm w os)) ?_;refine piece_app (segRun_of (qDl w os)) ?_;refine piece_app (segRun_of (qDk w os)) ?_;refine piece_app (segRun_of (qDj w os)) ?_;refine piece_app (segRun_of (qDi w os)) ?_;refine piece_app (segRun_of (qDh w os)) ?_;refine piece_app (segRun_of (qDg w os _)) ?_;refine piece_app (segRun_of (qDf w os _)) ?_;refine piece_app (segRun_of (qv6 w os _)) ?_;refine piece_app (segRun_of (qv5 w os _)) ?_;refine piece_app (segRun_of (qv4 w os _)) ?_;refine piece_app (segRun_of (qv3 w os _)) ?_;refine piece_app (segRun_of (qv2 w os _)) ?_;refine piece_app (segRun_of (qv1 w os _)) ?_;refine piece_app (segRun_of (qv0 w os _)) ?_;kernel_rfl
noncomputable def q:Program:=view p [0,2,3,4,5,6,7,8,9,10,11,12,13,14,15,16,17,18,19,20,21,22,23,24,25,26,27,28,29,30,31,32,33,34,36,37,38,39,41,42,43,44,45,46,47,48,49,50,51,52,54,55,56,57,58,60,62,64,65,67,68,70,71,72,73,74,75,76,77,78,79]
def loose:LSt:=["DEEDS","TIME_AT","LINE_STEPS"]
noncomputable def ks0:List Addr:=[2,3,4,6,20,21,22,23,24,30,31,37,38,44,45,51,52,58,59,65,66,72,73,79,80,86,87,93,94,95,98,99,105,106,112,113,119,120,126,127,133,134,140,141,147,148,149,155,156,162,163,164,165,166,167,169,170,171,172,173,174,175,176,177,178,179,180,182,183,184,185,186,187,188,189,190,191,192,194,195,196,197,198,199,200,201,202,203,204,206,207,208,209,210,211,212,213,214,215,216,222,223,224,227,228,234,235,241,242,248,249,250,251,252,253,254,255,256,257,258,259,260,261,262,263,264,265,271,272,278,279,285,286,287,288,289,290,292,293,299,300,306,307,313,314,320,321,327,328,334,335,336,337,338,339,340,341,342,343,344,345,346,348,349,355,356,362,363,369,370,376,377,383,384,390,391,397,398,399,402,403,404,407,408,409,410,411,412,413,414,415,416,417,418,419,421,422,428,429,430,431,432,433,434,435,436,437,438,439,440,442,443,449,450,456,457,463,464,465,468,469,475,476,482,483,489,490,496,497,498,501,502,508,509,515,516,522,523,529,530,536,537,543,544,545,548,549,550,551,552,553,554,555,556,562,563,564,565,566,567,569,570,576,577,583,584,590,591,597,598,604,605,611,612,618,619,625,626,632,633,639,640,641,644,645,646,649,650,656,657,663,664,670,671,677,678,684,685,691,692,698,699,705,706,712,713,719,720,726,727,733,734,740,741,747,748,754,755,761,762,763,764,765,766,767,768,769,775,776,782,783,789,790,796,797,803,804,810,811,817,818,824,825,831,832,838,839]
noncomputable def ks:List Addr:=ks0++ [546]
def K0:Frag:=ks0.zip (boot_o_2 P::nsO ((ns P).take 80) 80::boot_o_4 P::boot_o_6 P::d15.co::d15.fn::v35::v37::v39::d25.co::d25.fn::d32.co::d32.fn::d39.co::d39.fn::d46.co::d46.fn::d53.co::d53.fn::d60.co::d60.fn::d67.co::d67.fn::d74.co::d74.fn::d81.co::d81.fn::d88.co::d88.fn::v7::qz2::qz1::d100.co::d100.fn::d107.co::d107.fn::d114.co::d114.fn::d121.co::d121.fn::d128.co::d128.fn::d135.co::d135.fn::d142.co::d142.fn::v201 P::d150.co::d150.fn::d157.co::d157.fn::qz0::qgj::qzZ P::v7::qzY::qzX::v7::qzW P::qzE::qzV::qzU::qzT::qro::qgj::qzS P::v7::qzR::qzQ::v7::qzP P::qzO::qzN::qzM::qro::qgj::qzL P::v7::qzK::qzJ::v7::qzI P::qzH::qzG::qzF::qro::qgj::qzD P::v7::qzC::qzB::v7::qzA P::qzz::qzy::qzx::qzw::qzv::qzu::v292 P::d217.co::d217.fn::v7::qzt::qzs::d229.co::d229.fn::d236.co::d236.fn::d243.co::d243.fn::DD P::qzr::qzq::qzp::qzo::qzn::qzm::qzl::qzk::qzj::qzi::qzh::qzg::qzf::qze::qzd::d266.co::d266.fn::d273.co::d273.fn::d280.co::d280.fn::v7::qgj::qzc P::v7::qzb::qza::d294.co::d294.fn::d301.co::d301.fn::d308.co::d308.fn::d315.co::d315.fn::d322.co::d322.fn::d329.co::d329.fn::qy9::qy8 P::qy7::qy6::qy5::qy4::qy3::v7::qgj::qy2 P::v7::qy1::qy0::d350.co::d350.fn::d357.co::d357.fn::d364.co::d364.fn::d371.co::d371.fn::d378.co::d378.fn::d385.co::d385.fn::d392.co::d392.fn::v7::qyZ::qyY::v7::qyX::qyW::qyV::qyU P::qyT::qyS::qyR::qyQ::qyP::v7::qgj::qyO P::v7::qyN::qyM::d423.co::d423.fn::qyL::qyK P::qyJ::qyI::qyH::qyG::qyF::v7::qgj::qyE P::v7::qyD::qyC::d444.co::d444.fn::d451.co::d451.fn::d458.co::d458.fn::v7::qyB::qyA::d470.co::d470.fn::d477.co::d477.fn::d484.co::d484.fn::d491.co::d491.fn::v7::qyz::qyy::d503.co::d503.fn::d510.co::d510.fn::d517.co::d517.fn::d524.co::d524.fn::d531.co::d531.fn::d538.co::d538.fn::v7::qyx::qyw::qyv::qyu P::qyt::qys::qyr::qyq::qyp::d557.co::d557.fn::v7::qgj::qyo P::v7::qyn::qym::d571.co::d571.fn::d578.co::d578.fn::d585.co::d585.fn::d592.co::d592.fn::d599.co::d599.fn::d606.co::d606.fn::d613.co::d613.fn::d620.co::d620.fn::d627.co::d627.fn::d634.co::d634.fn::v7::qyl::qyk::v7::qyj::qyi::d651.co::d651.fn::d658.co::d658.fn::d665.co::d665.fn::d672.co::d672.fn::d679.co::d679.fn::d686.co::d686.fn::d693.co::d693.fn::d700.co::d700.fn::d707.co::d707.fn::d714.co::d714.fn::d721.co::d721.fn::d728.co::d728.fn::d735.co::d735.fn::d742.co::d742.fn::d749.co::d749.fn::d756.co::d756.fn::qyh::qyg P::qyf::qye::qyd::qyc::qyb::d770.co::d770.fn::d777.co::d777.fn::d784.co::d784.fn::d791.co::d791.fn::d798.co::d798.fn::d805.co::d805.fn::d812.co::d812.fn::d819.co::d819.fn::d826.co::d826.fn::d833.co::d833.fn::[])
def K:Frag:=K0 P++ [(546,v8)]
theorem ks_eq(P:Params):ks=(K P).map (·.1):=by kernel_rfl
def Hk:Hook:=kHook K ks ks_eq
def Xt(s:Shared):Bool:=xlAt q [] s&&recOk [] s
def NN:Nat:=1000000
theorem size_eq(w:World):((boot_heap w.2).isNs mainGlobals&&(#[]:Array GenState).size==0,(boot_heap w.2).objs.size,(boot_heap w.2).nsMap mainGlobals "__annotations__")=(true,11,ann):=by kernel_rfl
theorem op1:opening p=plainProg p.main.scope.names:=by kernel_rfl
theorem op2(s:Shared):fenceModules? p s=some s:=by kernel_rfl
theorem qw4(w:World)(os:OsState):(staticsOk (importedModules p.main.body) (boot_heap w.2) (H1 w.2)&&namesBound p (H1 w.2)&&gensDone ⟨H1 w.2,#[],{},1554,os⟩&&laidKept (boot_heap w.2) (H1 w.2))=true:=by kernel_rfl
theorem l2a(w:World)(os:OsState):PyProof.Rows.seen (List.map (fun x=>x.name) (recsOf q)) (ownsOf q) [] ⟨H1 w.2,#[],{},1554,os⟩=expectedOf q:=by rw[PySem.W.Fast.te5160383126252970620];kernel_rfl
theorem l2b(w:World)(os:OsState):(H1 w.2).bltView=bltViewBooted:=by kernel_rfl
theorem l2c(w:World)(os:OsState):(H1 w.2).keysOk (looseW q loose) (List.map (fun x=>x.name) (recsOf q)) (List.map (fun x=>x.fst) (litsOf q)) (List.map (fun x=>x.name) (clssOf q (looseW q loose)))=true:=by rw[PySem.W.Fast.te10880121769531294198];kernel_rfl
theorem l2d(w:World)(os:OsState):(H1 w.2).accountedOkI (importedModules p.main.body)=true:=by rw[PySem.W.Fast.te14722251495701143533];kernel_rfl
theorem l2e(w:World)(os:OsState):((H1 w.2).isNs mainGlobals&&(H1 w.2).isNs builtinsNs)=true:=by kernel_rfl
theorem l2f(w:World)(os:OsState):tablesOk q (H1 w.2)=true:=by rw[PySem.W.Fast.te10994771534591457954];kernel_rfl
theorem l2g(w:World)(os:OsState):Xt ⟨H1 w.2,#[],{},1554,os⟩=true:=by kernel_rfl
theorem l2h(w:World)(os:OsState):tabsOk q ⟨H1 w.2,#[],{},1554,os⟩=true:=by rw[PySem.W.Fast.te479339242167458305];kernel_rfl
theorem l2i(w:World)(os:OsState):pinSeenD q (drecsOf q) ⟨H1 w.2,#[],{},1554,os⟩=pinGoodD (drecsOf q):=by kernel_rfl
theorem l2j(w:World)(os:OsState):plainSeenE q (looseW q loose) ⟨H1 w.2,#[],{},1554,os⟩=plainGoodE q (looseW q loose):=by rw[PySem.W.Fast.te2386780881361962483];kernel_rfl
theorem l2k(w:World)(os:OsState):plainSeenD q loose ⟨H1 w.2,#[],{},1554,os⟩=plainGoodD q loose:=by rw[PySem.W.Fast.te11698064438423848299];kernel_rfl
theorem l2l(w:World)(os:OsState):wideSeen q ⟨H1 w.2,#[],{},1554,os⟩=wideGood q:=by rw[PySem.W.Fast.te7317090234206586261];kernel_rfl
theorem l2m(w:World)(os:OsState):clsSeenW q loose ⟨H1 w.2,#[],{},1554,os⟩=clsGoodW q loose:=by rw[PySem.W.Fast.te7369524293546568484];kernel_rfl
theorem qw3(w:World)(os:OsState):openSeen q loose (importedModules p.main.body) Xt true ⟨H1 w.2,#[],{},1554,os⟩=openGood q loose:=
 qqe (l2a w os) (l2b w os) (l2c w os) (l2d w os) (l2e w os) (l2f w os) (l2g w os) (l2h w os) (l2i w os) (l2j w os) (l2k w os) (l2l w os) (l2m w os)
theorem qw2(w:World)(os:OsState):Hk.obs ⟨H1 w.2,#[],{},1554,os⟩=Hk.val w:=by kernel_rfl
theorem left:LeftO p q loose Xt Hk.obs Hk.val NN:=
 LeftO.of_pieces (H₀:=boot_heap) (H₁:=H1) (gs₀:=#[]) (gs₁:=#[]) (d₀:=boot_drawn) (d₁:={}) (k₀:=boot_toks) (k₁:=1554) (m₀:=11) (ann:=ann) (M:=12+(1+(391+(315+(362+(214+(214+(388+(170+(11783+(118+(395+(10+(480+(238+(718+(44+(1159+(346+2))))))))))))))))))) (boot_open op1 (by decide) op2) size_eq run_eq (by decide)
  fun w=>funext fun os=>Prod.ext (qw4 w os) (Prod.ext (qw3 w os) (qw2 w os))
end
end H08
namespace R
open PySem PySem.Spec PyProof.Rows L2
section
variable {Γ:G}{σ:RSt}{M:RM}{Q:RVK}{D:RD}{a b c d e t l h o k r it:T}{i n:Nat}{QB:Bool->RM->Prop}{QA:LR->RM->Prop}{QI:LR->(RM->Prop)->(RM->RM)->RM->Prop}{QP:Option Int->RM->Prop}
def kV'(o:Option (Option RV))(Q:RV->Prop):Prop:=match o with|some (some v)=>Q v|_=>False
theorem qnO{v:RV}{Q:RV->Prop}:kV' (some (some v)) Q=Q v:=rfl
theorem t_v:(tr Γ (.v i)).E σ M Q=kV' σ[i]? (fun v=>Q v M):=by
 show qpQ i σ M Q=_;unfold qpQ kV';rfl
theorem t_i{n:Int}:(tr Γ (.i n)).E σ M Q=Q (.int n) M:=rfl
theorem t_s{x:Str}:(tr Γ (.s x)).E σ M Q=Q (.str x) M:=rfl
theorem t_b{x:Bool}:(tr Γ (.b x)).E σ M Q=Q (.bl x) M:=rfl
theorem t_n:(tr Γ .n).E σ M Q=Q .non M:=rfl
theorem t_g{x:Str}{i:Int}(h:Γ.S.gi.lookup x=some i):(tr Γ (.g x)).E σ M Q=Q (.int i) M:=by
 show(match Γ.S.gi.lookup x with|some i=>rC (.int i)|none=>qbj) σ M Q=_
 rw[h];rfl
theorem qB6{x:String}:(tr Γ (.ty x)).E σ M Q=Q (.ty x) M:=rfl
theorem qCh{o:Operator}:(tr Γ (.op o a b)).E σ M Q=(tr Γ a).E σ M fun x M1=>(tr Γ b).E σ M1 fun y M2=>opR o x y M2 Q:=rfl
theorem qCB{o:CmpOp}:(tr Γ (.cm o a b)).E σ M Q=(tr Γ a).E σ M fun x M1=>(tr Γ b).E σ M1 fun y M2=>cmR o x y M2 Q:=rfl
def kB(Q:Bool->RM->Prop):RVK:=fun v M=>match v with| .bl k=>Q k M|_=>False
theorem qf2{k:Bool}:kB QB (.bl k) M=QB k M:=rfl
noncomputable def kCh (p:CmpOp)(Γ:G)(c:T)(σ:RSt)(y:RV)(Q:RVK):RVK:=fun z M3=>match z with
 | .bl k=>if k=true then(tr Γ c).E σ M3 fun w M4=>cmR p y w M4 Q else Q (.bl false) M3
 |_=>False
theorem qb9{k:Bool}{A B:Prop}:((k=true->A)/\(k=false->B))=if k=true then A else B:=by cases k<;>simp
theorem qCC{o p:CmpOp}:(tr Γ (.ch o p a b c)).E σ M Q=(tr Γ a).E σ M fun x M1=>(tr Γ b).E σ M1 fun y M2=>cmR o x y M2 (kCh p Γ c σ y Q):=by
 show qfl _ _ _ _ _ σ M Q=_;unfold qfl kCh;simp only[qb9]<;>rfl
theorem qtE{p:CmpOp}{y:RV}{k:Bool}:kCh p Γ c σ y Q (.bl k) M=if k=true then(tr Γ c).E σ M fun w M4=>cmR p y w M4 Q else Q (.bl false) M:=rfl
theorem T_v:(tr Γ (.v i)).T σ M QB=(tr Γ (.v i)).E σ M (kB QB):=rfl
theorem qEC{o:CmpOp}:(tr Γ (.cm o a b)).T σ M QB=(tr Γ (.cm o a b)).E σ M (kB QB):=rfl
theorem qED{o p:CmpOp}:(tr Γ (.ch o p a b c)).T σ M QB=(tr Γ (.ch o p a b c)).E σ M (kB QB):=rfl
theorem qEA{c:Nat}{f:Str}:(tr Γ (.fl c f a)).T σ M QB=(tr Γ (.fl c f a)).E σ M (kB QB):=rfl
theorem qEE{f:Nat}:(tr Γ (.ca f a)).T σ M QB=(tr Γ (.ca f a)).E σ M (kB QB):=rfl
theorem qEy{f:Nat}:(tr Γ (.me f o a)).T σ M QB=(tr Γ (.me f o a)).E σ M (kB QB):=rfl
theorem qEF{f:Str}:(tr Γ (.bf f a)).T σ M QB=(tr Γ (.bf f a)).E σ M (kB QB):=rfl
theorem qEB{neg:Bool}:(tr Γ (.dn neg k d)).T σ M QB=(tr Γ (.dn neg k d)).E σ M (kB QB):=rfl
theorem qEz{neg:Bool}{x:Str}:(tr Γ (.ic neg a x)).T σ M QB=(tr Γ (.ic neg a x)).E σ M (kB QB):=rfl
theorem qEv{x:Str}:(tr Γ (.tn x a)).T σ M QB=(tr Γ (.tn x a)).E σ M (kB QB):=rfl
theorem T_b{x:Bool}:(tr Γ (.b x)).T σ M QB=QB x M:=rfl
theorem qEG:(tr Γ (.an a b)).T σ M QB=(tr Γ a).T σ M fun c M1=>if c=true then(tr Γ b).T σ M1 QB else QB false M1:=by
 show qu1 _ _ σ M QB=_;unfold qu1;simp only[qb9]
theorem qEw:(tr Γ (.or a b)).T σ M QB=(tr Γ a).T σ M fun c M1=>if c=true then QB true M1 else(tr Γ b).T σ M1 QB:=by
 show rOr _ _ σ M QB=_;unfold rOr;simp only[qb9]
theorem qEx:(tr Γ (.no a)).T σ M QB=(tr Γ a).T σ M fun c M1=>QB (!c) M1:=rfl
def kAn(N:RM->Prop)(Q:RVK):RVK:=fun x M=>match x with| .bl c=>if c=true then N M else Q (.bl false) M|_=>False
def kOr(N:RM->Prop)(Q:RVK):RVK:=fun x M=>match x with| .bl c=>if c=true then Q (.bl true) M else N M|_=>False
theorem qbH{N:RM->Prop}{c:Bool}:kAn N Q (.bl c) M=if c=true then N M else Q (.bl false) M:=rfl
theorem qoN{N:RM->Prop}{c:Bool}:kOr N Q (.bl c) M=if c=true then Q (.bl true) M else N M:=rfl
theorem qCH:(tr Γ (.an a b)).E σ M Q=(tr Γ a).E σ M (kAn (fun M1=>(tr Γ b).E σ M1 Q) Q):=by
 show qna _ _ σ M Q=_;unfold qna kAn;simp only[qb9]<;>rfl
theorem qCg:(tr Γ (.or a b)).E σ M Q=(tr Γ a).E σ M (kOr (fun M1=>(tr Γ b).E σ M1 Q) Q):=by
 show quV _ _ σ M Q=_;unfold quV kOr;simp only[qb9]<;>rfl
def kNo(Q:RVK):RVK:=fun x M=>match x with| .bl c=>Q (.bl (!c)) M|_=>False
theorem qtC{c:Bool}:kNo Q (.bl c) M=Q (.bl (!c)) M:=rfl
theorem qCi:(tr Γ (.no a)).E σ M Q=(tr Γ a).E σ M (kNo Q):=rfl
theorem qCo:(tr Γ (.ie t a b)).E σ M Q=(tr Γ t).T σ M fun c M1=>if c=true then(tr Γ a).E σ M1 Q else(tr Γ b).E σ M1 Q:=by
 show rIf _ _ _ σ M Q=_;unfold rIf;simp only[qb9]
theorem qB8:(tr Γ (.tu a)).E σ M Q=(tr Γ a).A σ M fun rs M1=>rs.length<=sizeLine/\Q (.tup rs) M1:=rfl
theorem qCm:(tr Γ (.ll a)).E σ M Q=(tr Γ a).A σ M fun rs M1=>rs.length<=sizeLine/\Q (.ls rs) M1:=rfl
theorem qCl:(tr Γ (.lm a)).E σ M Q=(tr Γ a).A σ M fun rs M1=>rs.length<=sizeLine/\∀ p,M1 p=none->Q (.ref p) (put M1 p (.lst rs)):=rfl
theorem qCr:(tr Γ .e0).A σ M QA=QA [] M:=rfl
theorem qCq:(tr Γ (.ec a r)).A σ M QA=(tr Γ a).E σ M fun x M1=>(tr Γ r).A σ M1 fun xs M2=>QA (x::xs) M2:=rfl
theorem qCn:(tr Γ (.ix a b)).E σ M Q=(tr Γ a).E σ M fun x M1=>(tr Γ b).E σ M1 fun y M2=>rIx x y M2 Q:=rfl
theorem qCc:(tr Γ (.sl a l h)).E σ M Q=(tr Γ a).E σ M fun x M1=>(tr Γ l).P σ M1 fun lo M2=>(tr Γ h).P σ M2 fun u M3=>qov x lo u M3 Q:=rfl
theorem qCf:(tr Γ .p0).P σ M QP=QP none M:=rfl
def kP(Q:Option Int->RM->Prop):RVK:=fun x M=>match x with| .int i=>Q (some i) M|_=>False
theorem qtB{i:Int}:kP QP (.int i) M=QP (some i) M:=rfl
theorem qCe:(tr Γ (.p1 a)).P σ M QP=(tr Γ a).E σ M (kP QP):=rfl
theorem qCp{c:Nat}{f:Str}:(tr Γ (.fl c f a)).E σ M Q=(tr Γ a).E σ M (kFl (Γ.C c) f Q):=rfl
theorem qCD{f:Nat}:(tr Γ (.ca f a)).E σ M Q=(tr Γ a).A σ M fun rs M1=>Γ.fn f rs M1 Q:=rfl
theorem qb2{f:Nat}{d:FD}(h:Γ.S.fd[f]? =some d):(tr Γ (.me f o a)).E σ M Q=(tr Γ o).E σ M (kMe (Γ.C d.cls) d.name (Γ.fn f) (tr Γ a).A σ Q):=by
 show(match Γ.S.fd[f]? with|some d=>uMe (Γ.C d.cls) d.name (Γ.fn f) (tr Γ o).E (tr Γ a).A|none=>qbj) σ M Q=_
 rw[h];rfl
theorem qrQ{f:Nat}{d:FD}(h:Γ.S.fd[f]? =some d):(tr Γ (.mk f a)).E σ M Q=(tr Γ a).A σ M fun rs M1=>∀ x,M1 x=none->Γ.ini f (.ref x::rs) (put M1 x (.ins (Γ.C d.cls) [])) fun v M2=>v= .non/\Q (.ref x) M2:=by
 show(match Γ.S.fd[f]? with|some d=>qjB (Γ.C d.cls) (Γ.ini f) (tr Γ a).A|none=>qbj) σ M Q=_
 rw[h];rfl
theorem qCF{f:Str}:(tr Γ (.bf f a)).E σ M Q=(tr Γ a).A σ M fun rs M1=>bfR f rs M1 Q:=rfl
theorem qCE{f:Str}:(tr Γ (.bt f a)).E σ M Q=(tr Γ a).A σ M fun rs M1=>btR f rs M1 Q:=rfl
theorem qCw:(tr Γ (.dg d k)).E σ M Q=(tr Γ d).E σ M fun x M1=>(tr Γ k).E σ M1 fun y M2=>qrI Q x y M2:=rfl
theorem qCu{neg:Bool}:(tr Γ (.dn neg k d)).E σ M Q=(tr Γ k).E σ M fun y M1=>(tr Γ d).E σ M1 fun x M2=>uIn neg Q x y M2:=rfl
theorem qCy:(tr Γ (.d1 d k)).E σ M Q=(tr Γ d).E σ M fun x M1=>isD M1 x/\(tr Γ k).E σ M1 fun y M2=>qhQ Q x y .non M2:=rfl
theorem qCv:(tr Γ .dk).E σ M Q= ∀ p,M p=none->Q (.ref p) (put M p (.dk [])):=rfl
theorem qCt:(tr Γ .dt).E σ M Q= ∀ p,M p=none->Q (.ref p) (put M p (.dt [])):=rfl
theorem qpr{neg:Bool}{x:Str}{ss:LSt}(h:Γ.S.gt.lookup x=some ss):(tr Γ (.ic neg a x)).E σ M Q=(tr Γ a).E σ M fun x M1=>okR 15 x=true/\Q (.bl (if neg then !inR x (ss.map RV.str)else inR x (ss.map RV.str))) M1:=by
 show(match Γ.S.gt.lookup x with|some ss=>qrr neg ss (tr Γ a).E|none=>qbj) σ M Q=_
 rw[h];rfl
theorem qcn:(tr Γ (.se a b)).S D σ M=(tr Γ a).S { D with nx:=(tr Γ b).S D } σ M:=rfl
theorem qDb:(tr Γ .en).S D σ M=D.nx σ M:=rfl
theorem qaN:(tr Γ (.set i a)).S D σ M=(tr Γ a).E σ M fun x M1=>D.nx (σ.set i (some x)) M1:=rfl
theorem qC5:(tr Γ (.re a)).S D σ M=(tr Γ a).E σ M D.rt:=rfl
theorem qC8:(tr Γ (.if_ t a b)).S D σ M=(tr Γ t).T σ M fun c M1=>if c=true then(tr Γ a).S D σ M1 else(tr Γ b).S D σ M1:=by
 show quZ _ _ _ D σ M=_;unfold quZ;simp only[qb9]
theorem qDa:(tr Γ (.ex a)).S D σ M=(tr Γ a).E σ M fun _ M1=>D.nx σ M1:=rfl
theorem qC3{c:Nat}{f:Str}:(tr Γ (.sf c f o a)).S D σ M=(tr Γ a).E σ M fun y M1=>(tr Γ o).E σ M1 (kSf (Γ.C c) f y (D.nx σ)):=rfl
theorem qDc:(tr Γ (.dp d k a)).S D σ M=(tr Γ a).E σ M fun v M1=>(tr Γ d).E σ M1 fun x M2=>(tr Γ k).E σ M2 fun y M3=>dPt M3 x y v (D.nx σ):=rfl
def kUn(is:List Nat)(σ:RSt)(N:RSt->RM->Prop):RVK:=fun x M=>match x with| .tup xs=>xs.length=is.length/\N (qfh σ is xs) M|_=>False
theorem qqx{is:List Nat}{xs:LR}{N:RSt->RM->Prop}:kUn is σ N (.tup xs) M=(xs.length=is.length/\N (qfh σ is xs) M):=rfl
theorem qC1{is:List Nat}:(tr Γ (.un is a)).S D σ M=(tr Γ a).E σ M (kUn is σ D.nx):=rfl
theorem qjH{i j:Int}:opR .Add (.int i) (.int j) M Q=Q (.int (i+j)) M:=rfl
theorem qwR{i j:Int}:opR .Sub (.int i) (.int j) M Q=Q (.int (i-j)) M:=rfl
theorem qEf{i j:Int}:cmR .Lt (.int i) (.int j) M Q=Q (.bl (decide (i<j))) M:=rfl
theorem qEg{i j:Int}:cmR .LtE (.int i) (.int j) M Q=Q (.bl (decide (i<=j))) M:=rfl
theorem qAO{i j:Int}:cmR .Gt (.int i) (.int j) M Q=Q (.bl (decide (j<i))) M:=rfl
theorem qEi{i j:Int}:cmR .GtE (.int i) (.int j) M Q=Q (.bl (decide (j<=i))) M:=rfl
theorem qEh{x:RV}:cmR .Is x .non M Q=Q (.bl (isN x)) M:=rfl
theorem qrc{x:RV}:cmR .IsNot x .non M Q=Q (.bl (!isN x)) M:=rfl
theorem qxN{i j:Int}:cmR .Eq (.int i) (.int j) M Q=Q (.bl (i==j)) M:=by
 show(_/\_/\Q (.bl (eqR (.int i) (.int j))) M)=_;simp[qa3,okR,eqR]
theorem qoa{i j:Str}:cmR .Eq (.str i) (.str j) M Q=Q (.bl (i==j)) M:=by
 show(_/\_/\Q (.bl (eqR (.str i) (.str j))) M)=_;simp[qa3,okR,eqR]
theorem qun{i j:Int}:cmR .NotEq (.int i) (.int j) M Q=Q (.bl (!(i==j))) M:=by
 show(_/\_/\Q (.bl (!eqR (.int i) (.int j))) M)=_;simp[qa3,okR,eqR]
theorem qum{i j:Str}:cmR .NotEq (.str i) (.str j) M Q=Q (.bl (!(i==j))) M:=by
 show(_/\_/\Q (.bl (!eqR (.str i) (.str j))) M)=_;simp[qa3,okR,eqR]
end
section
variable {Γ:G}{σ:RSt}{M:RM}{Q:RVK}{D:RD}{a b c d e t l h o k r it:T}{i n:Nat}{QB:Bool->RM->Prop}{QA:LR->RM->Prop}{QI:LR->(RM->Prop)->(RM->RM)->RM->Prop}{x:Addr}{f:Str}{C:Addr}{N:RM->Prop}{y v z:RV}
def wO{α:Type}(o:Option α)(Q:α->Prop):Prop:=match o with|some v=>Q v|none=>False
theorem qkh{α:Type}{v:α}{Q:α->Prop}:wO (some v) Q=Q v:=rfl
def fO(C:Addr)(f:Str)(Q:RVK)(M:RM)(o:Option RO):Prop:=match o with
 |some (.ins C' fs)=>C'=C/\wO (fs.lookup f) fun v=>Q v M
 |_=>False
theorem qqF:kFl C f Q (.ref x) M=fO C f Q M (M x):=by
 show(match M x with|some (.ins C' fs)=>C'=C/\(match fs.lookup f with|some v=>Q v M|none=>False)|_=>False)=_
 unfold fO;cases M x with
 |none=>rfl
 |some u=>
  cases u<;>first|rfl|skip
  rename_i C' fs;show(C'=C/\(match fs.lookup f with|some v=>Q v M|none=>False))=(C'=C/\wO (fs.lookup f) fun v=>Q v M)
  cases fs.lookup f<;>rfl
theorem qtX{fs:List (Str×RV)}:fO C f Q M (some (.ins C fs))=wO (fs.lookup f) fun v=>Q v M:=by
 show(C=C/\_)=_;rw[eq_self_iff_true,true_and]
def sO(C:Addr)(f:Str)(y:RV)(N:RM->Prop)(x:Addr)(M:RM)(o:Option RO):Prop:=match o with
 |some (.ins C' fs)=>C'=C/\fs.length<1000/\N (put M x (.ins C (qe0 f y fs)))
 |_=>False
theorem qqz:kSf C f y N (.ref x) M=sO C f y N x M (M x):=rfl
theorem qr4{fs:List (Str×RV)}:sO C f y N x M (some (.ins C fs))=(fs.length<1000/\N (put M x (.ins C (qe0 f y fs)))):=by
 show(C=C/\_)=_;rw[eq_self_iff_true,true_and]
def mO(C:Addr)(m:Str)(sp:RSp)(t:RTA)(σ:RSt)(Q:RVK)(x:Addr)(M:RM)(o:Option RO):Prop:=match o with
 |some (.ins C' fs)=>C'=C/\fs.lookup m=none/\t σ M fun rs M2=>sp (.ref x::rs) M2 Q
 |_=>False
theorem qqB{m:Str}{sp:RSp}{t:RTA}:kMe C m sp t σ Q (.ref x) M=mO C m sp t σ Q x M (M x):=rfl
theorem qtj{m:Str}{sp:RSp}{t:RTA}{fs:List (Str×RV)}:mO C m sp t σ Q x M (some (.ins C fs))=(fs.lookup m=none/\t σ M fun rs M2=>sp (.ref x::rs) M2 Q):=by
 show(C=C/\_)=_;rw[eq_self_iff_true,true_and]
def gO(Q:RVK)(y:RV)(M:RM)(o:Option RO):Prop:=match o.bind (qrx · y)with
 |some (some v)=>Q v M
 |_=>False
theorem qmP:qrI Q (.ref x) y M=gO Q y M (M x):=rfl
def iO(neg:Bool)(Q:RVK)(y:RV)(M:RM)(o:Option RO):Prop:=match o.bind (qrx · y)with
 |some r=>Q (.bl (if neg then !r.isSome else r.isSome)) M
 |none=>False
theorem qpm{neg:Bool}:uIn neg Q (.ref x) y M=iO neg Q y M (M x):=rfl
def dO(Q:RVK)(y z:RV)(M:RM)(o:Option RO):Prop:=match o.bind (qrx · y)with
 |some r=>Q (r.getD z) M
 |none=>False
theorem qki:qhQ Q (.ref x) y z M=dO Q y z M (M x):=rfl
def qO(o:Option RO):Prop:=match o with
 |some (.dk _)=>True
 |some (.dt _)=>True
 |some (.fk _)=>True
 |some (.ft _)=>True
 |_=>False
theorem qqT:isD M (.ref x)=qO (M x):=rfl
theorem qwy{kvs:LKR}:qO (some (.dk kvs))=True:=rfl
theorem qwx{kvs:List (TK×RV)}:qO (some (.dt kvs))=True:=rfl
theorem qxl{kvs:LKR}{m:Int}:gO Q (.int m) M (some (.dk kvs))=wO (lk kvs (.inl m)) fun v=>Q v M:=by
 show(match some (lk kvs (.inl m))with|some (some v)=>Q v M|_=>False)=_
 cases lk kvs (.inl m)<;>rfl
theorem qxf{neg:Bool}{kvs:LKR}{m:Int}:iO neg Q (.int m) M (some (.dk kvs))=Q (.bl (if neg then !(lk kvs (.inl m)).isSome else(lk kvs (.inl m)).isSome)) M:=rfl
theorem qxz{kvs:LKR}{m:Int}:dO Q (.int m) z M (some (.dk kvs))=Q ((lk kvs (.inl m)).getD z) M:=rfl
theorem qn2{kvs:List (TK×RV)}{s:TK}(h:qgl y=some s):dO Q y z M (some (.dt kvs))=Q ((lk kvs s).getD z) M:=by
 show(match(qgl y).map (lk kvs)with|some r=>Q (r.getD z) M|none=>False)=_
 rw[h];rfl
def pO(y v:RV)(N:RM->Prop)(x:Addr)(M:RM)(o:Option RO):Prop:=match o with
 |some (.dk kvs)=>match qgm y with
  |some k=>kvs.length<sizeLine/\N (put M x (.dk (pt kvs k v)))
  |none=>False
 |some (.dt kvs)=>match qgl y with
  |some k=>kvs.length<sizeLine/\N (put M x (.dt (pt kvs k v)))
  |none=>False
 |_=>False
noncomputable def dlO (y:RV)(N:RM->Prop)(x:Addr)(M:RM):Option RO->Prop
 |some (.dk kvs)=>match qgm y with
  |some k=>(lk kvs k).isSome=true/\N (put M x (.dk (dr kvs k)))
  |none=>False
 |some (.dt kvs)=>match qgl y with
  |some k=>(lk kvs k).isSome=true/\N (put M x (.dt (dr kvs k)))
  |none=>False
 |_=>False
theorem qq8:dDl M (.ref x) y N=dlO y N x M (M x):=rfl
theorem qt4{kvs:LKR}{m:Int}:dlO (.int m) N x M (some (.dk kvs))=((lk kvs (.inl m)).isSome=true/\N (put M x (.dk (dr kvs (.inl m))))):=rfl
theorem qhs{kvs:List (TK×RV)}{s:TK}(h:qgl y=some s):dlO y N x M (some (.dt kvs))=((lk kvs s).isSome=true/\N (put M x (.dt (dr kvs s)))):=by
 unfold dlO;simp only[h]
theorem qq5:dPt M (.ref x) y v N=pO y v N x M (M x):=rfl
theorem qwK{kvs:LKR}{m:Int}:pO (.int m) v N x M (some (.dk kvs))=(kvs.length<sizeLine/\N (put M x (.dk (pt kvs (.inl m) v)))):=rfl
theorem qjE{kvs:List (TK×RV)}{s:TK}(h:qgl y=some s):pO y v N x M (some (.dt kvs))=(kvs.length<sizeLine/\N (put M x (.dt (pt kvs s v)))):=by
 show(match qgl y with|some k=>kvs.length<sizeLine/\N (put M x (.dt (pt kvs k v)))|none=>False)=_
 rw[h]
theorem qCx:(tr Γ (.d2 d k c)).E σ M Q=(tr Γ d).E σ M fun x M1=>isD M1 x/\(tr Γ k).E σ M1 fun y M2=>(tr Γ c).E σ M2 fun z M3=>qhQ Q x y z M3:=rfl
def aO(t:RTA)(σ:RSt)(Q:RVK)(x:Addr)(M:RM)(o:Option RO):Prop:=match o with
 |some (.lst _)=>t σ M fun rs M2=>∃ ys y,rs= [y]/\M2 x=some (.lst ys)/\ys.length<sizeLine/\Q .non (put M2 x (.lst (ys++ [y])))
 |_=>False
def kAp(t:RTA)(σ:RSt)(Q:RVK):RVK:=fun v M=>match v with
 | .ref x=>aO t σ Q x M (M x)
 |_=>False
theorem qCG:(tr Γ (.ap o a)).E σ M Q=(tr Γ o).E σ M (kAp (tr Γ a).A σ Q):=by
 show qu0 _ _ σ M Q=_;unfold qu0;congr 1;funext v M1;cases v<;>try rfl
 rename_i p;show((∃ ys,M1 p=some (.lst ys))/\_)=aO _ _ _ p M1 (M1 p);cases e:M1 p with
 |none=>exact propext ⟨fun z=>(by obtain⟨⟨_,z⟩,_⟩:=z;cases z),fun z=>z.elim⟩
 |some u=>cases u<;>first|exact propext ⟨fun z=>(by obtain⟨⟨_,z⟩,_⟩:=z;cases z),fun z=>z.elim⟩|exact propext ⟨fun z=>z.2,fun z=>⟨⟨_,rfl⟩,z⟩⟩
theorem qqG{t:RTA}:kAp t σ Q (.ref x) M=aO t σ Q x M (M x):=rfl
theorem quE{t:RTA}{xs:LR}:aO t σ Q x M (some (.lst xs))=t σ M fun rs M2=>∃ ys y,rs= [y]/\M2 x=some (.lst ys)/\ys.length<sizeLine/\Q .non (put M2 x (.lst (ys++ [y]))):=rfl
theorem xi_tup{xs:LR}{m:Int}:rIx (.tup xs) (.int m) M Q=wO (atI xs m) fun v=>Q v M:=by
 show(match atI xs m with|some v=>Q v M|none=>False)=_
 cases atI xs m<;>rfl
theorem qrA{xs:LR}{m:Int}:rIx (.ls xs) (.int m) M Q=wO (atI xs m) fun v=>Q v M:=by
 show(match atI xs m with|some v=>Q v M|none=>False)=_
 cases atI xs m<;>rfl
def xO(m:Int)(Q:RVK)(M:RM)(o:Option RO):Prop:=match o with
 |some (.lst xs)=>wO (atI xs m) fun v=>Q v M
 |_=>False
theorem qrz{m:Int}:rIx (.ref x) (.int m) M Q=xO m Q M (M x):=by
 show(match M x with|some (.lst xs)=>(match atI xs m with|some v=>Q v M|none=>False)|_=>False)=_
 unfold xO;cases M x with
 |none=>rfl
 |some u=>
  cases u<;>first|rfl|skip
  rename_i xs;show(match atI xs m with|some v=>Q v M|none=>False)=wO (atI xs m) fun v=>Q v M
  cases atI xs m<;>rfl
theorem qrB{m:Int}{xs:LR}:xO m Q M (some (.lst xs))=wO (atI xs m) fun v=>Q v M:=rfl
theorem qug{xs:LR}{lo hi:Option Int}:qov (.tup xs) lo hi M Q=Q (.tup (qiF xs lo hi)) M:=rfl
theorem qxD{xs:LR}{lo hi:Option Int}:qov (.ls xs) lo hi M Q=Q (.ls (qiF xs lo hi)) M:=rfl
theorem qCj{md:Bool}:(tr Γ (.lv md a)).E σ M Q=(tr Γ a).E σ M (kLv md Q):=rfl
def vO(md:Bool)(Q:RVK)(M:RM)(o:Option RO):Prop:=wO (o.bind qme) fun xs=>qnV md xs M Q
theorem qqC{md:Bool}:kLv md Q (.ref x) M=vO md Q M (M x):=by
 show(match(M x).bind qme with|some xs=>qnV md xs M Q|none=>False)=_
 unfold vO;cases(M x).bind qme<;>rfl
theorem qvo{md:Bool}{kvs:LKR}:vO md Q M (some (.dk kvs))=qnV md (kvs.map (·.2)) M Q:=rfl
theorem qvn{md:Bool}{kvs:List (TK×RV)}:vO md Q M (some (.dt kvs))=qnV md (kvs.map (·.2)) M Q:=rfl
theorem ql2{xs:LR}:qnV false xs M Q=Q (.ls xs) M:=rfl
theorem qtY{xs:LR}:qnV true xs M Q= ∀ p,M p=none->Q (.ref p) (put M p (.lst xs)):=rfl
def kPr(i j:Nat)(σ:RSt)(N:RSt->RM->Prop):LR->RM->Prop:=fun rs M1=>match rs with
 | [v,w]=>N ((σ.set i (some v)).set j (some w)) M1
 |_=>False
theorem qC7{j:Nat}:(tr Γ (.pr i j a)).S D σ M=(tr Γ a).A σ M (kPr i j σ D.nx):=rfl
theorem qqA{j:Nat}{N:RSt->RM->Prop}:kPr i j σ N [v,y] M=N ((σ.set i (some v)).set j (some y)) M:=rfl
theorem qvV{c:Nat}:(tr Γ (.af c f o a)).S D σ M=(tr Γ o).E σ M (kAf (Γ.C c) f (tr Γ a).E σ (D.nx σ)):=rfl
theorem qC2:(tr Γ (.sp l k a)).S D σ M=(tr Γ a).E σ M fun v M1=>(tr Γ l).E σ M1 fun o M2=>(tr Γ k).E σ M2 fun i M3=>qh5 o i v M3 fun M4=>D.nx σ M4:=rfl
theorem qC9{tup:Bool}{is:List Nat}:(tr Γ (.fo tup is it b)).S D σ M=(tr Γ it).I σ M fun xs ok un M1=>qem (match tup,is with|true,is=>rgU is|false,[i]=>rgN i|_,_=>fun _ _ _ _=>False) (tr Γ b).S D ok un xs σ M1:=rfl
noncomputable def kS (Q:LR->(RM->Prop)->(RM->RM)->RM->Prop):RVK:=fun v M1=>match v with
 | .tup xs=>Q xs okT id M1
 | .ls xs=>Q xs okT id M1
 | .ref a=>match M1 a with
  |some (.lst xs)=>Q xs (fun M=>M a=some (.lst xs)) id M1
  |_=>False
 |_=>False
theorem qDV:(tr Γ (.is a)).I σ M QI=(tr Γ a).E σ M (kS QI):=rfl
theorem qw8{xs:LR}:kS QI (.ls xs) M=QI xs okT id M:=rfl
theorem qtA{xs:LR}:kS QI (.tup xs) M=QI xs okT id M:=rfl
theorem qDT:(tr Γ (.r1 a)).I σ M QI=(tr Γ a).E σ M fun v M1=>qkS QI [v] M1:=rfl
theorem qwo{m:Int}:qkS QI [.int m] M=(-(2 ^ 62)<=m/\m<2 ^ 62/\QI (nums m.toNat) okT id M):=rfl
theorem qDU:(tr Γ (.iv a)).I σ M QI=(tr Γ a).E σ M (qrt false QI):=rfl
theorem qDW:(tr Γ (.im a)).I σ M QI=(tr Γ a).E σ M (qqE QI):=rfl
theorem qCA{md tup:Bool}{nm:LSt}{cap:List (Nat×Str)}:(tr Γ (.cp md tup nm cap it t a)).E σ M Q=(tr Γ it).I σ M fun xs ok un M1=>xs.length<sizeLine/\qaV (qod tup nm.length) md ok un (tr Γ t).T (tr Γ a).E ((cap.map Prod.fst).map fun i=>(σ[i]?).join) xs [] M1 Q:=rfl
theorem qC4{md tup:Bool}{nm:LSt}{cap:List (Nat×Str)}:(tr Γ (.sc i md tup nm cap it t a)).S D σ M=(tr Γ (.cp md tup nm cap it t a)).E σ M fun x M1=>D.nx (σ.set i (some x)) M1:=rfl
theorem qgc{bd:RV->Option (LR)}{md:Bool}{ok:RM->Prop}{un:RM->RM}{tt:RTT}{te:RTE}{base:List (Option RV)}{Q:RVK}{M:RM}(p:RV->Bool)(g:RV->RV)(hok:ok M):∀ (xs acc:LR),
 (∀ x∈xs,∃ bs,bd x=some bs/\(∀ K:Bool->RM->Prop,K (p x) M->tt (bs.map some++base) M K)/\(p x=true->∀ K:RVK,K (g x) M->te (bs.map some++base) M K))->
 qnV md (acc++(xs.filter p).map g) (un M) Q->qaV bd md ok un tt te base xs acc M Q
 | [],acc,_,h=>⟨hok,by simpa using h⟩
 |x::xs,acc,hx,h=>by
  obtain⟨bs,h1,h2,h3⟩:=hx x (.head _);have hx':=fun y hy=>hx y (wat x hy)
  refine⟨hok,?_⟩;rw[h1];refine h2 _ ⟨fun hp=>h3 hp _ (qgc p g hok xs _ hx' ?_),fun hp=>qgc p g hok xs _ hx' ?_⟩
  · rw[List.filter_cons_of_pos hp,wan]at h
    simpa using h
  · rw[List.filter_cons_of_neg (by simp[hp])]at h
    exact h
theorem ql0{g:RTG}{tb:RTS}{ok:RM->Prop}{un:RM->RM}(I:LR->RSt->RM->Prop)(hok:∀ xs σ M,I xs σ M->ok M)(hend:∀ σ M,I [] σ M->D.nx σ (un M))
 (hstep:∀ x xs σ M (W:LR->RSt->RM->Prop),I (x::xs) σ M->(∀ σ' M',I xs σ' M'->W xs σ' M')->g x σ M fun σ2 M2=>tb { D with nx:=W xs,ct:=W xs,bk:=fun σ M=>ok M/\D.nx σ (un M),rt:=fun v M=>ok M/\D.rt v (un M) } σ2 M2):∀ xs σ M,I xs σ M->qem g tb D ok un xs σ M
 | [],σ,M,h=>⟨hok _ _ _ h,hend _ _ h⟩
 |x::xs,σ,M,h=>⟨hok _ _ _ h,hstep x xs σ M (fun xs=>qem g tb D ok un xs) h fun σ' M' h'=>ql0 I hok hend hstep xs σ' M' h'⟩
theorem quB{i:Int}:bfR "isinstance" [.int i,.ty "int"] M Q=Q (.bl true) M:=rfl
theorem quC{i:Int}:bfR "isinstance" [.int i,.ty "bool"] M Q=Q (.bl false) M:=rfl
theorem qrk{b:Bool}:bfR "isinstance" [.bl b,.ty "bool"] M Q=Q (.bl true) M:=rfl
theorem quA{x:Str}:bfR "isinstance" [.str x,.ty "str"] M Q=Q (.bl true) M:=rfl
theorem quz{xs:LR}:bfR "isinstance" [.tup xs,.ty "tuple"] M Q=Q (.bl true) M:=rfl
theorem qrh{xs:LR}:bfR "len" [.tup xs] M Q=Q (.int xs.length) M:=rfl
theorem qri{x:Str}:bfR "len" [.str x] M Q=(x.length<=sizeLine/\Q (.int x.length) M):=rfl
theorem qrj{xs:LR}:bfR "len" [.ls xs] M Q=Q (.int xs.length) M:=rfl
theorem quy{i j:Int}:bfR "max" [.int i,.int j] M Q=Q (.int (if j > i then j else i)) M:=rfl
theorem qux{x:Str}:bfR "ord" [.str x] M Q=(x.length=1/\Q (.int (x.cps.getD 0 0:Nat)) M):=rfl
theorem qpb{bs:List Bool}:bfR "all" [.ls (bs.map RV.bl)] M Q=Q (.bl (bs.all id)) M:=by
 refine propext ⟨fun h=>?_,fun h=>⟨bs,rfl,h⟩⟩
 obtain⟨bs',e,h⟩:=h;have e:bs.map RV.bl=bs'.map RV.bl:=by injection e with e1 _;injection e1
 have:bs=bs':=List.map_inj_right (fun a b z=>by cases z;rfl)|>.mp e
 subst this;exact h
theorem quD{a b:Bool}:(if a=true then Q (.bl b) M else Q (.bl false) M)=Q (.bl (a&&b)) M:=by cases a<;>rfl
theorem qC6:(tr Γ .ra).S D σ M=False:=rfl
theorem qCb:(tr Γ (.sw o a)).E σ M Q=(tr Γ o).E σ M (qlu (tr Γ a).A σ Q):=rfl
theorem qjS{t:RTA}{z:Str}:qlu t σ Q (.str z) M=t σ M fun rs M2=>∃ y,rs= [.str y]/\(y.length==0)=false/\z.length+2<=sizeLine/\Q (.ls ((Txt.split z y).map RV.str)) M2:=rfl
theorem qCs{ks:LSt}:(tr Γ (.dy ks a)).E σ M Q= ∀ p,M p=none->qm8 (ks.zip (tr Γ a).L) σ (put M p (.dk [])) fun ps M2=>M2 p=some (.dk [])/\Q (.ref p) (put M2 p (.dk ps)):=rfl
theorem qDS:(tr Γ (.st a)).I σ M QI=(tr Γ a).E σ M fun v M1=>match v with| .str x=>QI (qbb x) okT id M1|_=>False:=rfl
theorem qqQ:isN .non=true:=rfl
theorem qqO{x:Str}:isN (.str x)=false:=rfl
theorem qqR{i:Int}:isN (.int i)=false:=rfl
theorem qqP:isN (.ref x)=false:=rfl
theorem qqN{xs:LR}:isN (.tup xs)=false:=rfl
theorem qmS{x:Str}:(x==x)=true:=by simp
theorem qo9{x:Str}:cmR .Eq .non (.str x) M Q=Q (.bl false) M:=by
 show(_/\_/\Q (.bl (eqR .non (.str x))) M)=_;simp[qa3,okR,eqR]
theorem qb1{α:Type}{xs:List α}{k:Nat}{v:α}(h:xs[k]? =some v):atI xs (k:Int)=some v:=by
 have hk:k<xs.length:=(wax.mp h).1;have e:ixN xs.length (k:Int)=some k:=by
  unfold ixN;simp;omega
 unfold atI;rw[e];exact h
theorem qxV{α:Type}{a0:α}{r:List α}:atI (a0::r) 0=some a0:=qb1 (k:=0) rfl
theorem qvb{α:Type}{a0 a1:α}{r:List α}:atI (a0::a1::r) 1=some a1:=qb1 (k:=1) rfl
theorem qxU{α:Type}{a0 a1 a2:α}{r:List α}:atI (a0::a1::a2::r) 2=some a2:=qb1 (k:=2) rfl
theorem qxT{α:Type}{a0 a1 a2 a3:α}{r:List α}:atI (a0::a1::a2::a3::r) 3=some a3:=qb1 (k:=3) rfl
theorem qxS{α:Type}{a0 a1 a2 a3 a4:α}{r:List α}:atI (a0::a1::a2::a3::a4::r) 4=some a4:=qb1 (k:=4) rfl
theorem qAS{α:Type}{a0 a1 a2 a3 a4 a5:α}{r:List α}:atI (a0::a1::a2::a3::a4::a5::r) 5=some a5:=qb1 (k:=5) rfl
theorem qAR{α:Type}{a0 a1 a2 a3 a4 a5 a6:α}{r:List α}:atI (a0::a1::a2::a3::a4::a5::a6::r) 6=some a6:=qb1 (k:=6) rfl
theorem qAQ{α:Type}{a0 a1 a2 a3 a4 a5 a6 a7:α}{r:List α}:atI (a0::a1::a2::a3::a4::a5::a6::a7::r) 7=some a7:=qb1 (k:=7) rfl
theorem z_0:(0<=sizeLine)=True:=eq_true (by decide)
theorem qBK:(0<sizeLine)=True:=eq_true (by decide)
theorem qxJ:((0:Nat):Int)=0:=rfl
theorem z_1:(1<=sizeLine)=True:=eq_true (by decide)
theorem qBJ:(1<sizeLine)=True:=eq_true (by decide)
theorem qu9:((1:Nat):Int)=1:=rfl
theorem z_2:(2<=sizeLine)=True:=eq_true (by decide)
theorem qBI:(2<sizeLine)=True:=eq_true (by decide)
theorem qEe:((2:Nat):Int)=2:=rfl
theorem z_3:(3<=sizeLine)=True:=eq_true (by decide)
theorem qBH:(3<sizeLine)=True:=eq_true (by decide)
theorem qEd:((3:Nat):Int)=3:=rfl
theorem z_4:(4<=sizeLine)=True:=eq_true (by decide)
theorem qBG:(4<sizeLine)=True:=eq_true (by decide)
theorem qEc:((4:Nat):Int)=4:=rfl
theorem z_5:(5<=sizeLine)=True:=eq_true (by decide)
theorem qBF:(5<sizeLine)=True:=eq_true (by decide)
theorem qEb:((5:Nat):Int)=5:=rfl
theorem z_6:(6<=sizeLine)=True:=eq_true (by decide)
theorem qBE:(6<sizeLine)=True:=eq_true (by decide)
theorem qEa:((6:Nat):Int)=6:=rfl
theorem z_7:(7<=sizeLine)=True:=eq_true (by decide)
theorem qBD:(7<sizeLine)=True:=eq_true (by decide)
theorem qD9:((7:Nat):Int)=7:=rfl
theorem z_8:(8<=sizeLine)=True:=eq_true (by decide)
theorem qBC:(8<sizeLine)=True:=eq_true (by decide)
theorem qD8:((8:Nat):Int)=8:=rfl
theorem z_9:(9<=sizeLine)=True:=eq_true (by decide)
theorem qBB:(9<sizeLine)=True:=eq_true (by decide)
theorem qD7:((9:Nat):Int)=9:=rfl
theorem qto{k:Nat}:(((k+1:Nat):Int)==0)=false:=by simp;omega
theorem qxC{x:RV}{r:LR}:qiF (x::r) (some 1) none=r:=by
 unfold qiF;rw[show HT.sIx (x::r).length 0 (some 1)=1 from by show min 1 (r.length+1)=1;omega,HT.sIx_none]
 simp
def tO(key:Option Key)(kvs:LKR)(Q:RVK)(M:RM):Prop:=match key with
 |some k=>wO (qbC kvs k) fun v=>Q v M
 |none=>False
theorem qB7{x:Str}:(tr Γ (.tx x a)).E σ M Q=(tr Γ a).E σ M fun y M1=>tO (qgm y) (Γ.tb x) Q M1:=by
 show quU (Γ.tb x) _ σ M Q=_;unfold quU;congr 1;funext y M1;unfold tO wO;generalize qgm y=q;cases q with
 |none=>rfl
 |some k=>
  dsimp only;cases qbC (Γ.tb x) k<;>rfl
theorem qrT{x:Str}{kvs:LKR}:tO (qgm (.str x)) kvs Q M=wO (qbC kvs (.inr x)) fun v=>Q v M:=rfl
theorem qB9{x:Str}:(tr Γ (.tn x a)).E σ M Q=(tr Γ a).E σ M (qd3 (Γ.tb x) Q):=rfl
theorem qqy{x:Str}{kvs:LKR}:qd3 kvs Q (.str x) M=Q (.bl (!(qbC kvs (.inr x)).isSome)) M:=rfl
noncomputable def kCv (cvs:List (Addr×RSp))(t:RTA)(σ:RSt)(Q:RVK):RVK:=fun v M1=>match v with
 | .ref f=>∃ sp,(f,sp)∈cvs/\t σ M1 fun rs M2=>sp rs M2 Q
 |_=>False
theorem qCz:(tr Γ (.cv i a)).E σ M Q=(tr Γ (.v i)).E σ M (kCv Γ.cvs (tr Γ a).A σ Q):=rfl
theorem qlv{cvs:List (Addr×RSp)}{t:RTA}:kCv cvs t σ Q (.ref x) M= ∃ sp,(x,sp)∈cvs/\t σ M fun rs M2=>sp rs M2 Q:=rfl
theorem qCk:(tr Γ (.lr a b)).E σ M Q=(tr Γ a).E σ M fun x M1=>(tr Γ b).E σ M1 fun y M2=>kLR Q [x,y] M2:=rfl
theorem qqD{i j:Int}:kLR Q [.int i,.int j] M=((-1000000<=i/\i<=1000000/\-1000000<=j/\j<=1000000)/\(j-i).toNat<=1000/\Q (.ls (qd0 i (j-i).toNat)) M):=rfl
theorem qCd{c:Nat}{f:Str}{a:T}:(tr Γ (.sk c f a)).E σ M Q=(tr Γ a).E σ M (kSK (Γ.C c) f Γ.lP Γ.S.lp Γ.S.lq Q):=rfl
theorem qDd:(tr Γ (.dd d k)).S D σ M=(tr Γ d).E σ M fun x M1=>(tr Γ k).E σ M1 fun y M2=>dDl M2 x y (D.nx σ):=rfl
theorem qtd{xs ys:LR}:opR .Add (.ls xs) (.ls ys) M Q=(xs.length+ys.length<=sizeLine/\Q (.ls (xs++ys)) M):=rfl
theorem qtc{xs ys:LR}:opR .Add (.tup xs) (.tup ys) M Q=(xs.length+ys.length<=sizeLine/\Q (.tup (xs++ys)) M):=rfl
theorem qwU{i j:Int}:opR .Mod (.int i) (.int j) M Q=(0<j/\Q (.int (i % j)) M):=rfl
theorem qwV{i j:Int}:opR .FloorDiv (.int i) (.int j) M Q=((0<j/\j<1073741824)/\Q (.int (i / j)) M):=rfl
theorem qwS{i j:Int}:opR .Pow (.int i) (.int j) M Q=((0<=j/\j<=1000000/\i.natAbs<2 ^ 64)/\Q (.int (i ^ j.toNat)) M):=rfl
theorem qwT{i j:Int}:opR .Mult (.int i) (.int j) M Q=(CMul i j/\Q (.int (i*j)) M):=rfl
def lO(k:Int)(v:RV)(N:RM->Prop)(x:Addr)(M:RM)(o:Option RO):Prop:=match o with
 |some (.lst xs)=>wO (ixN xs.length k) fun j=>N (put M x (.lst (xs.set j v)))
 |_=>False
theorem qpx{m:Int}:qh5 (.ref x) (.int m) v M N=lO m v N x M (M x):=by
 show(match M x with|some (.lst xs)=>(match ixN xs.length m with|some j=>N (put M x (.lst (xs.set j v)))|none=>False)|_=>False)=_
 unfold lO;cases M x with
 |none=>rfl
 |some u=>
  cases u<;>first|rfl|skip
  rename_i xs;show(match ixN xs.length m with|some j=>N (put M x (.lst (xs.set j v)))|none=>False)=wO (ixN xs.length m) fun j=>N (put M x (.lst (xs.set j v)))
  cases ixN xs.length m<;>rfl
theorem qtr{m:Int}{xs:LR}:lO m v N x M (some (.lst xs))=wO (ixN xs.length m) fun j=>N (put M x (.lst (xs.set j v))):=rfl
theorem qxb:ixN 3 0=some 0:=rfl
theorem qxa:ixN 3 1=some 1:=rfl
theorem qw9:ixN 3 2=some 2:=rfl
end
end R
namespace K08
open PySem PySem.Spec PyProof.Rows L2 R
def top(i:Nat):Stmt:=PySem.Challenge.pw_lentgate_k08_a_line_word_by_word.main.body.getD i (.Pass ⟨0,0,0,0⟩)
section
local macro_rules | `($a ^ $b) => `(T.ec $a $b)
local macro_rules | `($a >=> $b) => `(T.se $a $b)
noncomputable def qcg:FD:=⟨0,0,"is_whole",["thing"],["thing"],.re (.an (.bf "isinstance" (.v 0^.ty "int"^.e0)) (.no (.bf "isinstance" (.v 0^.ty "bool"^.e0))))>=>.en⟩
noncomputable def qck:FD:=⟨0,0,"is_house",["thing"],["thing"],.re (.ca 47 (.v 0^.i 0^.g "GREATEST_HOUSE"^.e0))>=>.en⟩
noncomputable def qcZ:FD:=⟨0,0,"is_door",["thing"],["thing"],.re (.ca 47 (.v 0^.i 1^.g "GREATEST_DOOR"^.e0))>=>.en⟩
noncomputable def qcj:FD:=⟨0,0,"is_place",["thing"],["thing"],.re (.ca 47 (.v 0^.i 0^.g "GREATEST_PLACE"^.e0))>=>.en⟩
noncomputable def qaR:FD:=⟨0,0,"is_outer_place",["thing"],["thing"],.re (.ca 47 (.v 0^.i 1^.g "GREATEST_PLACE"^.e0))>=>.en⟩
noncomputable def qci:FD:=⟨0,0,"is_ticks",["thing"],["thing"],.re (.ca 47 (.v 0^.i 0^.g "GREATEST_TICKS"^.e0))>=>.en⟩
noncomputable def qcX:FD:=⟨0,0,"is_kind",["thing"],["thing"],.re (.ic false (.v 0) "KINDS")>=>.en⟩
noncomputable def qcU:FD:=⟨0,0,"is_sign",["sign"],["sign","at"],.set 1 (.bf "ord" (.v 0^.e0))>=>.re (.an (.ch .LtE .LtE (.g "FIRST_SIGN") (.v 1) (.g "LAST_SIGN")) (.cm .NotEq (.v 1) (.g "PERCENT_SIGN")))>=>.en⟩
noncomputable def qcT:FD:=⟨0,0,"is_text",["thing"],["thing"],.if_ (.or (.no (.bf "isinstance" (.v 0^.ty "str"^.e0))) (.cm .Gt (.bf "len" (.v 0^.e0)) (.g "MOST_SIGNS"))) (.re (.b false)>=>.en) .en>=>.re (.bf "all" (.cp false false ["sign"] [] (.st (.v 0)) (.b true) (.ca 7 (.v 0^.e0))^.e0))>=>.en⟩
noncomputable def qcW:FD:=⟨0,0,"is_out",["parts"],["parts","kind","house","door","place","far","word","text"],.if_ (.cm .NotEq (.bf "len" (.v 0^.e0)) (.i 7)) (.re (.b false)>=>.en) .en>=>.un [1,2,3,4,5,6,7] (.v 0)>=>.re (.an (.ca 1 (.v 2^.e0)) (.an (.ca 2 (.v 3^.e0)) (.an (.ca 3 (.v 4^.e0)) (.an (.ca 2 (.v 5^.e0)) (.ca 48 (.v 1^.v 6^.v 7^.e0))))))>=>.en⟩
noncomputable def qcb:FD:=⟨0,0,"is_come",["parts"],["parts","kind","place","far","number","word","text"],.if_ (.cm .NotEq (.bf "len" (.v 0^.e0)) (.i 6)) (.re (.b false)>=>.en) .en>=>.un [1,2,3,4,5,6] (.v 0)>=>.re (.an (.ca 4 (.v 2^.e0)) (.an (.ca 2 (.v 3^.e0)) (.an (.ca 2 (.v 4^.e0)) (.ca 48 (.v 1^.v 5^.v 6^.e0)))))>=>.en⟩
noncomputable def qca:FD:=⟨0,0,"is_wait",["parts"],["parts"],.re (.an (.cm .Eq (.bf "len" (.v 0^.e0)) (.i 1)) (.ca 5 (.ix (.v 0) (.i 0)^.e0)))>=>.en⟩
noncomputable def qbl:FD:=⟨0,0,"is_rule",["parts"],["parts","kind","number","place","house","door"],.if_ (.cm .NotEq (.bf "len" (.v 0^.e0)) (.i 5)) (.re (.b false)>=>.en) .en>=>.un [1,2,3,4,5] (.v 0)>=>.if_ (.an (.cm .IsNot (.v 3) .n) (.no (.ca 3 (.v 3^.e0)))) (.re (.b false)>=>.en) .en>=>.re (.an (.ca 6 (.v 1^.e0)) (.an (.ca 2 (.v 2^.e0)) (.an (.ca 1 (.v 4^.e0)) (.ca 2 (.v 5^.e0)))))>=>.en⟩
noncomputable def qcR:FD:=⟨0,0,"name_of",["thing"],["thing"],.if_ (.or (.no (.bf "isinstance" (.v 0^.ty "tuple"^.e0))) (.or (.cm .Eq (.bf "len" (.v 0^.e0)) (.i 0)) (.no (.bf "isinstance" (.ix (.v 0) (.i 0)^.ty "str"^.e0))))) (.re .n>=>.en) .en>=>.re (.ix (.v 0) (.i 0))>=>.en⟩
noncomputable def qc0:FD:=⟨0,0,"is_deed",["thing"],["thing","name","has_parts"],.set 1 (.ca 13 (.v 0^.e0))>=>.if_ (.tn "DEEDS" (.v 1)) (.re (.b false)>=>.en) .en>=>.set 2 (.tx "DEEDS" (.v 1))>=>.re (.cv 2 (.sl (.v 0) (.p1 (.i 1)) .p0^.e0))>=>.en⟩
noncomputable def qch:FD:=⟨0,0,"is_times",["thing"],["thing","lives"],.if_ (.or (.no (.bf "isinstance" (.v 0^.ty "tuple"^.e0))) (.cm .NotEq (.bf "len" (.v 0^.e0)) (.i 4))) (.re (.b false)>=>.en) .en>=>.set 1 (.bf "all" (.cp false false ["time"] [] (.is (.sl (.v 0) .p0 (.p1 (.i 3)))) (.b true) (.ca 47 (.v 0^.i 1^.g "GREATEST_TIME"^.e0))^.e0))>=>.re (.an (.v 1) (.ca 47 (.ix (.v 0) (.i 3)^.i 0^.g "GREATEST_TIME"^.e0)))>=>.en⟩
noncomputable def qcY:FD:=⟨0,0,"is_form",["thing"],["thing","low","high","lending","sieve","pick","most","renew","times"],.if_ (.or (.no (.bf "isinstance" (.v 0^.ty "tuple"^.e0))) (.cm .NotEq (.bf "len" (.v 0^.e0)) (.i 8))) (.re (.b false)>=>.en) .en>=>.un [1,2,3,4,5,6,7,8] (.v 0)>=>.if_ (.or (.ic true (.v 3) "LENDINGS") (.or (.ic true (.v 4) "SIEVES") (.ic true (.v 5) "PICKS"))) (.re (.b false)>=>.en) .en>=>.if_ (.or (.no (.ca 47 (.v 6^.i 1^.g "GREATEST_MOST"^.e0))) (.no (.bf "isinstance" (.v 7^.ty "bool"^.e0)))) (.re (.b false)>=>.en) .en>=>.re (.an (.ca 26 (.v 1^.v 2^.e0)) (.ca 15 (.v 8^.e0)))>=>.en⟩
noncomputable def qa8:FD:=⟨2,0,"__init__",["self"],["self"],.sf 0 "many_told" (.v 0) (.i 0)>=>.sf 0 "standing" (.v 0) .dk>=>.en⟩
noncomputable def qaD:FD:=⟨1,1,"from_mark",["self"],["self"],.re (.op .Add (.lr (.fl 1 "mark" (.v 0)) (.op .Add (.fl 1 "high" (.v 0)) (.i 1))) (.lr (.fl 1 "low" (.v 0)) (.fl 1 "mark" (.v 0))))>=>.en⟩
noncomputable def qaj:FD:=⟨1,3,"living",["self"],["self"],.re (.lv false (.fl 3 "by_inner" (.v 0)))>=>.en⟩
noncomputable def qcf:FD:=⟨0,0,"talk_row",["talk"],["talk","kind","house","door","place","far"],.un [1,2,3,4,5] (.fl 2 "inner" (.v 0))>=>.re (.tu (.v 1^.fl 2 "number" (.v 0)^.v 2^.v 3^.v 4^.v 5^.fl 2 "state" (.v 0)^.fl 2 "over" (.v 0)^.e0))>=>.en⟩
noncomputable def qa9:FD:=⟨1,4,"lends",["self"],["self"],.re (.bf "sorted" (.cp false true ["number","holder"] [] (.im (.fl 3 "holders" (.fl 4 "table" (.v 0)))) (.b true) (.op .Add (.tu (.v 0^.e0)) (.v 1))^.e0))>=>.en⟩
noncomputable def qaI:FD:=⟨1,4,"talks",["self"],["self"],.re (.bf "sorted" (.cp false false ["talk"] [] (.is (.me 19 (.fl 4 "table" (.v 0)) .e0)) (.b true) (.ca 20 (.v 0^.e0))^.e0))>=>.en⟩
def qBv:T:=.re (.tu (.v 1^.op .Add (.v 1) (.i 199)^.v 3^.v 4^.v 5^.i 200^.cm .Eq (.ca 45 (.v 0^.i 2^.e0)) (.i 1)^.v 2^.e0))>=>.en
def qBw:T:=.set 5 (.ix (.ll (.s "next"^.s "keep"^.e0)) (.ca 45 (.v 0^.i 2^.e0)))>=>qBv
def qBx:T:=.set 4 (.ix (.ll (.s "all"^.s "place"^.s "talk"^.e0)) (.ca 45 (.v 0^.i 3^.e0)))>=>qBw
def qBy:T:=.set 3 (.ix (.ll (.s "door"^.s "place"^.s "talk"^.e0)) (.ca 45 (.v 0^.i 3^.e0)))>=>qBx
def qBz:T:=.set 2 (.tu (.i 1^.op .Add (.i 300) (.ca 45 (.v 0^.i 100^.e0))^.op .Add (.i 200) (.ca 45 (.v 0^.i 400^.e0))^.ca 45 (.v 0^.i 3^.e0)^.e0))>=>qBy
def qBA:T:=.set 1 (.op .Add (.i 1) (.ca 45 (.v 0^.i 9000^.e0)))>=>qBz
noncomputable def qbh:FD:=⟨0,0,"_law_a_form",["bag"],["bag","low","times","lending","sieve","pick"],qBA⟩
def qx5:T:=.re (.b true)>=>.en
def qmC:T:=.if_ (.no (.ca 61 (.v 4^.v 5^.v 1^.e0))) .ra .en>=>.en
def qhH:T:=.dp (.v 4) (.s "now") (.op .Add (.dg (.v 4) (.s "now")) (.i 1))>=>.en
def qeT:T:=.ex (.me 39 (.v 5) (.i 1^.e0))>=>qhH
def qdy:T:=.if_ (.no (.ca 68 (.v 4^.v 5^.v 1^.v 8^.e0))) .ra .en>=>.en
def qdx:T:=.if_ (.no (.ca 71 (.v 4^.v 5^.v 1^.v 8^.cm .Eq (.v 9) (.i 7)^.e0))) .ra .en>=>.en
def qhG:T:=.if_ (.cm .Lt (.v 9) (.i 4)) qdy qdx>=>.en
def qpd:T:=.if_ (.cm .Eq (.v 9) (.i 8)) qeT qhG>=>qmC
def qpe:T:=.set 9 (.ca 45 (.v 2^.i 9^.e0))>=>qpd
def qpf:T:=.set 8 (.ix (.ll (.s "open"^.s "say"^.s "close"^.s "break"^.s "open"^.s "say"^.s "say"^.s "close"^.e0)) (.ca 45 (.v 2^.i 8^.e0)))>=>qpe
def qmD:T:=.set 2 (.ca 46 (.v 6^.v 7^.e0))>=>qpf
def qx6:T:=.fo false [7] (.r1 (.bf "max" (.i 8^.bf "len" (.v 6^.e0)^.e0))) qmD>=>qx5
def qA7:T:=.set 6 (.op .Add (.sl (.v 0) (.p1 (.i 2)) (.p1 (.i 62))) (.ll (.i 0^.e0)))>=>qx6
noncomputable def qA8:T:=.if_ (.cm .NotEq (.me 73 (.v 5) (.s "line"^.i 9999^.ix (.ll (.n^.ix (.v 3) (.i 3)^.e0)) (.ca 45 (.v 2^.i 2^.e0))^.ix (.v 3) (.i 1)^.ix (.v 3) (.i 2)^.e0)) (.i 0)) .ra .en>=>qA7
def qve:T:=.set 5 (.mk 37 (.v 1^.e0))>=>qA8
def qx7:T:=.set 4 (.dy ["inner","state","number","now","last","rests"] (.v 3^.n^.n^.i 0^.i 0^.dk^.e0))>=>qve
def qA9:T:=.set 3 (.op .Add (.v 3) (.tu (.op .Add (.i 1) (.ca 45 (.v 2^.i 1000000^.e0))^.op .Add (.i 1) (.ca 45 (.v 2^.i 9999^.e0))^.e0)))>=>qx7
def qBa:T:=.set 3 (.tu (.s "line"^.ca 45 (.v 2^.i 100^.e0)^.op .Add (.i 1) (.ca 45 (.v 2^.i 9999^.e0))^.e0))>=>qA9
def qBb:T:=.set 2 (.ca 44 (.ca 43 (.v 0^.i 1^.e0)^.i 0^.e0))>=>qBa
def qBc:T:=.set 1 (.ca 23 (.ca 44 (.ca 43 (.v 0^.i 0^.e0)^.i 0^.e0)^.e0))>=>qBb
noncomputable def qj4:FD:=⟨0,0,"law",["script"],["script","form","bag","inner","own","gate","cells","k","word","way"],qBc⟩
noncomputable def qcS:FD:=⟨0,0,"is_word",["kind","thing"],["kind","thing"],.if_ (.cm .Eq (.v 0) (.s "note")) (.re (.ic false (.v 1) "NOTE_WORDS")>=>.en) .en>=>.re (.ic false (.v 1) "LINE_WORDS")>=>.en⟩
noncomputable def qcV:FD:=⟨0,0,"is_pool",["low","high"],["low","high"],.re (.an (.ca 2 (.v 0^.e0)) (.an (.ca 2 (.v 1^.e0)) (.ch .LtE .LtE (.v 0) (.v 1) (.op .Add (.v 0) (.g "WIDEST_STEP")))))>=>.en⟩
noncomputable def qbR:FD:=⟨0,0,"holder_of",["form","inner"],["form","inner","lending","kind","house","door","place","far"],.un [3,4,5,6,7] (.v 1)>=>.set 2 (.ix (.v 0) (.i 2))>=>.if_ (.cm .Eq (.v 2) (.s "door")) (.re (.tu (.v 3^.v 4^.v 5^.n^.n^.e0))>=>.en) .en>=>.if_ (.cm .Eq (.v 2) (.s "place")) (.re (.tu (.v 3^.v 4^.v 5^.v 6^.n^.e0))>=>.en) .en>=>.re (.tu (.v 3^.v 4^.v 5^.v 6^.v 7^.e0))>=>.en⟩
noncomputable def qcQ:FD:=⟨0,0,"time_of",["form","state"],["form","state","times"],.set 2 (.ix (.v 0) (.i 7))>=>.re (.ix (.v 2) (.tx "TIME_AT" (.v 1)))>=>.en⟩
noncomputable def qaM:FD:=⟨1,1,"has",["self","number"],["self","number"],.re (.ch .LtE .LtE (.fl 1 "low" (.v 0)) (.v 1) (.fl 1 "high" (.v 0)))>=>.en⟩
noncomputable def qbn:FD:=⟨1,1,"take",["self","number"],["self","number"],.dp (.fl 1 "taken" (.v 0)) (.v 1) (.b true)>=>.if_ (.dn false (.v 1) (.fl 1 "until" (.v 0))) (.dd (.fl 1 "until" (.v 0)) (.v 1)>=>.en) .en>=>.sf 1 "mark" (.v 0) (.ie (.cm .Eq (.v 1) (.fl 1 "high" (.v 0))) (.fl 1 "low" (.v 0)) (.op .Add (.v 1) (.i 1)))>=>.en⟩
noncomputable def qa5:FD:=⟨2,3,"__init__",["self","form"],["self","form"],.sf 3 "form" (.v 0) (.v 1)>=>.sf 3 "pool" (.v 0) (.mk 50 (.ix (.v 1) (.i 0)^.ix (.v 1) (.i 1)^.e0))>=>.sf 3 "now" (.v 0) (.i 0)>=>.sf 3 "by_inner" (.v 0) .dt>=>.sf 3 "by_number" (.v 0) .dk>=>.sf 3 "holders" (.v 0) .dk>=>.sf 3 "numbers" (.v 0) .dt>=>.en⟩
noncomputable def qaq:FD:=⟨1,3,"of_inner",["self","inner"],["self","inner"],.re (.d1 (.fl 3 "by_inner" (.v 0)) (.v 1))>=>.en⟩
noncomputable def qav:FD:=⟨1,3,"number_of",["self","inner"],["self","inner"],.re (.d1 (.fl 3 "numbers" (.v 0)) (.ca 27 (.fl 3 "form" (.v 0)^.v 1^.e0)))>=>.en⟩
noncomputable def qaw:FD:=⟨1,3,"holder_at",["self","number"],["self","number"],.re (.d1 (.fl 3 "holders" (.v 0)) (.v 1))>=>.en⟩
noncomputable def qa6:FD:=⟨1,3,"held",["self","house"],["self","house"],.re (.cp false true ["number","holder"] [(1,"house")] (.im (.fl 3 "holders" (.v 0))) (.cm .Eq (.ix (.v 1) (.i 1)) (.v 2)) (.v 0))>=>.en⟩
noncomputable def f_Talks_pass_by:FD:=⟨1,3,"pass_by",["self","ticks"],["self","ticks","ended","talk"],.af 3 "now" (.v 0) (.v 1)>=>.sc 2 false false ["talk"] [(0,"self")] (.is (.me 19 (.v 0) .e0)) (.cm .LtE (.fl 2 "over" (.v 0)) (.fl 3 "now" (.v 1))) (.v 0)>=>.fo false [3] (.is (.sk 2 "over" (.v 2))) (.ex (.me 56 (.v 0) (.v 3^.fl 2 "over" (.v 3)^.e0))>=>.en)>=>.en⟩
noncomputable def qbt:FD:=⟨2,4,"__init__",["self","form"],["self","form"],.if_ (.no (.ca 16 (.v 1^.e0))) (.ra>=>.en) .en>=>.sf 4 "form" (.v 0) (.v 1)>=>.sf 4 "table" (.v 0) (.mk 31 (.v 1^.e0))>=>.sf 4 "strangers" (.v 0) (.mk 17 .e0)>=>.sf 4 "done" (.v 0) (.lm .e0)>=>.sf 4 "wish" (.v 0) .n>=>.en⟩
noncomputable def qbu:FD:=⟨1,4,"deed",["self","deed"],["self","deed","answer"],.if_ (.no (.ca 14 (.v 1^.e0))) (.ra>=>.en) .en>=>.set 2 (.me 57 (.v 0) (.ix (.v 1) (.i 0)^.sl (.v 1) (.p1 (.i 1)) .p0^.e0))>=>.ex (.ap (.fl 4 "done" (.v 0)) (.tu (.v 1^.v 2^.e0)^.e0))>=>.re (.v 2)>=>.en⟩
noncomputable def qbq:FD:=⟨1,4,"wait",["self","ticks"],["self","ticks"],.re (.me 38 (.v 0) (.tu (.s "wait"^.v 1^.e0)^.e0))>=>.en⟩
noncomputable def qbr:FD:=⟨1,4,"sent",["self","parts"],["self","parts","answer","number","kind","house","door","place","far","word","text"],.un [4,5,6,7,8,9,10] (.v 1)>=>.set 2 (.me 58 (.v 0) (.tu (.v 4^.v 5^.v 6^.v 7^.v 8^.e0)^.v 9^.e0))>=>.if_ (.or (.cm .NotEq (.v 7) (.i 0)) (.cm .Eq (.ix (.v 2) (.i 0)) (.s "kept"))) (.re (.v 2)>=>.en) .en>=>.ra⟩
noncomputable def qax:FD:=⟨1,4,"picked_for",["self","door"],["self","door","pool","now"],.pr 2 3 (.fl 3 "pool" (.fl 4 "table" (.v 0))^.fl 3 "now" (.fl 4 "table" (.v 0))^.e0)>=>.if_ (.an (.cm .IsNot (.fl 4 "wish" (.v 0)) .n) (.me 51 (.v 2) (.fl 4 "wish" (.v 0)^.v 3^.e0))) (.re (.fl 4 "wish" (.v 0))>=>.en) .en>=>.re (.me 64 (.v 2) (.ix (.fl 4 "form" (.v 0)) (.i 4)^.v 1^.v 3^.e0))>=>.en⟩
noncomputable def qaE:FD:=⟨1,4,"rule_told",["self","parts"],["self","parts","kind","number","place","house","door"],.un [2,3,4,5,6] (.v 1)>=>.if_ (.me 29 (.fl 3 "pool" (.fl 4 "table" (.v 0))) (.v 3^.e0)) .ra .en>=>.re (.me 72 (.fl 4 "strangers" (.v 0)) (.v 2^.v 3^.v 4^.v 5^.v 6^.e0))>=>.en⟩
noncomputable def qbU:FD:=⟨0,0,"_law_cell",["script","k"],["script","k"],.if_ (.cm .Lt (.v 1) (.bf "len" (.v 0^.e0))) (.re (.ix (.v 0) (.v 1))>=>.en) .en>=>.re (.i 0)>=>.en⟩
noncomputable def qbS:FD:=⟨0,0,"_law_well",["cell","turn"],["cell","turn"],.if_ (.cm .GtE (.v 0) (.op .Pow (.i 10) (.i 18))) (.re (.lm (.op .Sub (.v 0) (.op .Pow (.i 10) (.i 18))^.op .Mod (.v 0) (.i 2305843009213693951)^.v 1^.e0))>=>.en) .en>=>.re (.lm (.i 0^.op .Mod (.v 0) (.i 2305843009213693951)^.v 1^.e0))>=>.en⟩
noncomputable def qa2:FD:=⟨0,0,"_law_take",["bag","many"],["bag","many","p","n","found"],.if_ (.cm .Gt (.ix (.v 0) (.i 0)) (.i 0)) (.set 4 (.op .Mod (.ix (.v 0) (.i 0)) (.v 1))>=>.sp (.v 0) (.i 0) (.op .FloorDiv (.ix (.v 0) (.i 0)) (.v 1))>=>.re (.v 4)>=>.en) .en>=>.sp (.v 0) (.i 2) (.op .Add (.ix (.v 0) (.i 2)) (.i 1))>=>.set 2 (.i 2305843009213693951)>=>.set 3 (.op .Mod (.op .Add (.ix (.v 0) (.i 1)) (.op .Mult (.i 1000003) (.ix (.v 0) (.i 2)))) (.v 2))>=>.set 3 (.op .Mod (.op .Add (.op .Add (.op .Mult (.v 3) (.v 3)) (.op .Mult (.i 7919) (.op .Pow (.ix (.v 0) (.i 2)) (.i 2)))) (.i 5)) (.v 2))>=>.re (.op .Mod (.op .FloorDiv (.op .Mod (.op .Pow (.v 3) (.i 3)) (.v 2)) (.i 13)) (.v 1))>=>.en⟩
noncomputable def qbg:FD:=⟨0,0,"_law_bag_at",["cells","k"],["cells","k","bag"],.if_ (.cm .Lt (.v 1) (.bf "len" (.v 0^.e0))) (.re (.ca 44 (.ix (.v 0) (.v 1)^.i 0^.e0))>=>.en) .en>=>.set 2 (.ca 44 (.op .Mod (.ix (.v 0) (.op .Mod (.v 1) (.bf "len" (.v 0^.e0)))) (.op .Pow (.i 10) (.i 18))^.i 0^.e0))>=>.sp (.v 2) (.i 1) (.op .Mod (.op .Add (.op .Add (.ix (.v 2) (.i 1)) (.op .Mult (.op .Mult (.i 7919) (.v 1)) (.v 1))) (.op .Mult (.i 31) (.v 1))) (.i 2305843009213693951))>=>.re (.v 2)>=>.en⟩
noncomputable def qaL:FD:=⟨0,0,"is_whole_within",["thing","least","greatest"],["thing","least","greatest"],.re (.an (.ca 0 (.v 0^.e0)) (.ch .LtE .LtE (.v 1) (.v 0) (.v 2)))>=>.en⟩
noncomputable def qbQ:FD:=⟨0,0,"is_letter",["kind","word","text"],["kind","word","text"],.re (.an (.ca 6 (.v 0^.e0)) (.an (.ca 25 (.v 0^.v 1^.e0)) (.ca 8 (.v 2^.e0))))>=>.en⟩
noncomputable def qbz:FD:=⟨0,0,"line_state",["state","side","word"],["state","side","word"],.if_ (.cm .Eq (.v 2) (.s "break")) (.re (.ie (.ic false (.v 0) "BREAKABLE") (.s "shut") .n)>=>.en) .en>=>.re (.tg "LINE_STEPS" (.tu (.v 1^.v 0^.v 2^.e0)))>=>.en⟩
noncomputable def qbo:FD:=⟨2,1,"__init__",["self","low","high"],["self","low","high"],.sf 1 "low" (.v 0) (.v 1)>=>.sf 1 "high" (.v 0) (.v 2)>=>.sf 1 "mark" (.v 0) (.v 1)>=>.sf 1 "taken" (.v 0) .dk>=>.sf 1 "until" (.v 0) .dk>=>.en⟩
noncomputable def qaO:FD:=⟨1,1,"is_free",["self","number","moment"],["self","number","moment"],.if_ (.or (.no (.me 29 (.v 0) (.v 1^.e0))) (.dn false (.v 1) (.fl 1 "taken" (.v 0)))) (.re (.b false)>=>.en) .en>=>.re (.or (.dn true (.v 1) (.fl 1 "until" (.v 0))) (.cm .LtE (.dg (.fl 1 "until" (.v 0)) (.v 1)) (.v 2)))>=>.en⟩
noncomputable def qbp:FD:=⟨1,1,"give",["self","number","until"],["self","number","until"],.dd (.fl 1 "taken" (.v 0)) (.v 1)>=>.dp (.fl 1 "until" (.v 0)) (.v 1) (.v 2)>=>.en⟩
noncomputable def qa4:FD:=⟨1,3,"lend",["self","number","inner"],["self","number","inner","holder"],.set 3 (.ca 27 (.fl 3 "form" (.v 0)^.v 2^.e0))>=>.ex (.me 30 (.fl 3 "pool" (.v 0)) (.v 1^.e0))>=>.dp (.fl 3 "holders" (.v 0)) (.v 1) (.v 3)>=>.dp (.fl 3 "numbers" (.v 0)) (.v 3) (.v 1)>=>.en⟩
noncomputable def qaH:FD:=⟨1,3,"lead",["self","talk","state"],["self","talk","state"],.if_ (.cm .Eq (.v 2) (.s "shut")) (.ex (.me 56 (.v 0) (.v 1^.fl 3 "now" (.v 0)^.e0))>=>.r0>=>.en) .en>=>.sf 2 "state" (.v 1) (.v 2)>=>.sf 2 "over" (.v 1) (.op .Add (.fl 3 "now" (.v 0)) (.ca 28 (.fl 3 "form" (.v 0)^.v 2^.e0)))>=>.en⟩
noncomputable def qaB:FD:=⟨1,3,"end_lend",["self","number","moment"],["self","number","moment"],.dd (.fl 3 "numbers" (.v 0)) (.dg (.fl 3 "holders" (.v 0)) (.v 1))>=>.dd (.fl 3 "holders" (.v 0)) (.v 1)>=>.ex (.me 52 (.fl 3 "pool" (.v 0)) (.v 1^.op .Add (.v 2) (.ix (.ix (.fl 3 "form" (.v 0)) (.i 7)) (.i 3))^.e0))>=>.en⟩
noncomputable def qaT:FD:=⟨1,3,"end",["self","talk","moment"],["self","talk","moment","number","kind","house","door","place","far"],.un [4,5,6,7,8] (.fl 2 "inner" (.v 1))>=>.set 3 (.fl 2 "number" (.v 1))>=>.dd (.fl 3 "by_inner" (.v 0)) (.fl 2 "inner" (.v 1))>=>.dd (.dg (.fl 3 "by_number" (.v 0)) (.v 3)) (.tu (.v 4^.v 7^.v 8^.e0))>=>.if_ (.cm .Gt (.bf "len" (.dg (.fl 3 "by_number" (.v 0)) (.v 3)^.e0)) (.i 0)) (.r0>=>.en) .en>=>.dd (.fl 3 "by_number" (.v 0)) (.v 3)>=>.if_ (.dn false (.v 3) (.fl 3 "holders" (.v 0))) (.ex (.me 55 (.v 0) (.v 3^.v 2^.e0))>=>.en) .en>=>.en⟩
noncomputable def qac:FD:=⟨1,4,"answered",["self","name","parts"],["self","name","parts","kind","place","far","number","word","text"],.if_ (.cm .Eq (.v 1) (.s "out")) (.re (.me 40 (.v 0) (.v 2^.e0))>=>.en) .en>=>.if_ (.cm .Eq (.v 1) (.s "come")) (.un [3,4,5,6,7,8] (.v 2)>=>.re (.me 74 (.v 0) (.v 3^.v 4^.v 5^.v 6^.v 7^.e0))>=>.en) .en>=>.if_ (.cm .Eq (.v 1) (.s "lost")) .ra .en>=>.if_ (.cm .Eq (.v 1) (.s "wait")) (.ex (.me 36 (.fl 4 "table" (.v 0)) (.ix (.v 2) (.i 0)^.e0))>=>.re .n>=>.en) .en>=>.if_ (.cm .Eq (.v 1) (.s "rule")) (.re (.me 42 (.v 0) (.v 2^.e0))>=>.en) .en>=>.ra⟩
noncomputable def qar:FD:=⟨1,4,"lead_out",["self","inner","word"],["self","inner","word","talk","state"],.set 3 (.me 32 (.fl 4 "table" (.v 0)) (.v 1^.e0))>=>.set 4 (.ca 62 (.ix (.v 1) (.i 0)^.ie (.cm .Is (.v 3) .n) .n (.fl 2 "state" (.v 3))^.s "house"^.v 2^.e0))>=>.if_ (.cm .Is (.v 4) .n) (.re (.tu (.s "kept"^.s "astray"^.e0))>=>.en) .en>=>.if_ (.cm .Is (.v 3) .n) (.re (.me 59 (.v 0) (.v 1^.v 4^.e0))>=>.en) .en>=>.ex (.me 54 (.fl 4 "table" (.v 0)) (.v 3^.v 4^.e0))>=>.re (.tu (.s "led"^.fl 2 "number" (.v 3)^.e0))>=>.en⟩
noncomputable def qaF:FD:=⟨1,4,"begin_out",["self","inner","state"],["self","inner","state","number"],.set 3 (.me 33 (.fl 4 "table" (.v 0)) (.v 1^.e0))>=>.if_ (.cm .Is (.v 3) .n) (.if_ (.cm .GtE (.bf "len" (.me 35 (.fl 4 "table" (.v 0)) (.ix (.v 1) (.i 1)^.e0)^.e0)) (.ix (.fl 4 "form" (.v 0)) (.i 5))) (.re (.tu (.s "kept"^.s "most"^.e0))>=>.en) .en>=>.set 3 (.me 41 (.v 0) (.ix (.v 1) (.i 2)^.e0))>=>.if_ (.cm .Is (.v 3) .n) (.re (.tu (.s "kept"^.s "full"^.e0))>=>.en) .en>=>.ex (.me 53 (.fl 4 "table" (.v 0)) (.v 3^.v 1^.e0))>=>.en) .en>=>.ex (.me 65 (.fl 4 "table" (.v 0)) (.v 1^.v 3^.v 2^.e0))>=>.re (.tu (.s "led"^.v 3^.e0))>=>.en⟩
noncomputable def qaP:FD:=⟨1,4,"lead_in",["self","talk","word"],["self","talk","word","state","renew","kind","house","door","place","far"],.un [5,6,7,8,9] (.fl 2 "inner" (.v 1))>=>.set 3 (.ca 62 (.v 5^.fl 2 "state" (.v 1)^.s "far"^.v 2^.e0))>=>.if_ (.cm .Is (.v 3) .n) (.re (.tu (.s "kept"^.s "astray"^.e0))>=>.en) .en>=>.set 4 (.ix (.fl 4 "form" (.v 0)) (.i 6))>=>.if_ (.or (.v 4) (.cm .NotEq (.v 3) (.fl 2 "state" (.v 1)))) (.ex (.me 54 (.fl 4 "table" (.v 0)) (.v 1^.v 3^.e0))>=>.en) .en>=>.re (.tu (.s "in"^.v 6^.v 7^.e0))>=>.en⟩
noncomputable def qxZ:T:=.re (.cm .Eq (.me 22 (.v 1) .e0) (.ll (.op .Add (.op .Add (.tu (.s "line"^.dg (.v 0) (.s "number")^.e0)) (.sl (.v 3) (.p1 (.i 1)) .p0)) (.tu (.dg (.v 0) (.s "state")^.op .Add (.dg (.v 0) (.s "last")) (.v 4)^.e0))^.e0)))>=>.en
def qAW:T:=.set 4 (.ix (.ix (.v 2) (.i 7)) (.ie (.cm .In (.dg (.v 0) (.s "state")) (.tu (.s "asked"^.s "called"^.e0))) (.i 1) (.i 2)))>=>qxZ
def qAX:T:=.if_ (.cm .Is (.dg (.v 0) (.s "state")) .n) (.re (.an (.cm .Eq (.me 22 (.v 1) .e0) (.ll .e0)) (.cm .Eq (.me 21 (.v 1) .e0) (.ll .e0)))>=>.en) .en>=>qAW
def qx0:T:=.set 3 (.dg (.v 0) (.s "inner"))>=>qAX
def qmv:T:=.dp (.v 0) (.s "state") .n>=>.en
def qiI:T:=.dp (.dg (.v 0) (.s "rests")) (.dg (.v 0) (.s "number")) (.op .Add (.dg (.v 0) (.s "now")) (.ix (.ix (.v 2) (.i 7)) (.i 3)))>=>qmv
def qAY:T:=.if_ (.cm .Eq (.dg (.v 0) (.s "state")) (.s "shut")) qiI .en>=>qx0
noncomputable def qbA:FD:=⟨0,0,"_law_shown",["own","gate","form"],["own","gate","form","inner","time"],qAY⟩
noncomputable def qby:FD:=⟨0,0,"next_state",["kind","state","side","word"],["kind","state","side","word"],.if_ (.cm .Eq (.v 0) (.s "note")) .ra .en>=>.re (.ca 49 (.v 1^.v 2^.v 3^.e0))>=>.en⟩
def qEu:T:=.re .n>=>.en
def qmE:T:=.if_ (.an (.cm .Eq (.v 4) (.v 1)) (.an (.cm .Eq (.v 5) (.v 2)) (.v 9))) (.re (.tu (.v 7^.v 8^.e0))>=>.en) .en>=>.en
def qmF:T:=.set 9 (.or (.cm .Is (.v 6) .n) (.cm .Eq (.v 6) (.v 3)))>=>qmE
def qBd:T:=.fo true [4,5,6,7,8] (.iv (.fl 0 "standing" (.v 0))) qmF>=>qEu
noncomputable def qaC:FD:=⟨1,0,"door_for",["self","kind","number","place"],["self","kind","number","place","rule_kind","rule_number","rule_place","house","door","fits_place"],qBd⟩
noncomputable def qaY:FD:=⟨1,1,"picked",["self","pick","door","moment"],["self","pick","door","moment","number"],.if_ (.an (.cm .Eq (.v 1) (.s "keep")) (.me 51 (.v 0) (.v 2^.v 3^.e0))) (.re (.v 2)>=>.en) .en>=>.fo false [4] (.is (.me 18 (.v 0) .e0)) (.if_ (.me 51 (.v 0) (.v 4^.v 3^.e0)) (.re (.v 4)>=>.en) .en>=>.en)>=>.re .n>=>.en⟩
noncomputable def qaX:FD:=⟨1,3,"begin",["self","inner","number","state"],["self","inner","number","state","talk","kind","house","door","place","far"],.un [5,6,7,8,9] (.v 1)>=>.set 4 (.mk 69 (.v 1^.v 2^.v 3^.op .Add (.fl 3 "now" (.v 0)) (.ca 28 (.fl 3 "form" (.v 0)^.v 3^.e0))^.e0))>=>.dp (.fl 3 "by_inner" (.v 0)) (.v 1) (.v 4)>=>.if_ (.dn true (.v 2) (.fl 3 "by_number" (.v 0))) (.dp (.fl 3 "by_number" (.v 0)) (.v 2) .dt>=>.en) .en>=>.dp (.dg (.fl 3 "by_number" (.v 0)) (.v 2)) (.tu (.v 5^.v 8^.v 9^.e0)) (.v 4)>=>.en⟩
noncomputable def qaZ:FD:=⟨1,4,"sifted",["self","kind","place","number"],["self","kind","place","number","holder"],.set 4 (.me 34 (.fl 4 "table" (.v 0)) (.v 3^.e0))>=>.if_ (.or (.cm .Is (.v 4) .n) (.cm .NotEq (.ix (.v 4) (.i 0)) (.v 1))) (.re (.tu (.s "kept"^.s "nobody"^.e0))>=>.en) .en>=>.ra⟩
def qBn:T:=.re .n>=>.en
noncomputable def qph:T:=.if_ (.an (.cm .Eq (.ix (.v 6) (.i 0)) (.v 2)) (.an (.cm .Eq (.ix (.v 6) (.i 1)) (.v 3)) (.cm .Eq (.ix (.v 6) (.i 2)) (.ie (.cm .Is (.v 1) .n) (.s "-") (.v 1))))) (.re (.ix (.v 6) (.i 3))>=>.en) .en>=>.en
def qjo:T:=.set 6 (.sw (.v 5) (.s " "^.e0))>=>qph
def qBo:T:=.fo false [5] (.is (.v 4)) qjo>=>qBn
def qBp:T:=.set 4 (.op .Add (.v 4) (.ll (.s "far say near near"^.s "far close up far"^.s "far close near shut"^.e0)))>=>qBo
def qBq:T:=.set 4 (.op .Add (.v 4) (.ll (.s "far open - called"^.s "far open called called"^.s "far open asked up"^.s "far say up up"^.e0)))>=>qBp
def qBr:T:=.set 4 (.op .Add (.v 4) (.ll (.s "house say far far"^.s "house close up near"^.s "house close far shut"^.e0)))>=>qBq
def qBs:T:=.set 4 (.ll (.s "house open - asked"^.s "house open asked asked"^.s "house open called up"^.s "house say up up"^.e0))>=>qBr
noncomputable def qBt:T:=.if_ (.cm .Eq (.v 3) (.s "break")) (.re (.ie (.cm .In (.v 1) (.tu (.s "asked"^.s "called"^.s "up"^.s "near"^.s "far"^.e0))) (.s "shut") .n)>=>.en) .en>=>qBs
def qBu:T:=.if_ (.cm .Eq (.v 0) (.s "note")) .ra .en>=>qBt
noncomputable def qbT:FD:=⟨0,0,"_law_step",["kind","state","side","word"],["kind","state","side","word","rows","row","one"],qBu⟩
def qA3:T:=.re (.cm .Eq (.v 6) (.tu (.s "led"^.dg (.v 0) (.s "number")^.e0)))>=>.en
def qA4:T:=.dp (.v 0) (.s "state") (.v 5)>=>qA3
def qx2:T:=.dp (.v 0) (.s "last") (.dg (.v 0) (.s "now"))>=>qA4
def qmA:T:=.dp (.v 0) (.s "number") (.ix (.v 6) (.i 1))>=>.en
def qmB:T:=.if_ (.cm .Gt (.d2 (.dg (.v 0) (.s "rests")) (.ix (.v 6) (.i 1)) (.i 0)) (.dg (.v 0) (.s "now"))) .ra .en>=>qmA
noncomputable def qiK:T:=.if_ (.or (.no (.bf "isinstance" (.v 6^.ty "tuple"^.e0))) (.or (.cm .NotEq (.bf "len" (.v 6^.e0)) (.i 2)) (.no (.ch .LtE .LtE (.ix (.v 2) (.i 0)) (.ix (.v 6) (.i 1)) (.ix (.v 2) (.i 1)))))) .ra .en>=>qmB
def qx3:T:=.if_ (.cm .Is (.dg (.v 0) (.s "state")) .n) qiK .en>=>qx2
def quF:T:=.if_ (.cm .Is (.v 5) .n) (.re (.cm .Eq (.v 6) (.tu (.s "kept"^.s "astray"^.e0)))>=>.en) .en>=>qx3
def qx4:T:=.set 6 (.me 77 (.v 1) (.ix (.v 4) (.i 0)^.ix (.v 4) (.i 1)^.ix (.v 4) (.i 2)^.ix (.v 4) (.i 3)^.ix (.v 4) (.i 4)^.v 3^.s "t"^.e0))>=>quF
def qA5:T:=.set 5 (.ca 67 (.s "line"^.dg (.v 0) (.s "state")^.s "house"^.v 3^.e0))>=>qx4
def qA6:T:=.set 4 (.dg (.v 0) (.s "inner"))>=>qA5
noncomputable def qbB:FD:=⟨0,0,"_law_house",["own","gate","form","word"],["own","gate","form","word","inner","state","found"],qA6⟩
noncomputable def qbm:FD:=⟨2,2,"__init__",["self","inner","number","state","over"],["self","inner","number","state","over"],.sf 2 "inner" (.v 0) (.v 1)>=>.sf 2 "number" (.v 0) (.v 2)>=>.sf 2 "state" (.v 0) (.v 3)>=>.sf 2 "over" (.v 0) (.v 4)>=>.en⟩
noncomputable def qae:FD:=⟨1,3,"of_outer",["self","kind","number","place","far"],["self","kind","number","place","far"],.if_ (.dn true (.v 2) (.fl 3 "by_number" (.v 0))) (.re .n>=>.en) .en>=>.re (.d1 (.dg (.fl 3 "by_number" (.v 0)) (.v 2)) (.tu (.v 1^.v 3^.v 4^.e0)))>=>.en⟩
def qAZ:T:=.re (.cm .Eq (.v 7) (.tu (.s "in"^.ix (.v 5) (.i 1)^.ix (.v 5) (.i 2)^.e0)))>=>.en
def qvc:T:=.dp (.v 0) (.s "state") (.v 8)>=>qAZ
def qgh:T:=.dp (.v 0) (.s "last") (.dg (.v 0) (.s "now"))>=>.en
def qA0:T:=.if_ (.or (.ix (.v 2) (.i 6)) (.cm .NotEq (.v 8) (.dg (.v 0) (.s "state")))) qgh .en>=>qvc
def qvd:T:=.if_ (.cm .Is (.v 8) .n) (.re (.cm .Eq (.v 7) (.tu (.s "kept"^.s "astray"^.e0)))>=>.en) .en>=>qA0
def qx1:T:=.set 8 (.ca 67 (.s "line"^.dg (.v 0) (.s "state")^.s "far"^.v 3^.e0))>=>qvd
def qmw:T:=.re (.cm .Eq (.v 7) (.tu (.s "in"^.ix (.v 5) (.i 1)^.ix (.v 5) (.i 2)^.e0)))>=>.en
def qmx:T:=.dp (.v 0) (.s "state") (.s "called")>=>qmw
def qmy:T:=.dp (.v 0) (.s "last") (.dg (.v 0) (.s "now"))>=>qmx
def qmz:T:=.dp (.v 0) (.s "number") (.v 6)>=>qmy
def qiJ:T:=.if_ (.cm .IsNot (.dg (.v 0) (.s "state")) .n) (.re (.cm .Eq (.v 7) (.tu (.s "kept"^.s "clash"^.e0)))>=>.en) .en>=>qmz
def qeS:T:=.if_ (.cm .NotEq (.v 3) (.s "open")) (.re (.cm .Eq (.v 7) (.tu (.s "kept"^.s "astray"^.e0)))>=>.en) .en>=>qiJ
def qgi:T:=.if_ (.cm .LtE (.v 6) (.ix (.v 2) (.i 1))) (.re (.cm .Eq (.v 7) (.tu (.s "kept"^.s "nobody"^.e0)))>=>.en) .en>=>qeS
def qrm:T:=.if_ (.or (.cm .Is (.dg (.v 0) (.s "state")) .n) (.cm .NotEq (.v 6) (.dg (.v 0) (.s "number")))) qgi .en>=>qx1
def qof:T:=.set 7 (.me 76 (.v 1) (.s "line"^.ix (.v 5) (.i 3)^.ix (.v 5) (.i 4)^.v 6^.v 3^.s ""^.e0))>=>qrm
def qA1:T:=.set 6 (.ie (.or (.v 4) (.cm .Is (.dg (.v 0) (.s "number")) .n)) (.i 9999) (.dg (.v 0) (.s "number")))>=>qof
def qA2:T:=.set 5 (.dg (.v 0) (.s "inner"))>=>qA1
noncomputable def qcl:FD:=⟨0,0,"_law_far",["own","gate","form","word","by_rule"],["own","gate","form","word","by_rule","inner","number","found","state"],qA2⟩
noncomputable def qa7:FD:=⟨1,0,"tell",["self","kind","number","place","house","door"],["self","kind","number","place","house","door","told"],.set 6 (.fl 0 "many_told" (.v 0))>=>.dp (.fl 0 "standing" (.v 0)) (.v 6) (.tu (.v 1^.v 2^.v 3^.v 4^.v 5^.e0))>=>.af 0 "many_told" (.v 0) (.i 1)>=>.re (.v 6)>=>.en⟩
noncomputable def qbs:FD:=⟨1,4,"rule",["self","kind","number","place","house","door"],["self","kind","number","place","house","door"],.re (.me 38 (.v 0) (.tu (.s "rule"^.v 1^.v 2^.v 3^.v 4^.v 5^.e0)^.e0))>=>.en⟩
noncomputable def qak:FD:=⟨1,4,"come_in",["self","kind","place","far","number","word"],["self","kind","place","far","number","word","talk"],.set 6 (.me 70 (.fl 4 "table" (.v 0)) (.v 1^.v 4^.v 2^.v 3^.e0))>=>.if_ (.cm .IsNot (.v 6) .n) (.re (.me 60 (.v 0) (.v 6^.v 5^.e0))>=>.en) .en>=>.if_ (.me 29 (.fl 3 "pool" (.fl 4 "table" (.v 0))) (.v 4^.e0)) (.re (.me 66 (.v 0) (.v 1^.v 2^.v 4^.e0))>=>.en) .en>=>.re (.me 75 (.v 0) (.v 1^.v 2^.v 3^.v 4^.v 5^.e0))>=>.en⟩
noncomputable def qal:FD:=⟨1,4,"come_by_rule",["self","kind","place","far","number","word"],["self","kind","place","far","number","word","to","state","inner","house","door"],.set 6 (.me 63 (.fl 4 "strangers" (.v 0)) (.v 1^.v 4^.v 2^.e0))>=>.if_ (.cm .Is (.v 6) .n) (.re (.tu (.s "kept"^.s "nobody"^.e0))>=>.en) .en>=>.un [9,10] (.v 6)>=>.set 7 (.ca 62 (.v 1^.n^.s "far"^.v 5^.e0))>=>.if_ (.cm .Is (.v 7) .n) (.re (.tu (.s "kept"^.s "astray"^.e0))>=>.en) .en>=>.set 8 (.tu (.v 1^.v 9^.v 10^.v 2^.v 3^.e0))>=>.if_ (.cm .IsNot (.me 32 (.fl 4 "table" (.v 0)) (.v 8^.e0)) .n) (.re (.tu (.s "kept"^.s "clash"^.e0))>=>.en) .en>=>.ex (.me 65 (.fl 4 "table" (.v 0)) (.v 8^.v 4^.v 7^.e0))>=>.re (.tu (.s "in"^.v 9^.v 10^.e0))>=>.en⟩
noncomputable def qbv:FD:=⟨1,4,"come",["self","kind","place","far","number","word","text"],["self","kind","place","far","number","word","text"],.re (.me 38 (.v 0) (.tu (.s "come"^.v 1^.v 2^.v 3^.v 4^.v 5^.v 6^.e0)^.e0))>=>.en⟩
noncomputable def qbJ:FD:=⟨1,4,"out",["self","kind","house","door","place","far","word","text"],["self","kind","house","door","place","far","word","text"],.re (.me 38 (.v 0) (.tu (.s "out"^.v 1^.v 2^.v 3^.v 4^.v 5^.v 6^.v 7^.e0)^.e0))>=>.en⟩
end
noncomputable def S:SI where
 gi:=[("GREATEST_HOUSE",99),("GREATEST_DOOR",9999),("GREATEST_PLACE",1000000),("GREATEST_TICKS",1000000),("MOST_SIGNS",40),("FIRST_SIGN",32),("LAST_SIGN",126),("PERCENT_SIGN",37),("WIDEST_STEP",199),("GREATEST_MOST",200),("GREATEST_TIME",1000000)]
 gt:=[("KINDS",["note","line"]),("NOTE_WORDS",["say"]),("LINE_WORDS",["open","say","close","break"]),("LENDINGS",["door","place","talk"]),("SIEVES",["all","place","talk"]),("PICKS",["next","keep"]),("BREAKABLE",["asked","called","up","near","far"])]
 tb:=["DEEDS","TIME_AT"]
 tt:=[("LINE_STEPS",[([some (.inr "house"),none,some (.inr "open")],"asked"),([some (.inr "house"),some (.inr "asked"),some (.inr "open")],"asked"),([some (.inr "house"),some (.inr "called"),some (.inr "open")],"up"),([some (.inr "house"),some (.inr "up"),some (.inr "say")],"up"),([some (.inr "house"),some (.inr "far"),some (.inr "say")],"far"),([some (.inr "house"),some (.inr "up"),some (.inr "close")],"near"),([some (.inr "house"),some (.inr "far"),some (.inr "close")],"shut"),([some (.inr "far"),none,some (.inr "open")],"called"),([some (.inr "far"),some (.inr "called"),some (.inr "open")],"called"),([some (.inr "far"),some (.inr "asked"),some (.inr "open")],"up"),([some (.inr "far"),some (.inr "up"),some (.inr "say")],"up"),([some (.inr "far"),some (.inr "near"),some (.inr "say")],"near"),([some (.inr "far"),some (.inr "up"),some (.inr "close")],"far"),([some (.inr "far"),some (.inr "near"),some (.inr "close")],"shut")])]
 cl:=["Rules","Pool","Talk","Talks","Gate"]
 fs:=[(0,"many_told"),(0,"standing"),(1,"low"),(1,"high"),(1,"mark"),(1,"taken"),(1,"until"),(2,"inner"),(2,"number"),(2,"state"),(2,"over"),(3,"form"),(3,"pool"),(3,"now"),(3,"by_inner"),(3,"by_number"),(3,"holders"),(3,"numbers"),(4,"form"),(4,"table"),(4,"strangers"),(4,"done"),(4,"wish")]
 bl:=["all","bool","int","isinstance","len","list","max","ord","range","sorted","str","tuple"]
 fd:=[qcg,qck,qcZ,qcj,qaR,qci,qcX,qcU,qcT,qcW,qcb,qca,qbl,qcR,qc0,qch,qcY,qa8,qaD,qaj,qcf,qa9,qaI,qbh,qj4,qcS,qcV,qbR,qcQ,qaM,qbn,qa5,qaq,qav,qaw,qa6,f_Talks_pass_by,qbt,qbu,qbq,qbr,qax,qaE,qbU,qbS,qa2,qbg,qaL,qbQ,qbz,qbo,qaO,qbp,qa4,qaH,qaB,qaT,qac,qar,qaF,qaP,qbA,qby,qaC,qaY,qaX,qaZ,qbT,qbB,qbm,qae,qcl,qa7,qbs,qak,qal,qbv,qbJ]
 ln:=f_Talks_pass_by.N
 lp:=⟨302,38,302,58⟩
 lq:="Talks.pass_by.<locals>.<lambda>"
abbrev qkx:Stmt:=top 24
abbrev qjx:Stmt:=top 49
abbrev qgJ:Stmt:=inClass (top 68) 10
abbrev qgI:Stmt:=inClass (top 68) 11
abbrev qvU:Stmt:=top 79
abbrev qgH:Stmt:=inClass (top 65) 8
abbrev qec:Stmt:=inClass (top 65) 15
structure Env where
 tb:Str->LKR
 C:Nat->Addr
 cv:List (Addr×Nat)
 lP:Addr:=0
def P(e:Env):Prg:=⟨S,e.tb,e.C,e.cv,e.lP⟩
def rd(Q:RVK):RD:={ nx:=fun _ M'=>Q .non M',rt:=Q }
section
variable {e:Env}{n:Nat}{M:RM}{Q:RVK}{σ:RSt}{rs:LR}
theorem qwc{y:Str}{N:LSt}{x:RV}:qbY (y::N) (x::rs)=some x::qbY N rs:=by unfold qbY;rw[wal,wal,Nat.add_sub_add_right];rfl
theorem qwa{y:Str}{N:LSt}:qbY (y::N) []=none::qbY N []:=rfl
theorem qwb:qbY [] []= []:=rfl
theorem qr0{A B C:Prop}(h:A)(k:B=C):(A/\B)=C:=by rw[eq_true h,true_and,k]
theorem qwl:(rd Q).nx σ M=Q .non M:=rfl
theorem qwk:(rd Q).rt=Q:=rfl
theorem qD1{i:Nat}:((P e).Gn n).fn i rs M Q=sem (P e) n i rs M Q:=rfl
theorem qxj{i:Nat}:((P e).Gn (n+1)).ini i rs M Q=sem (P e) n i rs M Q:=rfl
theorem qDZ{x:Str}:((P e).Gn n).tb x=e.tb x:=rfl
theorem qxk:((P e).Gn n).cvs=e.cv.map fun q=>(q.1,sem (P e) n q.2):=rfl
theorem g_C{i:Nat}:((P e).Gn n).C i=e.C i:=rfl
theorem qD0:((P e).Gn n).lP=e.lP:=rfl
theorem us{i:Nat}{d:FD}{rs:LR}(h:S.fd[i]? =some d):sem (P e) (n+1) i rs M Q=(rs.length=d.ps.length/\(tr ((P e).Gn n) d.body).S (rd Q) (qbY d.N rs) M):=by rw[qiS (p:=P e) h];rfl
end
def qa1(e:Env)(v0 v1:RV):RO:=.ins (e.C 0) [("many_told",v0),("standing",v1)]
def qay(e:Env)(v0 v1 v2 v3 v4:RV):RO:=.ins (e.C 1) [("low",v0),("high",v1),("mark",v2),("taken",v3),("until",v4)]
def qbc(e:Env)(v0 v1 v2 v3:RV):RO:=.ins (e.C 2) [("inner",v0),("number",v1),("state",v2),("over",v3)]
noncomputable def qaf (e:Env)(v0 v1 v2 v3 v4 v5 v6:RV):RO:=.ins (e.C 3) [("form",v0),("pool",v1),("now",v2),("by_inner",v3),("by_number",v4),("holders",v5),("numbers",v6)]
def qan(e:Env)(v0 v1 v2 v3 v4:RV):RO:=.ins (e.C 4) [("form",v0),("table",v1),("strangers",v2),("done",v3),("wish",v4)]
section
variable {e:Env}{n:Nat}{M:RM}{Q:RVK}{σ:RSt}{rs:LR}{x:Addr}{y:RV}{N:RM->Prop}{t:RTA}{sp:RSp}{o a:T}
theorem lI{e:Env}{c:Nat}{f:Str}{v:RV}{fs:List (Str×RV)}(h:fs.lookup f=some v):fO (e.C c) f Q M (some (.ins (e.C c) fs))=Q v M:=by rw[qtX,h];rfl
theorem wI{c:Nat}{f:Str}{fs:List (Str×RV)}(h:Nat.ble (fs.length+1) 1000=true):sO (e.C c) f y N x M (some (.ins (e.C c) fs))=N (put M x (.ins (e.C c) (qe0 f y fs))):=by rw[qr4];exact qr0 (Nat.le_of_ble_eq_true h) rfl
theorem mI{c:Nat}{f:Str}{fs:List (Str×RV)}(h:fs.lookup f=none):mO (e.C c) f sp t σ Q x M (some (.ins (e.C c) fs))=t σ M fun rs M2=>sp (.ref x::rs) M2 Q:=by rw[qtj];exact qr0 h rfl
abbrev lT(e:Env)(c:Nat)(r:RO)(f:Str)(v:RV):Prop:=∀ {Q:RVK} {M:RM},fO (e.C c) f Q M (some r)=Q v M
abbrev wT(e:Env)(c:Nat)(y:RV)(r r1:RO)(f:Str):Prop:=∀ {N:RM->Prop} {x:Addr} {M:RM},sO (e.C c) f y N x M (some r)=N (put M x r1)
abbrev mT(e:Env)(c:Nat)(r:RO)(f:Str):Prop:=∀ {sp:RSp} {t:RTA} {σ:RSt} {Q:RVK} {x:Addr} {M:RM},mO (e.C c) f sp t σ Q x M (some r)=t σ M fun rs M2=>sp (.ref x::rs) M2 Q
abbrev tT(i c:Nat)(f:Str):Prop:=∀ {e:Env} {n:Nat} {M:RM} {Q:RVK} {σ:RSt} {o a:T},(tr ((P e).Gn n) (.me i o a)).E σ M Q=(tr ((P e).Gn n) o).E σ M (kMe (e.C c) f (sem (P e) n i) (tr ((P e).Gn n) a).A σ Q)
abbrev kT(i c:Nat):Prop:=∀ {e:Env} {n:Nat} {M:RM} {Q:RVK} {σ:RSt} {a:T},(tr ((P e).Gn (n+1)) (.mk i a)).E σ M Q=(tr ((P e).Gn (n+1)) a).A σ M fun rs M1=>∀ x,M1 x=none->sem (P e) n i (.ref x::rs) (put M1 x (.ins (e.C c) [])) fun v M2=>v= .non/\Q (.ref x) M2
abbrev gT(f:Str)(i:Int):Prop:=∀ {e:Env} {n:Nat} {M:RM} {Q:RVK} {σ:RSt},(tr ((P e).Gn n) (.g f)).E σ M Q=Q (.int i) M
abbrev cT(f:Str)(l:LSt):Prop:=∀ {e:Env} {n:Nat} {M:RM} {Q:RVK} {σ:RSt} {a:T} {neg:Bool},(tr ((P e).Gn n) (.ic neg a f)).E σ M Q=(tr ((P e).Gn n) a).E σ M fun x M1=>okR 15 x=true/\Q (.bl (if neg then !inR x (l.map RV.str)else inR x (l.map RV.str))) M1
theorem qdi{v0 v1:RV}:lT e 0 (qa1 e v0 v1) "many_told" v0:=lI rfl
theorem qc6{v0 v1:RV}:wT e 0 y (qa1 e v0 v1) (qa1 e y v1) "many_told":=wI rfl
theorem qdO{v0 v1:RV}:lT e 0 (qa1 e v0 v1) "standing" v1:=lI rfl
theorem qdA{v0 v1:RV}:wT e 0 y (qa1 e v0 v1) (qa1 e v0 y) "standing":=wI rfl
theorem qj1:wT e 0 y (.ins (e.C 0) []) (.ins (e.C 0) [("many_told",y)]) "many_told":=wI rfl
theorem qj0{v0:RV}:wT e 0 y (.ins (e.C 0) [("many_told",v0)]) (qa1 e v0 y) "standing":=wI rfl
theorem qqw:kT 17 0:=qrQ (d:=qa8) rfl
theorem qcJ{v0 v1:RV}:mT e 0 (qa1 e v0 v1) "door_for":=mI rfl
theorem qdF:tT 63 0 "door_for":=qb2 (d:=qaC) rfl
theorem qe6{v0 v1:RV}:mT e 0 (qa1 e v0 v1) "tell":=mI rfl
theorem qgB:tT 72 0 "tell":=qb2 (d:=qa7) rfl
theorem qjM{v0 v1 v2 v3 v4:RV}:lT e 1 (qay e v0 v1 v2 v3 v4) "low" v0:=lI rfl
theorem qjp{v0 v1 v2 v3 v4:RV}:wT e 1 y (qay e v0 v1 v2 v3 v4) (qay e y v1 v2 v3 v4) "low":=wI rfl
theorem qih{v0 v1 v2 v3 v4:RV}:lT e 1 (qay e v0 v1 v2 v3 v4) "high" v1:=lI rfl
theorem qhL{v0 v1 v2 v3 v4:RV}:wT e 1 y (qay e v0 v1 v2 v3 v4) (qay e v0 y v2 v3 v4) "high":=wI rfl
theorem qig{v0 v1 v2 v3 v4:RV}:lT e 1 (qay e v0 v1 v2 v3 v4) "mark" v2:=lI rfl
theorem qhK{v0 v1 v2 v3 v4:RV}:wT e 1 y (qay e v0 v1 v2 v3 v4) (qay e v0 v1 y v3 v4) "mark":=wI rfl
theorem qg4{v0 v1 v2 v3 v4:RV}:lT e 1 (qay e v0 v1 v2 v3 v4) "taken" v3:=lI rfl
theorem qgs{v0 v1 v2 v3 v4:RV}:wT e 1 y (qay e v0 v1 v2 v3 v4) (qay e v0 v1 v2 y v4) "taken":=wI rfl
theorem qg3{v0 v1 v2 v3 v4:RV}:lT e 1 (qay e v0 v1 v2 v3 v4) "until" v4:=lI rfl
theorem qgr{v0 v1 v2 v3 v4:RV}:wT e 1 y (qay e v0 v1 v2 v3 v4) (qay e v0 v1 v2 v3 y) "until":=wI rfl
theorem qlO:wT e 1 y (.ins (e.C 1) []) (.ins (e.C 1) [("low",y)]) "low":=wI rfl
theorem qlN{v0:RV}:wT e 1 y (.ins (e.C 1) [("low",v0)]) (.ins (e.C 1) [("low",v0),("high",y)]) "high":=wI rfl
theorem qlM{v0 v1:RV}:wT e 1 y (.ins (e.C 1) [("low",v0),("high",v1)]) (.ins (e.C 1) [("low",v0),("high",v1),("mark",y)]) "mark":=wI rfl
theorem qlL{v0 v1 v2:RV}:wT e 1 y (.ins (e.C 1) [("low",v0),("high",v1),("mark",v2)]) (.ins (e.C 1) [("low",v0),("high",v1),("mark",v2),("taken",y)]) "taken":=wI rfl
theorem qlK{v0 v1 v2 v3:RV}:wT e 1 y (.ins (e.C 1) [("low",v0),("high",v1),("mark",v2),("taken",v3)]) (qay e v0 v1 v2 v3 y) "until":=wI rfl
theorem qbx{v0 v1 v2 v3 v4:RV}:mT e 1 (qay e v0 v1 v2 v3 v4) "from_mark":=mI rfl
theorem qdG:tT 18 1 "from_mark":=qb2 (d:=qaD) rfl
theorem qgX{v0 v1 v2 v3 v4:RV}:mT e 1 (qay e v0 v1 v2 v3 v4) "has":=mI rfl
theorem qju:tT 29 1 "has":=qb2 (d:=qaM) rfl
theorem qfP{v0 v1 v2 v3 v4:RV}:mT e 1 (qay e v0 v1 v2 v3 v4) "take":=mI rfl
theorem qhT:tT 30 1 "take":=qb2 (d:=qbn) rfl
theorem qty:kT 50 1:=qrQ (d:=qbo) rfl
theorem qdK{v0 v1 v2 v3 v4:RV}:mT e 1 (qay e v0 v1 v2 v3 v4) "is_free":=mI rfl
theorem qeW:tT 51 1 "is_free":=qb2 (d:=qaO) rfl
theorem qfQ{v0 v1 v2 v3 v4:RV}:mT e 1 (qay e v0 v1 v2 v3 v4) "give":=mI rfl
theorem qhU:tT 52 1 "give":=qb2 (d:=qbp) rfl
theorem qer{v0 v1 v2 v3 v4:RV}:mT e 1 (qay e v0 v1 v2 v3 v4) "picked":=mI rfl
theorem qfD:tT 64 1 "picked":=qb2 (d:=qaY) rfl
theorem qg2{v0 v1 v2 v3:RV}:lT e 2 (qbc e v0 v1 v2 v3) "inner" v0:=lI rfl
theorem qgq{v0 v1 v2 v3:RV}:wT e 2 y (qbc e v0 v1 v2 v3) (qbc e y v1 v2 v3) "inner":=wI rfl
theorem qfW{v0 v1 v2 v3:RV}:lT e 2 (qbc e v0 v1 v2 v3) "number" v1:=lI rfl
theorem qfA{v0 v1 v2 v3:RV}:wT e 2 y (qbc e v0 v1 v2 v3) (qbc e v0 y v2 v3) "number":=wI rfl
theorem qg1{v0 v1 v2 v3:RV}:lT e 2 (qbc e v0 v1 v2 v3) "state" v2:=lI rfl
theorem qgp{v0 v1 v2 v3:RV}:wT e 2 y (qbc e v0 v1 v2 v3) (qbc e v0 v1 y v3) "state":=wI rfl
theorem qif{v0 v1 v2 v3:RV}:lT e 2 (qbc e v0 v1 v2 v3) "over" v3:=lI rfl
theorem qhJ{v0 v1 v2 v3:RV}:wT e 2 y (qbc e v0 v1 v2 v3) (qbc e v0 v1 v2 y) "over":=wI rfl
theorem qlJ:wT e 2 y (.ins (e.C 2) []) (.ins (e.C 2) [("inner",y)]) "inner":=wI rfl
theorem qlI{v0:RV}:wT e 2 y (.ins (e.C 2) [("inner",v0)]) (.ins (e.C 2) [("inner",v0),("number",y)]) "number":=wI rfl
theorem qlH{v0 v1:RV}:wT e 2 y (.ins (e.C 2) [("inner",v0),("number",v1)]) (.ins (e.C 2) [("inner",v0),("number",v1),("state",y)]) "state":=wI rfl
theorem qlG{v0 v1 v2:RV}:wT e 2 y (.ins (e.C 2) [("inner",v0),("number",v1),("state",v2)]) (qbc e v0 v1 v2 y) "over":=wI rfl
theorem qtx:kT 69 2:=qrQ (d:=qbm) rfl
theorem qg0{v0 v1 v2 v3 v4 v5 v6:RV}:lT e 3 (qaf e v0 v1 v2 v3 v4 v5 v6) "form" v0:=lI rfl
theorem qgo{v0 v1 v2 v3 v4 v5 v6:RV}:wT e 3 y (qaf e v0 v1 v2 v3 v4 v5 v6) (qaf e y v1 v2 v3 v4 v5 v6) "form":=wI rfl
theorem qgZ{v0 v1 v2 v3 v4 v5 v6:RV}:lT e 3 (qaf e v0 v1 v2 v3 v4 v5 v6) "pool" v1:=lI rfl
theorem qgn{v0 v1 v2 v3 v4 v5 v6:RV}:wT e 3 y (qaf e v0 v1 v2 v3 v4 v5 v6) (qaf e v0 y v2 v3 v4 v5 v6) "pool":=wI rfl
theorem qie{v0 v1 v2 v3 v4 v5 v6:RV}:lT e 3 (qaf e v0 v1 v2 v3 v4 v5 v6) "now" v2:=lI rfl
theorem qhI{v0 v1 v2 v3 v4 v5 v6:RV}:wT e 3 y (qaf e v0 v1 v2 v3 v4 v5 v6) (qaf e v0 v1 y v3 v4 v5 v6) "now":=wI rfl
theorem qdN{v0 v1 v2 v3 v4 v5 v6:RV}:lT e 3 (qaf e v0 v1 v2 v3 v4 v5 v6) "by_inner" v3:=lI rfl
theorem qdz{v0 v1 v2 v3 v4 v5 v6:RV}:wT e 3 y (qaf e v0 v1 v2 v3 v4 v5 v6) (qaf e v0 v1 v2 y v4 v5 v6) "by_inner":=wI rfl
theorem qdh{v0 v1 v2 v3 v4 v5 v6:RV}:lT e 3 (qaf e v0 v1 v2 v3 v4 v5 v6) "by_number" v4:=lI rfl
theorem qc5{v0 v1 v2 v3 v4 v5 v6:RV}:wT e 3 y (qaf e v0 v1 v2 v3 v4 v5 v6) (qaf e v0 v1 v2 v3 y v5 v6) "by_number":=wI rfl
theorem qex{v0 v1 v2 v3 v4 v5 v6:RV}:lT e 3 (qaf e v0 v1 v2 v3 v4 v5 v6) "holders" v5:=lI rfl
theorem qd7{v0 v1 v2 v3 v4 v5 v6:RV}:wT e 3 y (qaf e v0 v1 v2 v3 v4 v5 v6) (qaf e v0 v1 v2 v3 v4 y v6) "holders":=wI rfl
theorem qew{v0 v1 v2 v3 v4 v5 v6:RV}:lT e 3 (qaf e v0 v1 v2 v3 v4 v5 v6) "numbers" v6:=lI rfl
theorem qd6{v0 v1 v2 v3 v4 v5 v6:RV}:wT e 3 y (qaf e v0 v1 v2 v3 v4 v5 v6) (qaf e v0 v1 v2 v3 v4 v5 y) "numbers":=wI rfl
theorem qjZ:wT e 3 y (.ins (e.C 3) []) (.ins (e.C 3) [("form",y)]) "form":=wI rfl
theorem qjY{v0:RV}:wT e 3 y (.ins (e.C 3) [("form",v0)]) (.ins (e.C 3) [("form",v0),("pool",y)]) "pool":=wI rfl
theorem qjX{v0 v1:RV}:wT e 3 y (.ins (e.C 3) [("form",v0),("pool",v1)]) (.ins (e.C 3) [("form",v0),("pool",v1),("now",y)]) "now":=wI rfl
theorem qjW{v0 v1 v2:RV}:wT e 3 y (.ins (e.C 3) [("form",v0),("pool",v1),("now",v2)]) (.ins (e.C 3) [("form",v0),("pool",v1),("now",v2),("by_inner",y)]) "by_inner":=wI rfl
theorem qjV{v0 v1 v2 v3:RV}:wT e 3 y (.ins (e.C 3) [("form",v0),("pool",v1),("now",v2),("by_inner",v3)]) (.ins (e.C 3) [("form",v0),("pool",v1),("now",v2),("by_inner",v3),("by_number",y)]) "by_number":=wI rfl
theorem qjU{v0 v1 v2 v3 v4:RV}:wT e 3 y (.ins (e.C 3) [("form",v0),("pool",v1),("now",v2),("by_inner",v3),("by_number",v4)]) (.ins (e.C 3) [("form",v0),("pool",v1),("now",v2),("by_inner",v3),("by_number",v4),("holders",y)]) "holders":=wI rfl
theorem qjT{v0 v1 v2 v3 v4 v5:RV}:wT e 3 y (.ins (e.C 3) [("form",v0),("pool",v1),("now",v2),("by_inner",v3),("by_number",v4),("holders",v5)]) (qaf e v0 v1 v2 v3 v4 v5 y) "numbers":=wI rfl
theorem qdJ{v0 v1 v2 v3 v4 v5 v6:RV}:mT e 3 (qaf e v0 v1 v2 v3 v4 v5 v6) "living":=mI rfl
theorem qeV:tT 19 3 "living":=qb2 (d:=qaj) rfl
theorem qqv:kT 31 3:=qrQ (d:=qa5) rfl
theorem qcH{v0 v1 v2 v3 v4 v5 v6:RV}:mT e 3 (qaf e v0 v1 v2 v3 v4 v5 v6) "of_inner":=mI rfl
theorem qdD:tT 32 3 "of_inner":=qb2 (d:=qaq) rfl
theorem qcs{v0 v1 v2 v3 v4 v5 v6:RV}:mT e 3 (qaf e v0 v1 v2 v3 v4 v5 v6) "number_of":=mI rfl
theorem qc7:tT 33 3 "number_of":=qb2 (d:=qav) rfl
theorem qct{v0 v1 v2 v3 v4 v5 v6:RV}:mT e 3 (qaf e v0 v1 v2 v3 v4 v5 v6) "holder_at":=mI rfl
theorem qc8:tT 34 3 "holder_at":=qb2 (d:=qaw) rfl
theorem qe5{v0 v1 v2 v3 v4 v5 v6:RV}:mT e 3 (qaf e v0 v1 v2 v3 v4 v5 v6) "held":=mI rfl
theorem qgA:tT 35 3 "held":=qb2 (d:=qa6) rfl
theorem qde{v0 v1 v2 v3 v4 v5 v6:RV}:mT e 3 (qaf e v0 v1 v2 v3 v4 v5 v6) "pass_by":=mI rfl
theorem qd8:tT 36 3 "pass_by":=qb2 (d:=f_Talks_pass_by) rfl
theorem qe3{v0 v1 v2 v3 v4 v5 v6:RV}:mT e 3 (qaf e v0 v1 v2 v3 v4 v5 v6) "lend":=mI rfl
theorem qgy:tT 53 3 "lend":=qb2 (d:=qa4) rfl
theorem qe4{v0 v1 v2 v3 v4 v5 v6:RV}:mT e 3 (qaf e v0 v1 v2 v3 v4 v5 v6) "lead":=mI rfl
theorem qgz:tT 54 3 "lead":=qb2 (d:=qaH) rfl
theorem qcI{v0 v1 v2 v3 v4 v5 v6:RV}:mT e 3 (qaf e v0 v1 v2 v3 v4 v5 v6) "end_lend":=mI rfl
theorem qdE:tT 55 3 "end_lend":=qb2 (d:=qaB) rfl
theorem qfO{v0 v1 v2 v3 v4 v5 v6:RV}:mT e 3 (qaf e v0 v1 v2 v3 v4 v5 v6) "end":=mI rfl
theorem qhS:tT 56 3 "end":=qb2 (d:=qaT) rfl
theorem qeq{v0 v1 v2 v3 v4 v5 v6:RV}:mT e 3 (qaf e v0 v1 v2 v3 v4 v5 v6) "begin":=mI rfl
theorem qfC:tT 65 3 "begin":=qb2 (d:=qaX) rfl
theorem qcG{v0 v1 v2 v3 v4 v5 v6:RV}:mT e 3 (qaf e v0 v1 v2 v3 v4 v5 v6) "of_outer":=mI rfl
theorem qdC:tT 70 3 "of_outer":=qb2 (d:=qae) rfl
theorem qij{v0 v1 v2 v3 v4:RV}:lT e 4 (qan e v0 v1 v2 v3 v4) "form" v0:=lI rfl
theorem qhN{v0 v1 v2 v3 v4:RV}:wT e 4 y (qan e v0 v1 v2 v3 v4) (qan e y v1 v2 v3 v4) "form":=wI rfl
theorem qg5{v0 v1 v2 v3 v4:RV}:lT e 4 (qan e v0 v1 v2 v3 v4) "table" v1:=lI rfl
theorem qgt{v0 v1 v2 v3 v4:RV}:wT e 4 y (qan e v0 v1 v2 v3 v4) (qan e v0 y v2 v3 v4) "table":=wI rfl
theorem qdP{v0 v1 v2 v3 v4:RV}:lT e 4 (qan e v0 v1 v2 v3 v4) "strangers" v2:=lI rfl
theorem qdB{v0 v1 v2 v3 v4:RV}:wT e 4 y (qan e v0 v1 v2 v3 v4) (qan e v0 v1 y v3 v4) "strangers":=wI rfl
theorem qik{v0 v1 v2 v3 v4:RV}:lT e 4 (qan e v0 v1 v2 v3 v4) "done" v3:=lI rfl
theorem qhO{v0 v1 v2 v3 v4:RV}:wT e 4 y (qan e v0 v1 v2 v3 v4) (qan e v0 v1 v2 y v4) "done":=wI rfl
theorem qii{v0 v1 v2 v3 v4:RV}:lT e 4 (qan e v0 v1 v2 v3 v4) "wish" v4:=lI rfl
theorem qhM{v0 v1 v2 v3 v4:RV}:wT e 4 y (qan e v0 v1 v2 v3 v4) (qan e v0 v1 v2 v3 y) "wish":=wI rfl
theorem qlT:wT e 4 y (.ins (e.C 4) []) (.ins (e.C 4) [("form",y)]) "form":=wI rfl
theorem qlS{v0:RV}:wT e 4 y (.ins (e.C 4) [("form",v0)]) (.ins (e.C 4) [("form",v0),("table",y)]) "table":=wI rfl
theorem qlR{v0 v1:RV}:wT e 4 y (.ins (e.C 4) [("form",v0),("table",v1)]) (.ins (e.C 4) [("form",v0),("table",v1),("strangers",y)]) "strangers":=wI rfl
theorem qlQ{v0 v1 v2:RV}:wT e 4 y (.ins (e.C 4) [("form",v0),("table",v1),("strangers",v2)]) (.ins (e.C 4) [("form",v0),("table",v1),("strangers",v2),("done",y)]) "done":=wI rfl
theorem qlP{v0 v1 v2 v3:RV}:wT e 4 y (.ins (e.C 4) [("form",v0),("table",v1),("strangers",v2),("done",v3)]) (qan e v0 v1 v2 v3 y) "wish":=wI rfl
theorem qe8{v0 v1 v2 v3 v4:RV}:mT e 4 (qan e v0 v1 v2 v3 v4) "lends":=mI rfl
theorem qgD:tT 21 4 "lends":=qb2 (d:=qa9) rfl
theorem qe7{v0 v1 v2 v3 v4:RV}:mT e 4 (qan e v0 v1 v2 v3 v4) "talks":=mI rfl
theorem qgC:tT 22 4 "talks":=qb2 (d:=qaI) rfl
theorem qtz:kT 37 4:=qrQ (d:=qbt) rfl
theorem qfU{v0 v1 v2 v3 v4:RV}:mT e 4 (qan e v0 v1 v2 v3 v4) "deed":=mI rfl
theorem qhY:tT 38 4 "deed":=qb2 (d:=qbu) rfl
theorem qfR{v0 v1 v2 v3 v4:RV}:mT e 4 (qan e v0 v1 v2 v3 v4) "wait":=mI rfl
theorem qhV:tT 39 4 "wait":=qb2 (d:=qbq) rfl
theorem qfS{v0 v1 v2 v3 v4:RV}:mT e 4 (qan e v0 v1 v2 v3 v4) "sent":=mI rfl
theorem qhW:tT 40 4 "sent":=qb2 (d:=qbr) rfl
theorem qcu{v0 v1 v2 v3 v4:RV}:mT e 4 (qan e v0 v1 v2 v3 v4) "picked_for":=mI rfl
theorem qc9:tT 41 4 "picked_for":=qb2 (d:=qax) rfl
theorem qcK{v0 v1 v2 v3 v4:RV}:mT e 4 (qan e v0 v1 v2 v3 v4) "rule_told":=mI rfl
theorem qdH:tT 42 4 "rule_told":=qb2 (d:=qaE) rfl
theorem qdg{v0 v1 v2 v3 v4:RV}:mT e 4 (qan e v0 v1 v2 v3 v4) "answered":=mI rfl
theorem qea:tT 57 4 "answered":=qb2 (d:=qac) rfl
theorem qdf{v0 v1 v2 v3 v4:RV}:mT e 4 (qan e v0 v1 v2 v3 v4) "lead_out":=mI rfl
theorem qd9:tT 58 4 "lead_out":=qb2 (d:=qar) rfl
theorem qcL{v0 v1 v2 v3 v4:RV}:mT e 4 (qan e v0 v1 v2 v3 v4) "begin_out":=mI rfl
theorem qdI:tT 59 4 "begin_out":=qb2 (d:=qaF) rfl
theorem qdL{v0 v1 v2 v3 v4:RV}:mT e 4 (qan e v0 v1 v2 v3 v4) "lead_in":=mI rfl
theorem qeX:tT 60 4 "lead_in":=qb2 (d:=qaP) rfl
theorem qes{v0 v1 v2 v3 v4:RV}:mT e 4 (qan e v0 v1 v2 v3 v4) "sifted":=mI rfl
theorem qfE:tT 66 4 "sifted":=qb2 (d:=qaZ) rfl
theorem qfT{v0 v1 v2 v3 v4:RV}:mT e 4 (qan e v0 v1 v2 v3 v4) "rule":=mI rfl
theorem qhX:tT 73 4 "rule":=qb2 (d:=qbs) rfl
theorem qdM{v0 v1 v2 v3 v4:RV}:mT e 4 (qan e v0 v1 v2 v3 v4) "come_in":=mI rfl
theorem qeY:tT 74 4 "come_in":=qb2 (d:=qak) rfl
theorem qb7{v0 v1 v2 v3 v4:RV}:mT e 4 (qan e v0 v1 v2 v3 v4) "come_by_rule":=mI rfl
theorem qcr:tT 75 4 "come_by_rule":=qb2 (d:=qal) rfl
theorem qfV{v0 v1 v2 v3 v4:RV}:mT e 4 (qan e v0 v1 v2 v3 v4) "come":=mI rfl
theorem qhZ:tT 76 4 "come":=qb2 (d:=qbv) rfl
theorem qgY{v0 v1 v2 v3 v4:RV}:mT e 4 (qan e v0 v1 v2 v3 v4) "out":=mI rfl
theorem qjv:tT 77 4 "out":=qb2 (d:=qbJ) rfl
theorem qdS:gT "GREATEST_HOUSE" 99:=t_g rfl
theorem qeG:gT "GREATEST_DOOR" 9999:=t_g rfl
theorem qdR:gT "GREATEST_PLACE" 1000000:=t_g rfl
theorem qdQ:gT "GREATEST_TICKS" 1000000:=t_g rfl
theorem qhm:gT "MOST_SIGNS" 40:=t_g rfl
theorem qhn:gT "FIRST_SIGN" 32:=t_g rfl
theorem qiw:gT "LAST_SIGN" 126:=t_g rfl
theorem qfc:gT "PERCENT_SIGN" 37:=t_g rfl
theorem qf6:gT "WIDEST_STEP" 199:=t_g rfl
theorem qeF:gT "GREATEST_MOST" 200:=t_g rfl
theorem qeE:gT "GREATEST_TIME" 1000000:=t_g rfl
theorem qre:cT "KINDS" ["note","line"]:=qpr rfl
theorem qhA:cT "NOTE_WORDS" ["say"]:=qpr rfl
theorem qhB:cT "LINE_WORDS" ["open","say","close","break"]:=qpr rfl
theorem qkc:cT "LENDINGS" ["door","place","talk"]:=qpr rfl
theorem qob:cT "SIEVES" ["all","place","talk"]:=qpr rfl
theorem qrd:cT "PICKS" ["next","keep"]:=qpr rfl
theorem qiG:cT "BREAKABLE" ["asked","called","up","near","far"]:=qpr rfl
end
local macro_rules | `(tactic| walk_at "ev") => do
 let f:=fun(t:String)=>(t.splitOn "|").toArray.map fun s=>Lean.mkIdent s.toName
 let a<-(f "qdi|qc6|qdO|qdA|qj1|qj0|qqw|qcJ|qdF|qe6|qgB|qjM|qjp|qih|qhL|qig|qhK|qg4|qgs|qg3|qgr|qlO|qlN|qlM|qlL|qlK|qbx|qdG|qgX|qju|qfP|qhT|qty|qdK|qeW|qfQ|qhU|qer|qfD|qg2|qgq|qfW|qfA|qg1|qgp|qif|qhJ|qlJ|qlI|qlH|qlG|qtx|qg0|qgo|qgZ|qgn|qie|qhI|qdN|qdz|qdh|qc5|qex|qd7|qew|qd6|qjZ|qjY|qjX|qjW|qjV|qjU|qjT|qdJ|qeV|qqv|qcH|qdD|qcs|qc7|qct|qc8|qe5|qgA|qde|qd8|qe3|qgy|qe4|qgz|qcI|qdE|qfO|qhS|qeq|qfC|qcG|qdC|qij|qhN|qg5|qgt|qdP|qdB|qik|qhO|qii|qhM|qlT|qlS|qlR|qlQ|qlP|qe8|qgD|qe7|qgC|qtz|qfU|qhY|qfR|qhV|qfS|qhW|qcu|qc9|qcK|qdH|qdg|qea|qdf|qd9|qcL|qdI|qdL|qeX|qes|qfE|qfT|qhX|qdM|qeY|qb7|qcr|qfV|qhZ|qgY|qjv|qdS|qeG|qdR|qdQ|qhm|qhn|qiw|qfc|qf6|qeF|qeE|qre|qhA|qhB|qkc|qob|qrd|qiG|qwc|qwa|qwb|qwl|qwk|qD1|qxj|g_C|qD0|qDZ|qxk|qkh|qqF|qqz|qqB|qmP|qpm|qki|qqT|qwy|qwx|qxl|qxf|qxz|qq5|qwK|qq8|qt4|qCd|qCG|qqG|quE|xi_tup|qrA|qrz|qrB|qug|qxD|qCj|qqC|qvo|qvn|ql2|qtY|qC7|qqA|qC2|qC9|qDV|qw8|qtA|qDT|qwo|qDW|qCA|qC4|quB|quC|qrk|quA|quz|qrh|qri|qrj|quy|qux|qC6|qDS|qqQ|qqO|qqR|qqP|qqN|qo9|qxV|qvb|qxU|qxT|qxS|qAS|qAR|qAQ|qB7|qrT|qB9|qqy|qCz|qlv|qCk|qqD|qDd|qtd|qtc|qwU|qwV|qwS|qwT|qpx|qtr|qxb|qxa|qw9|reduceIte|qDU|qCb|qjS|qCx|qnO|t_v|t_i|t_s|t_b|t_n|qB6|qCh|qCB|qf2|qCC|qtE|T_v|qEC|qED|qEA|qEE|qEy|qEF|qEB|qEz|qEv|T_b|qEG|qEw|qEx|qbH|qoN|qCH|qCg|qtC|qCi|qCo|qB8|qCm|qCl|qCr|qCq|qCn|qCc|qCf|qtB|qCe|qCp|qCD|qCF|qCE|qCw|qCu|qCy|qCv|qCt|qDb|qaN|qC5|qC8|qDa|qC3|qDc|qqx|qC1|qjH|qwR|qEf|qEg|qAO|qEi|qEh|qrc|qxN|qoa|qun|qum|qcn").mapM fun s=>`(Lean.Parser.Tactic.simpLemma| ↓$s:ident)
 let b<-(f "List.getElem?_cons_zero|List.getElem?_cons_succ|true_and|Bool.not_true|Bool.not_false|waD|Bool.true_and|Bool.false_and|Bool.and_true|Bool.true_or|Bool.false_or|List.set_cons_zero|List.set_cons_succ|qfh|wal|List.length_nil|wan|wbh|List.cons_append|List.nil_append|Option.join_some|Option.isSome_some|Option.isSome_none|qad|qaS|qmS|Nat.reduceAdd|waL|Int.reduceBEq|beq_self_eq_true|Int.reduceLE|Int.reduceLT|decide_true|decide_false|z_0|qBK|qxJ|z_1|qBJ|qu9|z_2|qBI|qEe|z_3|qBH|qEd|z_4|qBG|qEc|z_5|qBF|qEb|z_6|qBE|qEa|z_7|qBD|qD9|z_8|qBC|qD8|z_9|qBB|qD7|and_true").mapM fun s=>`(Lean.Parser.Tactic.simpLemma| $s:ident)
 let c:=a++b
 `(tactic|simp -implicitDefEqProofs only[$c,*])
local macro_rules | `(tactic| walk_at "evs") => do
 let some s<-Lean.Macro.expandMacro? (<-`(tactic|walk_at "ev"))|Lean.Macro.throwUnsupported
 match s with
 | `(tactic|simp -implicitDefEqProofs only[$ls,*])=>`(tactic|simp -implicitDefEqProofs only[*,qao,ne_eq,not_false_eq_true,$ls,*])
 |_=>Lean.Macro.throwUnsupported
local macro_rules | `(tactic| walk_at "evl") => do
 let some s<-Lean.Macro.expandMacro? (<-`(tactic|walk_at "ev"))|Lean.Macro.throwUnsupported
 let a<-#["lg","lp","lk_1","lk_0","pt_0","dr_1","Nat.reduceLT"].mapM fun s=>`(Lean.Parser.Tactic.simpLemma| $(Lean.mkIdent s.toName):ident)
 match s with
 | `(tactic|simp -implicitDefEqProofs only[$ls,*])=>
  let c:=a++ls.getElems
  `(tactic|simp -implicitDefEqProofs only[*,$c,*])
 |_=>Lean.Macro.throwUnsupported
section
variable {e:Env}{n:Nat}{M:RM}{Q:RVK}
theorem qj7{i:Int}:sem (P e) (n+1) 0 [.int i] M Q=Q (.bl true) M:=by
 rw[us (i:=0) (d:=qcg) rfl];simp only[qcg];walk_at "ev"
theorem qam{i j k:Int}:sem (P e) (n+2) 47 [.int i,.int j,.int k] M Q=Q (.bl (decide (j<=i)&&decide (i<=k))) M:=by
 rw[us (i:=47) (d:=qaL) rfl];simp only[qaL];walk_at "ev";simp only[↓qj7];walk_at "ev";simp only[quD]
theorem qfu{i:Int}:sem (P e) (n+3) 1 [.int i] M Q=Q (.bl (decide (0<=i)&&decide (i<=99))) M:=by
 rw[us (i:=1) (d:=qck) rfl];simp only[qck];walk_at "ev";rw[qam]
theorem qbK{i:Int}:sem (P e) (n+3) 2 [.int i] M Q=Q (.bl (decide (1<=i)&&decide (i<=9999))) M:=by
 rw[us (i:=2) (d:=qcZ) rfl];simp only[qcZ];walk_at "ev";rw[qam]
theorem qft{i:Int}:sem (P e) (n+3) 3 [.int i] M Q=Q (.bl (decide (0<=i)&&decide (i<=1000000))) M:=by
 rw[us (i:=3) (d:=qcj) rfl];simp only[qcj];walk_at "ev";rw[qam]
theorem qj8{i:Int}:sem (P e) (n+3) 4 [.int i] M Q=Q (.bl (decide (1<=i)&&decide (i<=1000000))) M:=by
 rw[us (i:=4) (d:=qaR) rfl];simp only[qaR];walk_at "ev";rw[qam]
theorem qk4{k:Nat}{x:Str}:(okR k (.str x)=true)=True:=by cases k<;>exact eq_true rfl
def Lw(w:Str):Prop:=w= "open"∨w= "say"∨w= "close"∨w= "break"
theorem qgS:sem (P e) (n+1) 6 [.str "line"] M Q=Q (.bl true) M:=by
 rw[us (i:=6) (d:=qcX) rfl];simp only[qcX];walk_at "ev";rw[show inR (.str "line") [.str "note",.str "line"]=true by decide+kernel,qk4,true_and]
theorem qkJ{w:Str}(h:Lw w):sem (P e) (n+1) 25 [.str "line",.str w] M Q=Q (.bl true) M:=by
 rw[us (i:=25) (d:=qcS) rfl];simp only[qcS];walk_at "ev";rw[wad (by decide+kernel),show inR (.str w) [.str "open",.str "say",.str "close",.str "break"]=true by rcases h with rfl|rfl|rfl|rfl<;>decide+kernel,qk4,true_and]
theorem qat{M:RM}:okT M:=trivial
def Tx(x:Str):Prop:=x.length<=40/\(qbb x).length<=40/\∀ y∈qbb x,∃ s:Str,y= .str s/\s.length=1/\32<=s.cps.getD 0 0/\s.cps.getD 0 0<=126/\s.cps.getD 0 0≠37
theorem tx0:Tx "":=⟨by decide+kernel,by decide+kernel,fun y hy=>by rw[show qbb "" = [] by decide+kernel]at hy;cases hy⟩
theorem tx1{x:Str}(h:qbb x= [.str x])(l:x.length=1)(c:32<=x.cps.getD 0 0/\x.cps.getD 0 0<=126/\x.cps.getD 0 0≠37):Tx x:=⟨by rw[l];decide,by rw[h];exact Nat.le_of_ble_eq_true rfl,fun y hy=>by rw[h]at hy;cases wbl.mp hy;exact⟨x,rfl,l,c⟩⟩
theorem qkL{x:Str}(t:Tx x)(h:Q (.bl true) M):sem (P e) (n+2) 8 [.str x] M Q:=by
 obtain⟨t1,t3,t2⟩:=t;rw[us (i:=8) (d:=qcT) rfl];simp only[qcT];walk_at "ev";refine⟨was t1 (by decide),?_⟩
 rw[wad (by simp;omega)]
 refine⟨Nat.lt_of_le_of_lt t3 (by decide),qgc (bd:=qod false 1) (fun _=>true) (fun _=>.bl true) qat _ _ (fun y hy=>⟨[y],rfl,fun K h=>h,fun _ K h=>?_⟩) ?_⟩
 · obtain⟨z,rfl,z1,z2,z3,z4⟩:=t2 y hy
   walk_at "ev";rw[us (i:=7) (d:=qcU) rfl];simp only[qcU];walk_at "ev";refine⟨z1,?_⟩;simp only[show(32:Int)<=(z.cps.getD 0 0:Nat) by omega,show((z.cps.getD 0 0:Nat):Int)<=126 by omega,decide_true,↓reduceIte]
   rw[show(((z.cps.getD 0 0:Nat):Int)==37)=false by simpa using fun q:((z.cps.getD 0 0:Nat):Int)=37=>z4 (by omega)]
   exact h
 · rw[List.nil_append,show((qbb x).filter fun _=>true).map (fun _=>RV.bl true)=(List.replicate (qbb x).length true).map RV.bl by rw[List.filter_eq_self.mpr fun _ _=>rfl,List.map_const',List.map_replicate]]
   refine(qpb (bs:=List.replicate (qbb x).length true)).mpr ?_;rw[show(List.replicate (qbb x).length true).all id=true by simp]
   exact h
theorem qel{w x:Str}(l:Lw w)(t:Tx x)(h:Q (.bl true) M):sem (P e) (n+3) 48 [.str "line",.str w,.str x] M Q:=by
 rw[us (i:=48) (d:=qbQ) rfl];simp only[qbQ];walk_at "ev";rw[qgS,qbH,wag rfl,qkJ l,qbH,wag rfl];exact qkL t h
theorem qbe{a b c d:Int}(h1:a<=b)(h2:c<=d):(decide (a<=b)&&decide (c<=d))=true:=by simp[h1,h2]
theorem qm5{a b c d:Int}{w x:Str}(l:Lw w)(t:Tx x)(ha:0<=a/\a<=99)(hb:1<=b/\b<=9999)(hc:0<=c/\c<=1000000)(hd:1<=d/\d<=9999)(h:Q (.bl true) M):sem (P e) (n+4) 9 [.tup [.str "line",.int a,.int b,.int c,.int d,.str w,.str x]] M Q:=by
 rw[us (i:=9) (d:=qcW) rfl];simp only[qcW];walk_at "ev";simp only[↓qfu,↓qbK,↓qft,↓qbH,qbe ha.1 ha.2,qbe hb.1 hb.2,qbe hc.1 hc.2,qbe hd.1 hd.2,↓reduceIte];exact qel l t h
theorem ql4{x:Str}{r:LR}:sem (P e) (n+1) 13 [.tup (.str x::r)] M Q=Q (.str x) M:=by
 rw[us (i:=13) (d:=qcR) rfl];simp only[qcR];walk_at "ev";simp only[qto,waD,↓reduceIte]
def Dd(e:Env)(x:Str)(i:Nat):Prop:=∃ a,qbC (e.tb "DEEDS") (.inr x)=some (.ref a)/\(a,i)∈e.cv
structure Tb(e:Env):Prop where
 out:Dd e "out" 9
 come:Dd e "come" 10
 wait:Dd e "wait" 11
 rule:Dd e "rule" 12
 t1:qbC (e.tb "TIME_AT") (.inr "asked")=some (.int 1)
 t2:qbC (e.tb "TIME_AT") (.inr "called")=some (.int 1)
 t3:qbC (e.tb "TIME_AT") (.inr "up")=some (.int 2)
 t4:qbC (e.tb "TIME_AT") (.inr "near")=some (.int 2)
 t5:qbC (e.tb "TIME_AT") (.inr "far")=some (.int 2)
theorem qiZ{x:Str}{i:Nat}{ps:LR}(d:Dd e x i)(h:sem (P e) (n+4) i [.tup ps] M Q):sem (P e) (n+5) 14 [.tup (.str x::ps)] M Q:=by
 rw[us (i:=14) (d:=qc0) rfl];simp only[qc0];walk_at "ev";rw[ql4];walk_at "ev";obtain⟨f,h1,h2⟩:=d;rw[h1,qkh,qlv,wad (by simp)]
 refine⟨_,waE.mpr ⟨_,h2,rfl⟩,?_⟩;walk_at "ev";rw[qxC];exact h
theorem qkO{a b c:Int}{w x:Str}(l:Lw w)(t:Tx x)(ha:1<=a/\a<=1000000)(hb:1<=b/\b<=9999)(hc:1<=c/\c<=9999)(h:Q (.bl true) M):sem (P e) (n+4) 10 [.tup [.str "line",.int a,.int b,.int c,.str w,.str x]] M Q:=by
 rw[us (i:=10) (d:=qcb) rfl];simp only[qcb];walk_at "ev";simp only[↓qj8,↓qbK,↓qbH,qbe ha.1 ha.2,qbe hb.1 hb.2,qbe hc.1 hc.2,↓reduceIte];exact qel l t h
theorem qkK{k:Int}(h1:0<=k)(h2:k<=1000000)(h:Q (.bl true) M):sem (P e) (n+4) 11 [.tup [.int k]] M Q:=by
 rw[us (i:=11) (d:=qca) rfl];simp only[qca];walk_at "ev";rw[us (i:=5) (d:=qci) rfl];simp only[qci];walk_at "ev";rw[qam];simp only[h1,h2,decide_true,Bool.and_true];exact h
theorem qkM{a b c:Int}{p:RV}(hp:p= .non∨∃ i:Int,p= .int i/\0<=i/\i<=1000000)(ha:1<=a/\a<=9999)(hb:0<=b/\b<=99)(hc:1<=c/\c<=9999)(h:Q (.bl true) M):sem (P e) (n+4) 12 [.tup [.str "line",.int a,p,.int b,.int c]] M Q:=by
 have tail:∀ {σ:RSt},σ=σ->sem (P e) (n+3) 6 [.str "line"] M (kAn (fun M1=>sem (P e) (n+3) 2 [.int a] M1 (kAn (fun M1=>sem (P e) (n+3) 1 [.int b] M1 (kAn (fun M1=>sem (P e) (n+3) 2 [.int c] M1 Q) Q)) Q)) Q):=fun {_} _=>by
  rw[qgS,qbH,wag rfl,qbK,qbe ha.1 ha.2,qbH,wag rfl,qfu,qbe hb.1 hb.2,qbH,wag rfl,qbK,qbe hc.1 hc.2];exact h
 rcases hp with rfl|⟨i,rfl,h1,h2⟩
 · rw[us (i:=12) (d:=qbl) rfl];simp only[qbl];walk_at "ev"
   exact tail (σ:=[]) rfl
 · rw[us (i:=12) (d:=qbl) rfl];simp only[qbl];walk_at "ev"
   rw[qft,qbe h1 h2];walk_at "ev";exact tail (σ:=[]) rfl
def Ws(s:Str):Prop:=s= "asked"∨s= "called"∨s= "up"∨s= "near"∨s= "far"
theorem qt0(tb:Tb e){l h le si pi mo re t0 t1 t2 t3:RV}{st:Str}(z:Ws st):sem (P e) (n+1) 28 [.tup [l,h,le,si,pi,mo,re,.tup [t0,t1,t2,t3]],.str st] M Q=Q (if st= "asked"∨st= "called" then t1 else t2) M:=by
 rw[us (i:=28) (d:=qcQ) rfl];simp only[qcQ];walk_at "ev";rcases z with rfl|rfl|rfl|rfl|rfl
 · rw[tb.t1,wag (.inl rfl)];walk_at "ev"
 · rw[tb.t2,wag (.inr rfl)];walk_at "ev"
 · rw[tb.t3,wad (by decide+kernel)];walk_at "ev"
 · rw[tb.t4,wad (by decide+kernel)];walk_at "ev"
 · rw[tb.t5,wad (by decide+kernel)];walk_at "ev"
def oS:Option Str->RV
 |some x=>.str x
 |none=>.non
def steps:List (TK×Str):=(S.tt.lookup ("LINE_STEPS":Str)).getD []
noncomputable def nxL (st:Option Str)(sd w:Str):Option Str:=if w= "break" then(if inR (oS st) [.str "asked",.str "called",.str "up",.str "near",.str "far"]=true then some ("shut":Str)else none)else(steps.find? fun p=>decide (p.1= [some (.inr sd),st.map Sum.inr,some (.inr w)])).map (·.2)
theorem qqo{l:List (TK×Str)}{k:TK}:qe9 l k=oS ((l.find? fun p=>decide (p.1=k)).map (·.2)):=by unfold qe9;split<;>rename_i h<;>rw[h]<;>rfl
theorem qCa{Γ:G}{x:Str}{a:T}{σ:RSt}{l:List (TK×Str)}(h:Γ.S.tt.lookup x=some l):(tr Γ (.tg x a)).E σ M Q=(tr Γ a).E σ M (qf1 l Q):=by
 show(match Γ.S.tt.lookup x with|some l=>qfL l (tr Γ a).E|none=>qbj) σ M Q=_
 rw[h];rfl
theorem qhp{st:Option Str}{sd w:Str}:sem (P e) (n+1) 49 [oS st,.str sd,.str w] M Q=Q (oS (nxL st sd w)) M:=by
 rw[us (i:=49) (d:=qbz) rfl];simp only[qbz];walk_at "ev";have o1:okR 15 (oS st)=true:=by cases st<;>rfl
 have o2:qk6 [.str sd,oS st,.str w]=some [some (.inr sd),st.map Sum.inr,some (.inr w)]:=by cases st<;>rfl
 unfold nxL
 by_cases h:w= "break"
 · rw[wag (by simpa using h),wag h,o1,eq_self_iff_true,true_and]
   split<;>rfl
 · rw[wad (by simpa using h),wad h]
   rw[qCa (l:=steps) (by rfl)]
   walk_at "ev";show(match qk6 [.str sd,oS st,.str w]with|some ks=>Q (qe9 steps ks) M|none=>False)=_
   rw[o2];dsimp only;rw[qqo]
theorem qdw{st:Option Str}{sd w:Str}:sem (P e) (n+2) 62 [.str "line",oS st,.str sd,.str w] M Q=Q (oS (nxL st sd w)) M:=by
 rw[us (i:=62) (d:=qby) rfl];simp only[qby];walk_at "ev";rw[wad (by decide+kernel)]
 exact qhp
theorem qqZ{sd w:Str}:sem (P e) (n+2) 62 [.str "line",.non,.str sd,.str w] M Q=Q (oS (nxL none sd w)) M:=qdw (st:=none)
theorem qt1{st sd w:Str}:sem (P e) (n+2) 62 [.str "line",.str st,.str sd,.str w] M Q=Q (oS (nxL (some st) sd w)) M:=qdw (st:=some st)
theorem qnW{lend:Str}{l h si pi mo re ti ki ho do_ pl fa:RV}:sem (P e) (n+1) 27 [.tup [l,h,.str lend,si,pi,mo,re,ti],.tup [ki,ho,do_,pl,fa]] M Q=
 Q (if lend= "door" then .tup [ki,ho,do_,.non,.non]else if lend= "place" then .tup [ki,ho,do_,pl,.non]else .tup [ki,ho,do_,pl,fa]) M:=by
 rw[us (i:=27) (d:=qbR) rfl];simp only[qbR];walk_at "ev";simp only[waM]
 by_cases h1:lend= "door"
 · rw[wag h1,wag h1]
 · rw[wad h1,wad h1]
   by_cases h2:lend= "place"
   · rw[wag h2,wag h2]
   · rw[wad h2,wad h2]
theorem ql5{l h:Int}(h1:1<=l)(h2:l<=h)(h3:h<=9999)(h4:h<=l+199):sem (P e) (n+4) 26 [.int l,.int h] M Q=Q (.bl true) M:=by
 rw[us (i:=26) (d:=qcV) rfl];simp only[qcV];walk_at "ev";rw[qbK,qbe h1 (by omega),qbH,wag rfl,qbK,qbe (by omega) h3,qbH,wag rfl]
 rw[wba h2,wba h4];rfl
theorem qjA{a b c d:Int}(ha:1<=a/\a<=1000000)(hb:1<=b/\b<=1000000)(hc:1<=c/\c<=1000000)(hd:0<=d/\d<=1000000)(h:Q (.bl true) M):sem (P e) (n+3) 15 [.tup [.int a,.int b,.int c,.int d]] M Q:=by
 rw[us (i:=15) (d:=qch) rfl];simp only[qch];walk_at "ev";rw[show qiF [RV.int a,RV.int b,RV.int c,RV.int d] none (some 3)= [RV.int a,RV.int b,RV.int c]from rfl]
 refine⟨(by decide:3<sizeLine),qgc (bd:=qod false 1) (fun _=>true) (fun _=>.bl true) qat _ _ (fun x hx=>⟨[x],rfl,fun K h=>h,fun _ K h=>?_⟩) ?_⟩
 · have:∃ i:Int,x= .int i/\1<=i/\i<=1000000:=by
    simp only[waH,List.not_mem_nil,or_false]at hx;rcases hx with rfl|rfl|rfl
    · exact⟨a,rfl,ha⟩
    · exact⟨b,rfl,hb⟩
    · exact⟨c,rfl,hc⟩
   obtain⟨i,rfl,h1,h2⟩:=this;walk_at "ev";rw[qam,qbe h1 h2];exact h
 · refine(qpb (bs:=[true,true,true])).mpr ?_
   show kAn _ Q (.bl true) M;rw[qbH,wag rfl,qam,qbe hd.1 hd.2];exact h
theorem qqs{x:Str}(h:x= "door"∨x= "place"∨x= "talk"):inR (.str x) [.str "door",.str "place",.str "talk"]=true:=by rcases h with rfl|rfl|rfl<;>decide+kernel
theorem qmV{x:Str}(h:x= "all"∨x= "place"∨x= "talk"):inR (.str x) [.str "all",.str "place",.str "talk"]=true:=by rcases h with rfl|rfl|rfl<;>decide+kernel
theorem qp4{x:Str}(h:x= "next"∨x= "keep"):inR (.str x) [.str "next",.str "keep"]=true:=by rcases h with rfl|rfl<;>decide+kernel
structure Fm where
 low:Int
 high:Int
 lend:Str
 sieve:Str
 pick:Str
 most:Int
 renew:Bool
 t0:Int
 t1:Int
 t2:Int
 t3:Int
def Fm.times(f:Fm):RV:=.tup [.int f.t0,.int f.t1,.int f.t2,.int f.t3]
def Fm.r(f:Fm):RV:=.tup [.int f.low,.int f.high,.str f.lend,.str f.sieve,.str f.pick,.int f.most,.bl f.renew,f.times]
structure Fm.Ok(f:Fm):Prop where
 lo:1<=f.low
 le:f.low<=f.high
 hi:f.high<=9999
 wide:f.high<=f.low+199
 lend:f.lend= "door"∨f.lend= "place"∨f.lend= "talk"
 sieve:f.sieve= "all"∨f.sieve= "place"∨f.sieve= "talk"
 pick:f.pick= "next"∨f.pick= "keep"
 most:1<=f.most/\f.most<=200
 t0:1<=f.t0/\f.t0<=1000000
 t1:1<=f.t1/\f.t1<=1000000
 t2:1<=f.t2/\f.t2<=1000000
 t3:0<=f.t3/\f.t3<=1000000
theorem qkN{f:Fm}(ok:f.Ok)(h:Q (.bl true) M):sem (P e) (n+5) 16 [f.r] M Q:=by
 unfold Fm.r;rw[us (i:=16) (d:=qcY) rfl];simp only[qcY];walk_at "ev";simp only[qqs ok.lend,qmV ok.sieve,qp4 ok.pick,qk4,↓reduceIte,Bool.not_true,waD,true_and];rw[qam,qbe ok.most.1 ok.most.2];walk_at "ev";rw[ql5 ok.lo ok.le ok.hi ok.wide,qbH,wag rfl];exact qjA ok.t0 ok.t1 ok.t2 ok.t3 h
end
section
variable {M:RM}
theorem qnc{x a:Addr}{o:RO}(h:put M a o x=none):M x=none/\x≠a:=by
 unfold put at h
 by_cases z:x=a
 · rw[wag z]at h;cases h
 · rw[wad z]at h;exact⟨h,z⟩
theorem qdY{a b:Addr}{o o':RO}(h:a≠b):put (put M a o) b o'=put (put M b o') a o:=by
 funext c;unfold put
 by_cases z1:c=b
 · rw[wag z1,wad (by rw[z1];exact fun z=>h z.symm),wag z1]
 · rw[wad z1,wad z1]
end
section
def lay(ad:Nat->Addr):Nat->List RO->RM->RM
 |_,[],M=>M
 |k,o::r,M=>put (lay ad (k+1) r M) (ad k) o
def Ij(ad:Nat->Addr)(n:Nat):Prop:=∀ i j,i<n->j<n->ad i=ad j->i=j
variable {ad:Nat->Addr}{M:RM}{os:List RO}{o:RO}{i k:Nat}{x:Addr}
theorem qll:∀ {os k i},Ij ad (k+os.length)->i<os.length->lay ad k os M (ad (k+i))=os[i]?
 |o::r,k,0,_,_=>qad
 |o::r,k,i+1,H,h=>by
  have h:i<r.length:=Nat.lt_of_succ_lt_succ h;have e1:k+(i+1)=k+1+i:=by omega
  have H':Ij ad (k+1+r.length):=by rw[wal]at H;rwa [show k+1+r.length=k+(r.length+1) by omega]
  rw[e1];refine(qao fun z=>?_).trans ((qll H' h).trans rfl)
  have:=H' _ _ (by omega) (by omega) z
  omega
theorem qlk:∀ {os k i},Ij ad (k+os.length)->i<os.length->put (lay ad k os M) (ad (k+i)) o=lay ad k (os.set i o) M
 |_::r,k,0,_,_=>qaS
 |u::r,k,i+1,H,h=>by
  have h:i<r.length:=Nat.lt_of_succ_lt_succ h;have e1:k+(i+1)=k+1+i:=by omega
  have H':Ij ad (k+1+r.length):=by rw[wal]at H;rwa [show k+1+r.length=k+(r.length+1) by omega]
  rw[e1];show put (put (lay ad (k+1) r M) (ad k) u) (ad (k+1+i)) o=put (lay ad (k+1) (r.set i o) M) (ad k) u;rw[qdY fun z=>by have:=H' _ _ (by omega) (by omega) z;omega,qlk H' h]
theorem qjd:∀ {os k},(∀ i,i<os.length->ad (k+i)≠x)->lay ad k os M x=M x
 | [],_,_=>rfl
 |o::r,k,h=>(qao (wa4 (h 0 (Nat.succ_pos _)))).trans (qjd fun i hi=>by
  have:=h (i+1) (Nat.succ_lt_succ hi)
  rwa [show k+1+i=k+(i+1) by omega])
abbrev laid(ad:Nat->Addr)(os:List RO)(M:RM):RM:=lay ad 0 os M
theorem lg(H:Ij ad os.length)(h:i<os.length):lay ad 0 os M (ad i)=os[i]?:=by
 have:=qll (M:=M) (k:=0) (i:=i) (by rwa [waL]) h
 rwa [waL]at this
theorem lp(H:Ij ad os.length)(h:i<os.length):put (lay ad 0 os M) (ad i) o=lay ad 0 (os.set i o) M:=by
 have:=qlk (M:=M) (o:=o) (k:=0) (i:=i) (by rwa [waL]) h
 rwa [waL]at this
theorem qlm{ad':Nat->Addr}:∀ {os k},(∀ j,j<k+os.length->ad j=ad' j)->lay ad k os M=lay ad' k os M
 | [],_,_=>rfl
 |o::r,k,h=>by
  show put (lay ad (k+1) r M) (ad k) o=put (lay ad' (k+1) r M) (ad' k) o;rw[qlm (os:=r) (k:=k+1) fun j hj=>h j (by rw[wal];omega),h k (by rw[wal];omega)]
theorem qbD{o:RO}:∀ {os k},lay ad k (os++ [o]) M=lay ad k os (put M (ad (k+os.length)) o)
 | [],_=>rfl
 |u::r,k=>by
  show put (lay ad (k+1) (r++ [o]) M) (ad k) u=put (lay ad (k+1) r (put M (ad (k+(r.length+1))) o)) (ad k) u;rw[qbD,show k+1+r.length=k+(r.length+1) by omega]
theorem qev{o:RO}:∀ {os k},(∀ i,i<os.length->ad (k+i)≠x)->put (lay ad k os M) x o=lay ad k os (put M x o)
 | [],_,_=>rfl
 |u::r,k,h=>by
  show put (put (lay ad (k+1) r M) (ad k) u) x o=put (lay ad (k+1) r (put M x o)) (ad k) u;rw[qdY (a:=ad k) (h 0 (Nat.succ_pos _)),qev fun i hi=>by
   have:=h (i+1) (Nat.succ_lt_succ hi)
   rwa [show k+1+i=k+(i+1) by omega]]
theorem qd1:∀ {os k},lay ad k os M x=none->M x=none
 | [],_,h=>h
 |_::_,_,h=>qd1 (qnc h).1
theorem qoL(H:Ij ad os.length)(h:i<os.length):∃ u,lay ad 0 os M (ad i)=some u:=⟨os[i],by rw[lg H h];simp[h]⟩
theorem nu1{k:Nat}(H:Ij ad k)(hl:os.length=k)(hx:lay ad 0 os M x=none):∃ ad',(∀ j,j<k->ad j=ad' j)/\ad' k=x/\Ij ad' (k+1)/\∀ o,put (lay ad 0 os M) x o=lay ad' 0 (os++ [o]) M:=by
 subst hl;have ne:∀ j,j<os.length->ad j≠x:=fun j hj z=>by
  obtain⟨u,hu⟩:=qoL (M:=M) H hj;rw[z,hx]at hu;cases hu
 have a1:∀ j,j<os.length->ad j=(fun j=>if j=os.length then x else ad j) j:=fun j hj=>by
  show _=if j=os.length then x else ad j
  rw[wad (by omega)]
 have a2:(fun j=>if j=os.length then x else ad j) os.length=x:=wag rfl
 refine⟨fun j=>if j=os.length then x else ad j,a1,a2,fun i j hi hj z=>?_,fun o=>?_⟩
 · dsimp only at z
   by_cases p:i=os.length<;>by_cases q:j=os.length
   · omega
   · rw[wag p,wad q]at z;exact waI z.symm (ne j (by omega))
   · rw[wad p,wag q]at z;exact waI z (ne i (by omega))
   · rw[wad p,wad q]at z;exact H i j (by omega) (by omega) z
 · rw[qbD,waL,wag rfl,qev fun j hj=>by rw[waL];exact ne j hj]
   exact qlm fun j hj=>a1 j (by omega)
end
section
variable {κ κ' β:Type}[DecidableEq κ][DecidableEq κ']{g:κ->κ'}{v:β->RV}
def enc(g:κ->κ')(v:β->RV)(l:List (κ×β)):List (κ'×RV):=l.map fun x=>(g x.1,v x.2)
theorem qlj(hg:∀ a b,g a=g b->a=b){k:κ}:∀ {l:List (κ×β)},lk (enc g v l) (g k)=(lk l k).map v
 | []=>rfl
 |(j,x)::r=>by
  show lk ((g j,v x)::enc g v r) (g k)=_;rw[qaz,qaz]
  by_cases h:j=k
  · rw[wag h,wag (by rw[h])];rfl
  · rw[wad h,wad (fun z=>h (hg _ _ z))];exact qlj hg
theorem qoB(hg:∀ a b,g a=g b->a=b){k:κ}{y:β}{l:List (κ×β)}:pt (enc g v l) (g k) (v y)=enc g v (pt l k y):=by
 have e1:((enc g v l).any fun kv=>decide (kv.1=g k))=(l.any fun kv=>decide (kv.1=k)):=by
  unfold enc;rw[List.any_map];congr 1;funext x;exact decide_eq_decide.mpr ⟨fun z=>hg _ _ z,fun z=>by show g x.1=g k;rw[z]⟩
 unfold pt;rw[e1];split
 · unfold enc
   rw[waG,waG];refine wbu fun x _=>?_
   show(if g x.1=g k then(g x.1,v y)else(g x.1,v x.2))=(g (if x.1=k then(x.1,y)else x).1,v (if x.1=k then(x.1,y)else x).2)
   by_cases h:x.1=k
   · rw[wag h,wag (by rw[h])]
   · rw[wad h,wad (fun z=>h (hg _ _ z))]
 · unfold enc;rw[wbw];rfl
theorem qt2(hg:∀ a b,g a=g b->a=b){k:κ}{l:List (κ×β)}:dr (enc g v l) (g k)=enc g v (dr l k):=by
 unfold dr enc;rw[List.filter_map];congr 2;funext x;exact decide_eq_decide.mpr ⟨fun z q=>z (by rw[<-q]),fun z q=>z (hg _ _ q)⟩
theorem ql6{l:List (κ×β)}{k:κ}(h:lk l k=none):dr l k=l:=by
 unfold dr;refine List.filter_eq_self.mpr fun x hx=>?_
 unfold lk at h;rw[Option.map_eq_none_iff,List.find?_eq_none]at h;have:=h x hx;simpa using this
theorem ql3{l:List (κ×β)}:(enc g v l).length=l.length:=by simp[enc]
theorem qoA{l:List (κ×β)}{k:κ}{y:β}:(pt l k y).length<=l.length+1:=by
 unfold pt;split<;>simp
theorem qeD(a b:Int)(h:(Sum.inl a:Key)= .inl b):a=b:=Sum.inl.inj h
end
section
variable {e:Env}{n:Nat}{M:RM}{Q:RVK}
structure PoolS where
 low:Int
 high:Int
 mark:Int
 taken:List (Int×Unit)
 untl:List (Int×Int)
def eT(l:List (Int×Unit)):LKR:=enc Sum.inl (fun _=>.bl true) l
def eU(l:List (Int×Int)):LKR:=enc Sum.inl RV.int l
structure qjn(e:Env)(M:RM)(a ta un:Addr)(p:PoolS):Prop where
 o:M a=some (qay e (.int p.low) (.int p.high) (.int p.mark) (.ref ta) (.ref un))
 t:M ta=some (.dk (eT p.taken))
 u:M un=some (.dk (eU p.untl))
def PoolS.has(p:PoolS)(i:Int):Bool:=decide (p.low<=i)&&decide (i<=p.high)
def PoolS.free(p:PoolS)(i m:Int):Bool:=p.has i&& !(lk p.taken i).isSome&&(match lk p.untl i with|none=>true|some u=>decide (u<=m))
theorem qw6{l:List (Int×Unit)}{i:Int}:(lk (eT l) (.inl i)).isSome=(lk l i).isSome:=by
 unfold eT;rw[qlj qeD];simp
theorem qqq{l:List (Int×Int)}{i:Int}:lk (eU l) (.inl i)=(lk l i).map RV.int:=qlj qeD
theorem qxt{a:Addr}{l h i:Int}{mk ta un:RV}(o:M a=some (qay e (.int l) (.int h) mk ta un)):sem (P e) (n+1) 29 [.ref a,.int i] M Q=Q (.bl (decide (l<=i)&&decide (i<=h))) M:=by
 rw[us (i:=29) (d:=qaM) rfl];simp only[qaM];walk_at "ev";rw[o];walk_at "ev";rw[o];walk_at "ev";exact quD
theorem qhq{a ta un:Addr}{p:PoolS}{i m:Int}(h:qjn e M a ta un p):sem (P e) (n+2) 51 [.ref a,.int i,.int m] M Q=Q (.bl (p.free i m)) M:=by
 obtain⟨ho,ht,hu⟩:=h;rw[us (i:=51) (d:=qaO) rfl];simp only[qaO];walk_at "evs";rw[qxt ho];walk_at "evs";rw[qw6,qqq];unfold PoolS.free PoolS.has;cases(decide (p.low<=i)&&decide (i<=p.high))<;>cases(lk p.taken i).isSome<;>cases lk p.untl i<;>simp[wO,qoN,cmR]<;>rfl
noncomputable def PoolS.line (p:PoolS):List Int:=(List.range (p.high+1-p.mark).toNat).map (fun(i:Nat)=>p.mark+(i:Int))++(List.range (p.mark-p.low).toNat).map fun(i:Nat)=>p.low+(i:Int)
structure PoolS.Ok(p:PoolS):Prop where
 lo:1<=p.low
 mlo:p.low<=p.mark
 mhi:p.mark<=p.high
 hi:p.high<=9999
 wide:p.high<=p.low+199
theorem qi5{a:Int}{k:Nat}:qd0 a k=((List.range k).map fun(i:Nat)=>a+(i:Int)).map RV.int:=by unfold qd0;rw[waG];rfl
theorem qnF(p:PoolS)(ok:p.Ok):p.line.length<=200:=by
 obtain⟨o1,o2,o3,o4,o5⟩:=ok;unfold PoolS.line;simp;omega
theorem qiA{a ta un:Addr}{p:PoolS}(ok:p.Ok)(h:qjn e M a ta un p)(hq:Q (.ls (p.line.map RV.int)) M):sem (P e) (n+1) 18 [.ref a] M Q:=by
 have hl:=qnF p ok;obtain⟨ho,ht,hu⟩:=h;obtain⟨o1,o2,o3,o4,o5⟩:=ok;rw[us (i:=18) (d:=qaD) rfl];simp only[qaD];walk_at "evs";rw[qi5,qi5,<-wbw];refine⟨by omega,by omega,by omega,by omega,?_,hq⟩
 unfold PoolS.line at hl;simp only[waj,waC]at hl ⊢;exact was hl (by decide)
def PoolS.pick(p:PoolS)(keep:Bool)(door m:Int):Option Int:=if(keep&&p.free door m)=true then some door else p.line.find? fun i=>p.free i m
def qsZ:Option Int->RV
 |some i=>.int i
 |none=>.non
theorem qm4{a ta un:Addr}{p:PoolS}{pick:Str}{d m:Int}(ok:p.Ok)(h:qjn e M a ta un p)(hq:Q (qsZ (p.pick (pick== "keep") d m)) M):sem (P e) (n+3) 64 [.ref a,.str pick,.int d,.int m] M Q:=by
 obtain⟨ho,ht,hu⟩:=id h;have rest:∀ (xs:List Int) (z:Option RV),Q (qsZ (xs.find? fun i=>p.free i m)) M->qem (rgN 4) (tr ((P e).Gn (n+2)) (.se (.if_ (.me 51 (.v 0) (.ec (.v 4) (.ec (.v 3) .e0))) (.se (.re (.v 4)) .en) .en) .en)).S
  { nx:=(tr ((P e).Gn (n+2)) (.se (.re .n) .en)).S (rd Q),rt:=Q,bk:=(rd Q).bk,ct:=(rd Q).ct } okT id (xs.map RV.int) [some (.ref a),some (.str pick),some (.int d),some (.int m),z] M:=by
  intro xs
  induction xs with
  |nil=>intro z hq;refine⟨qat,?_⟩;show Q .non M;exact hq
  |cons x xs ih=>
   intro z hq;refine⟨qat,?_⟩;unfold rgN;walk_at "evs";rw[qhq h,qf2];rw[waN]at hq;cases e1:p.free x m with
   |true=>rw[e1]at hq;rw[wag rfl];first|exact hq|exact And.intro qat hq
   |false=>rw[e1]at hq;rw[wad (by simp)];exact ih _ hq
 have tail:Q (qsZ (p.line.find? fun i=>p.free i m)) M->sem (P e) (n+2) 18 [.ref a] M (kS fun xs ok un M1=>qem (rgN 4) (tr ((P e).Gn (n+2)) (.se (.if_ (.me 51 (.v 0) (.ec (.v 4) (.ec (.v 3) .e0))) (.se (.re (.v 4)) .en) .en) .en)).S
  { nx:=(tr ((P e).Gn (n+2)) (.se (.re .n) .en)).S (rd Q),rt:=Q,bk:=(rd Q).bk,ct:=(rd Q).ct } ok un xs [some (.ref a),some (.str pick),some (.int d),some (.int m),none] M1):=fun hq=>qiA ok h (rest _ _ hq)
 rw[us (i:=64) (d:=qaY) rfl];simp only[qaY];walk_at "evs";unfold PoolS.pick at hq;cases e1:(pick== "keep")with
 |false=>
  rw[e1]at hq;simp only[Bool.false_and,waD,↓reduceIte]at hq ⊢;exact tail hq
 |true=>
  rw[e1]at hq;simp only[Bool.true_and,↓reduceIte]at hq ⊢;rw[qhq h,qf2];cases e2:p.free d m with
  |true=>rw[e2]at hq;rw[wag rfl];exact hq
  |false=>
   rw[e2]at hq;simp only[waD,↓reduceIte]at hq ⊢;rw[ho,qbx];exact tail hq
theorem qnb{a:Addr}{o:RO}(h:M a=some o):put M a o=M:=by
 funext b;unfold put;by_cases z:b=a
 · rw[wag z,z,h]
 · rw[wad z]
end
section
structure Inn where
 kind:Str
 house:Int
 door:Int
 place:Int
 far:Int
def Inn.k(i:Inn):TK:=[some (.inr i.kind),some (.inl i.house),some (.inl i.door),some (.inl i.place),some (.inl i.far)]
def Inn.r(i:Inn):RV:=.tup [.str i.kind,.int i.house,.int i.door,.int i.place,.int i.far]
def qrs(i:Inn):TK:=[some (.inr i.kind),some (.inl i.place),some (.inl i.far)]
noncomputable def qhj (f:Fm)(i:Inn):TK:=if f.lend= "door" then [some (.inr i.kind),some (.inl i.house),some (.inl i.door),none,none]else if f.lend= "place" then [some (.inr i.kind),some (.inl i.house),some (.inl i.door),some (.inl i.place),none]else i.k
theorem qk5:∀ (k:TK),qk6 (k.map oR)=some k
 | []=>rfl
 |x::r=>by
  have e1:qta (oR x)=some x:=by cases x with|none=>rfl|some k=>cases k<;>rfl
  show(match qta (oR x),qk6 (r.map oR)with|some k,some ks=>some (k::ks)|_,_=>none)=_
  rw[e1,qk5 r]
theorem qbG(k:TK):qgl (qmM k)=some k:=qk5 k
variable {e:Env}{n:Nat}{M:RM}{Q:RVK}{ad:Nat->Addr}{f:Fm}{i j:Inn}{now ov u m:Int}{st sr:RV}{ds:LR}
theorem qeM:sem (P e) (n+1) 27 [f.r,i.r] M Q=Q (qmM (qhj f i)) M:=by
 unfold Fm.r Inn.r qhj;rw[qnW]
 by_cases h1:f.lend= "door"
 · rw[wag h1,wag h1];rfl
 · rw[wad h1,wad h1]
   by_cases h2:f.lend= "place"
   · rw[wag h2,wag h2];rfl
   · rw[wad h2,wad h2];rfl
abbrev cG(e:Env)(ad:Nat->Addr)(f:Fm):RO:=qan e f.r (.ref (ad 1)) (.ref (ad 10)) (.ref (ad 9)) .non
abbrev cA(e:Env)(ad:Nat->Addr)(f:Fm)(now:Int):RO:=qaf e f.r (.ref (ad 2)) (.int now) (.ref (ad 5)) (.ref (ad 6)) (.ref (ad 7)) (.ref (ad 8))
abbrev cP(e:Env)(ad:Nat->Addr)(f:Fm)(mk:Int):RO:=qay e (.int f.low) (.int f.high) (.int mk) (.ref (ad 3)) (.ref (ad 4))
structure Rl where
 p:RV
 house:Int
 door:Int
def Rl.r(R:Rl):RV:=.tup [.str "line",.int 9999,R.p,.int R.house,.int R.door]
abbrev cR(e:Env)(ad:Nat->Addr):RO:=qa1 e (.int 1) (.ref (ad 11))
noncomputable abbrev c0 (e:Env) (ad:Nat->Addr) (f:Fm) (R:Rl) (now mk:Int) (U:List (Int×Int)) (ds:LR):List RO:=[cG e ad f,cA e ad f now,cP e ad f mk,.dk [],.dk (eU U),.dt [],.dk [],.dk [],.dt [],.lst ds,cR e ad,.dk [(.inl 0,R.r)]]
noncomputable abbrev c1 (e:Env) (ad:Nat->Addr) (f:Fm) (R:Rl) (now mk:Int) (U:List (Int×Int)) (T H:LKR) (N:List (TK×RV)) (i:Inn) (m:Int) (st:Str) (ov:Int) (ds:LR):List RO:=
 [cG e ad f,cA e ad f now,cP e ad f mk,.dk T,.dk (eU U),.dt [(i.k,.ref (ad 12))],.dk [(.inl m,.ref (ad 13))],.dk H,.dt N,.lst ds,cR e ad,.dk [(.inl 0,R.r)],qbc e i.r (.int m) (.str st) (.int ov),.dt [(qrs i,.ref (ad 12))]]
theorem lk_1{κ β:Type}[DecidableEq κ]{k:κ}{v:β}:lk [(k,v)] k=some v:=by rw[qaz,wag rfl]
theorem lk_0{κ β:Type}[DecidableEq κ]{k:κ}:lk ([]:List (κ×β)) k=none:=rfl
theorem dr_1{κ β:Type}[DecidableEq κ]{k:κ}{v:β}:dr [(k,v)] k= []:=by simp[dr]
theorem pt_0{κ β:Type}[DecidableEq κ]{k:κ}{v:β}:pt [] k v= [(k,v)]:=rfl
end
section
variable {e:Env}{n:Nat}{M:RM}{Q:RVK}{ad:Nat->Addr}{f:Fm}{i j:Inn}{R:Rl}{now mk ov u m:Int}{U:List (Int×Int)}{T H:LKR}{N:List (TK×RV)}{ds:LR}{st:Str}
theorem qAF:qgl i.r=some i.k:=rfl
theorem i_0:rIx i.r (.int 0) M Q=Q (.str i.kind) M:=xi_tup.trans (by rw[qxV];rfl)
theorem i_1:rIx i.r (.int 1) M Q=Q (.int i.house) M:=xi_tup.trans (by rw[qvb];rfl)
theorem i_2:rIx i.r (.int 2) M Q=Q (.int i.door) M:=xi_tup.trans (by rw[qxU];rfl)
theorem f_0:rIx f.r (.int 0) M Q=Q (.int f.low) M:=xi_tup.trans (by rw[qxV];rfl)
theorem f_4:rIx f.r (.int 4) M Q=Q (.str f.pick) M:=xi_tup.trans (by rw[qxS];rfl)
theorem f_5:rIx f.r (.int 5) M Q=Q (.int f.most) M:=xi_tup.trans (by rw[qAS];rfl)
theorem f_6:rIx f.r (.int 6) M Q=Q (.bl f.renew) M:=xi_tup.trans (by rw[qAR];rfl)
theorem f_7:rIx f.r (.int 7) M Q=Q f.times M:=xi_tup.trans (by rw[qAQ];rfl)
theorem qAJ:rIx f.times (.int 3) M Q=Q (.int f.t3) M:=xi_tup.trans (by rw[qxT];rfl)
abbrev L0(e:Env)(ad:Nat->Addr)(f:Fm)(R:Rl)(now mk:Int)(U:List (Int×Int))(ds:LR)(M:RM):RM:=laid ad (c0 e ad f R now mk U ds) M
theorem qeL(H:Ij ad 12):sem (P e) (n+1) 32 [.ref (ad 1),i.r] (L0 e ad f R now mk U ds M) Q=Q .non (L0 e ad f R now mk U ds M):=by
 rw[us (i:=32) (d:=qaq) rfl];simp only[qaq];walk_at "evl";rw[qn2 qAF];rfl
theorem qho(H:Ij ad 12):sem (P e) (n+2) 33 [.ref (ad 1),i.r] (L0 e ad f R now mk U ds M) Q=Q .non (L0 e ad f R now mk U ds M):=by
 rw[us (i:=33) (d:=qav) rfl];simp only[qav];walk_at "evl";rw[qeM];walk_at "evl";rw[qn2 (qbG _)];rfl
theorem qq0(H:Ij ad 12)(hq:Q (.ls []) (L0 e ad f R now mk U ds M)):sem (P e) (n+1) 35 [.ref (ad 1),.int m] (L0 e ad f R now mk U ds M) Q:=by
 rw[us (i:=35) (d:=qa6) rfl];simp only[qa6];walk_at "evl";unfold qqE;walk_at "evl";refine⟨by decide,by walk_at "evl",?_⟩
 walk_at "evl"
def pS(f:Fm)(mk:Int)(U:List (Int×Int)):PoolS:=⟨f.low,f.high,mk,[],U⟩
theorem qwD(H:Ij ad 12):qjn e (L0 e ad f R now mk U ds M) (ad 2) (ad 3) (ad 4) (pS f mk U):=⟨lg H (Nat.le_of_ble_eq_true rfl),lg H (Nat.le_of_ble_eq_true rfl),lg H (Nat.le_of_ble_eq_true rfl)⟩
theorem qga(H:Ij ad 12)(ok:(pS f mk U).Ok)(hq:Q (qsZ ((pS f mk U).pick (f.pick== "keep") m now)) (L0 e ad f R now mk U ds M)):sem (P e) (n+4) 41 [.ref (ad 0),.int m] (L0 e ad f R now mk U ds M) Q:=by
 rw[us (i:=41) (d:=qax) rfl];simp only[qax];walk_at "evl";rw[f_4];exact qm4 ok (qwD H) hq
def nm(f:Fm)(m:Int):Int:=if m=f.high then f.low else m+1
noncomputable abbrev L5 (e:Env) (ad:Nat->Addr) (f:Fm) (R:Rl) (now mk:Int) (U:List (Int×Int)) (T H:LKR) (N:List (TK×RV)) (ds:LR) (M:RM):RM:=laid ad [cG e ad f,cA e ad f now,cP e ad f mk,.dk T,.dk (eU U),.dt [],.dk [],.dk H,.dt N,.lst ds,cR e ad,.dk [(.inl 0,R.r)]] M
theorem qso(H:Ij ad 12)(hq:Q .non (L5 e ad f R now (nm f m) (dr U m) [(.inl m,.bl true)] [(.inl m,qmM (qhj f i))] [(qhj f i,.int m)] ds M)):
 sem (P e) (n+2) 53 [.ref (ad 1),.int m,i.r] (L0 e ad f R now mk U ds M) Q:=by
 have e2:dr (eU U) (Sum.inl m)=eU (dr U m):=qt2 qeD;rw[us (i:=53) (d:=qa4) rfl];simp only[qa4];walk_at "evl";rw[qeM];walk_at "evl";rw[us (i:=30) (d:=qbn) rfl];simp only[qbn];walk_at "evl";rw[qjE (qbG _),qjE (qbG _),qjE (qbG _),qjE (qbG _),pt_0,qqq];unfold nm at hq;have fin:∀ U',U'=dr U m->∀ k,k=(if m=f.high then f.low else m+1)->Q .non (lay ad 0 [cG e ad f,cA e ad f now,qay e (.int f.low) (.int f.high) (.int k) (.ref (ad 3)) (.ref (ad 4)),.dk [(.inl m,.bl true)],.dk (eU U'),.dt [],.dk [],.dk [(.inl m,qmM (qhj f i))],.dt [(qhj f i,.int m)],.lst ds,cR e ad,.dk [(.inl 0,R.r)]] M):=fun U' h1 k h2=>by subst h1;subst h2;exact hq
 cases e3:lk U m with
 |none=>
  rw[wad (by simp)]
  by_cases z:m=f.high
  · have q:=fin _ (ql6 e3).symm _ (wag z).symm
    rw[wag (by simpa using z)];clear z fin hq;walk_at "evl"
  · have q:=fin _ (ql6 e3).symm _ (wad z).symm
    rw[wad (by simpa using z)];clear z fin hq;walk_at "evl"
 |some v=>
  rw[wag (by simp)]
  refine⟨rfl,?_⟩
  by_cases z:m=f.high
  · have q:=fin _ rfl _ (wag z).symm
    rw[wag (by simpa using z)];clear z fin hq;walk_at "evl"
  · have q:=fin _ rfl _ (wad z).symm
    rw[wad (by simpa using z)];clear z fin hq;walk_at "evl"
theorem qxK{ad':Nat->Addr}(h:∀ j,j<12->ad j=ad' j):cG e ad f=cG e ad' f/\cA e ad f now=cA e ad' f now/\cP e ad f mk=cP e ad' f mk/\cR e ad=cR e ad':=by
 unfold cG cA cP cR;rw[h 1 (by decide),h 2 (by decide),h 3 (by decide),h 4 (by decide),h 5 (by decide),h 6 (by decide),h 7 (by decide),h 8 (by decide),h 9 (by decide),h 10 (by decide),h 11 (by decide)]
 exact⟨rfl,rfl,rfl,rfl⟩
noncomputable abbrev L1 (e:Env) (ad:Nat->Addr) (f:Fm) (R:Rl) (now mk:Int) (U:List (Int×Int)) (T H:LKR) (N:List (TK×RV)) (i:Inn) (m:Int) (st:Str) (ov:Int) (ds:LR) (M:RM):RM:=laid ad (c1 e ad f R now mk U T H N i m st ov ds) M
def tmv(f:Fm)(s:Str):Int:=if s= "asked"∨s= "called" then f.t1 else f.t2
theorem qtZ(tb:Tb e)(z:Ws st):sem (P e) (n+1) 28 [f.r,.str st] M Q=Q (.int (tmv f st)) M:=by
 unfold Fm.r Fm.times tmv;rw[qt0 tb z];split<;>rfl
theorem qkP(tb:Tb e)(z:Ws st)(Hj:Ij ad 12)(hq:∀ ad',Ij ad' 14->(∀ j,j<12->ad j=ad' j)->M (ad' 12)=none/\M (ad' 13)=none->Q .non (L1 e ad' f R now mk U T H N i m st (now+tmv f st) ds M)):
 sem (P e) (n+3) 65 [.ref (ad 1),i.r,.int m,.str st] (L5 e ad f R now mk U T H N ds M) Q:=by
 rw[us (i:=65) (d:=qaX) rfl];simp only[qaX];rw[show i.r= .tup [.str i.kind,.int i.house,.int i.door,.int i.place,.int i.far]from rfl];walk_at "evl"
 rw[qtZ tb z,qjH];intro x hx;obtain⟨a1,h1,rfl,H1,e1⟩:=nu1 (k:=12) Hj rfl hx;rw[e1];rw[us (i:=69) (d:=qbm) rfl];simp only[qbm];walk_at "evl";rw[qjE (show _=some i.k from rfl),pt_0]
 walk_at "evl";intro y hy;obtain⟨a2,h2,rfl,H2,e2⟩:=nu1 (k:=13) H1 rfl hy;rw[e2];have h3:∀ j,j<12->ad j=a2 j:=fun j hj=>(h1 j hj).trans (h2 j (by omega))
 have h4:M (a2 12)=none/\M (a2 13)=none:=⟨by rw[<-h2 12 (by decide)];exact qd1 hx,qd1 hy⟩
 clear h1 hx hy e1 e2 H1 Hj;walk_at "evl";rw[qjE (show _=some (qrs i)from rfl)]
 walk_at "evl";obtain⟨q1,q2,q3,q4⟩:=qxK (e:=e) (f:=f) (now:=now) (mk:=mk) h3;rw[q1,q2,q3,q4];exact hq a2 H2 h3 h4
end
section
variable {e:Env}{n:Nat}{M:RM}{Q:RVK}{ad:Nat->Addr}{f:Fm}{i j:Inn}{R:Rl}{now mk ov u m:Int}{U:List (Int×Int)}{T H:LKR}{N:List (TK×RV)}{ds:LR}{st s1 wd:Str}
abbrev led(m:Int):RV:=.tup [.str "led",.int m]
abbrev kept(x:Str):RV:=.tup [.str "kept",.str x]
abbrev TP(m:Int):LKR:=[(.inl m,.bl true)]
abbrev HP(f:Fm)(i:Inn)(m:Int):LKR:=[(.inl m,qmM (qhj f i))]
abbrev NP(f:Fm)(i:Inn)(m:Int):List (TK×RV):=[(qhj f i,.int m)]
theorem quv(tb:Tb e)(z:Ws st)(Hj:Ij ad 12)(ok:(pS f mk U).Ok)(f3:1<=f.most)(hp:(pS f mk U).pick (f.pick== "keep") i.door now=some m)
 (hq:∀ ad',Ij ad' 14->(∀ j,j<12->ad j=ad' j)->M (ad' 12)=none/\M (ad' 13)=none->Q (led m) (L1 e ad' f R now (nm f m) (dr U m) (TP m) (HP f i m) (NP f i m) i m st (now+tmv f st) ds M)):
 sem (P e) (n+5) 59 [.ref (ad 0),i.r,.str st] (L0 e ad f R now mk U ds M) Q:=by
 rw[us (i:=59) (d:=qaF) rfl];simp only[qaF];walk_at "evl";rw[qho Hj];walk_at "evl";rw[i_1];refine qq0 Hj ?_;walk_at "evl";rw[f_5];walk_at "evl";rw[wad (by simp;omega),i_2]
 refine qga Hj ok ?_;rw[hp,show qsZ (some m)= .int m from rfl];walk_at "evl"
 refine qso Hj ?_;walk_at "evl";exact qkP tb z Hj fun ad' H' h h4=>hq ad' H' h h4
theorem qAA(hk:i.kind= "line")(Hj:Ij ad 12)(h1:nxL none "house" wd=none->Q (kept "astray") (L0 e ad f R now mk U ds M))(h2:∀ s,nxL none "house" wd=some s->sem (P e) (n+5) 59 [.ref (ad 0),i.r,.str s] (L0 e ad f R now mk U ds M) Q):
 sem (P e) (n+6) 58 [.ref (ad 0),i.r,.str wd] (L0 e ad f R now mk U ds M) Q:=by
 rw[us (i:=58) (d:=qar) rfl];simp only[qar];walk_at "evl";rw[qeL Hj];walk_at "evl";rw[i_0,hk,qqZ];cases hs:nxL none "house" wd with
 |none=>have:=h1 hs;clear h1 h2;rw[show oS none= .non from rfl];walk_at "evl"
 |some s=>have:=h2 s hs;clear h1 h2;rw[show oS (some s)= .str s from rfl];walk_at "evl"
theorem qeK(Hj:Ij ad 14):sem (P e) (n+1) 32 [.ref (ad 1),i.r] (L1 e ad f R now mk U T H N i m st ov ds M) Q=Q (.ref (ad 12)) (L1 e ad f R now mk U T H N i m st ov ds M):=by
 rw[us (i:=32) (d:=qaq) rfl];simp only[qaq];walk_at "evl";rw[qn2 qAF,lk_1];rfl
theorem qsp(tb:Tb e)(z:Ws s1)(Hj:Ij ad 14)(hq:Q .non (L1 e ad f R now mk U T H N i m s1 (now+tmv f s1) ds M)):
 sem (P e) (n+4) 54 [.ref (ad 1),.ref (ad 12),.str s1] (L1 e ad f R now mk U T H N i m st ov ds M) Q:=by
 have hs:(s1==("shut":Str))=false:=by rcases z with rfl|rfl|rfl|rfl|rfl<;>decide+kernel
 rw[us (i:=54) (d:=qaH) rfl];simp only[qaH];walk_at "evl";rw[qtZ tb z,qjH];walk_at "evl"
theorem qms{a:Addr}{kvs:List (TK×RV)}(h:M a=some (.dt kvs)):bfR "len" [.ref a] M Q=Q (.int kvs.length) M:=by
 show(match M a with|some (.lst xs)=>Q (.int xs.length) M|some (.dk kvs)=>Q (.int kvs.length) M|some (.dt kvs)=>Q (.int kvs.length) M|_=>False)=_
 rw[h]
noncomputable abbrev LE (e:Env) (ad:Nat->Addr) (f:Fm) (R:Rl) (now mk:Int) (U:List (Int×Int)) (i:Inn) (m:Int) (st:Str) (ov:Int) (ds:LR) (M:RM):RM:=laid ad (c0 e ad f R now mk U ds++ [qbc e i.r (.int m) (.str st) (.int ov),.dt []]) M
theorem qxs{mo:Int}(Hj:Ij ad 14)(hu:U.length<1000)(hq:Q .non (LE e ad f R now mk (pt U m (mo+f.t3)) i m st ov ds M)):sem (P e) (n+3) 56 [.ref (ad 1),.ref (ad 12),.int mo] (L1 e ad f R now mk U (TP m) (HP f i m) (NP f i m) i m st ov ds M) Q:=by
 have e2:pt (eU U) (Sum.inl m) (RV.int (mo+f.t3))=eU (pt U m (mo+f.t3)):=qoB qeD;rw[us (i:=56) (d:=qaT) rfl];simp only[qaT];walk_at "evl";rw[show i.r= .tup [.str i.kind,.int i.house,.int i.door,.int i.place,.int i.far]from rfl];walk_at "evl"
 rw[qhs (show _=some i.k from rfl)];walk_at "evl"
 rw[qhs (show _=some (qrs i)from rfl)];walk_at "evl"
 rw[qms (kvs:=[]) (by walk_at "evl")];walk_at "evl"
 rw[us (i:=55) (d:=qaB) rfl];simp only[qaB];walk_at "evl";rw[qhs (qbG _)];walk_at "evl";rw[f_7,qAJ,qjH];rw[us (i:=52) (d:=qbp) rfl];simp only[qbp];walk_at "evl";exact⟨by unfold eU;rw[ql3];exact Nat.lt_trans hu (by decide),hq⟩
theorem qxr{mo:Int}(Hj:Ij ad 14)(hq:Q .non (LE e ad f R now mk U i m st ov ds M)):sem (P e) (n+3) 56 [.ref (ad 1),.ref (ad 12),.int mo] (L1 e ad f R now mk U [] [] [] i m st ov ds M) Q:=by
 rw[us (i:=56) (d:=qaT) rfl];simp only[qaT];walk_at "evl";rw[show i.r= .tup [.str i.kind,.int i.house,.int i.door,.int i.place,.int i.far]from rfl];walk_at "evl"
 rw[qhs (show _=some i.k from rfl)];walk_at "evl"
 rw[qhs (show _=some (qrs i)from rfl)];walk_at "evl"
 rw[qms (kvs:=[]) (by walk_at "evl")];walk_at "evl"
 exact hq
end
section
variable {e:Env}{n:Nat}{M:RM}{Q:RVK}{ad:Nat->Addr}{f:Fm}{i j:Inn}{R:Rl}{now mk ov u m:Int}{U:List (Int×Int)}{b:Bool}{ds:LR}{st s1 wd:Str}
def tP(b:Bool)(m:Int):LKR:=if b=true then TP m else []
def hP(b:Bool)(f:Fm)(i:Inn)(m:Int):LKR:=if b=true then HP f i m else []
def nP(b:Bool)(f:Fm)(i:Inn)(m:Int):List (TK×RV):=if b=true then NP f i m else []
noncomputable abbrev LX (e:Env) (ad:Nat->Addr) (f:Fm) (R:Rl) (now mk:Int) (U:List (Int×Int)) (b:Bool) (i:Inn) (m:Int) (st:Str) (ov:Int) (ds:LR) (M:RM):RM:=L1 e ad f R now mk U (tP b m) (hP b f i m) (nP b f i m) i m st ov ds M
def uE(b:Bool)(U:List (Int×Int))(m u:Int):List (Int×Int):=if b=true then pt U m u else U
theorem qwq{mo:Int}(Hj:Ij ad 14)(hu:U.length<1000)(hq:Q .non (LE e ad f R now mk (uE b U m (mo+f.t3)) i m st ov ds M)):sem (P e) (n+3) 56 [.ref (ad 1),.ref (ad 12),.int mo] (LX e ad f R now mk U b i m st ov ds M) Q:=by
 cases b
 · exact qxr Hj hq
 · exact qxs Hj hu hq
def ToL(e:Env)(ad:Nat->Addr)(f:Fm)(R:Rl)(now mk:Int)(U:List (Int×Int))(b:Bool)(i:Inn)(m:Int)(st:Str)(ov:Int)(ds:LR)(M:RM)(s1:Str)(M':RM):Prop:=
 (Ws s1/\M'=LX e ad f R now mk U b i m s1 (now+tmv f s1) ds M)∨s1= "shut"/\M'=LE e ad f R now mk (uE b U m (now+f.t3)) i m st ov ds M
theorem qh4(tb:Tb e)(Hj:Ij ad 14)(hu:U.length<1000)(hs:Ws s1∨s1= "shut")(hq:∀ M',ToL e ad f R now mk U b i m st ov ds M s1 M'->Q .non M'):
 sem (P e) (n+4) 54 [.ref (ad 1),.ref (ad 12),.str s1] (LX e ad f R now mk U b i m st ov ds M) Q:=by
 rcases hs with hs|rfl
 · exact qsp tb hs Hj (hq _ (.inl ⟨hs,rfl⟩))
 · rw[us (i:=54) (d:=qaH) rfl];simp only[qaH];walk_at "evl"
   exact qwq Hj hu (hq _ (.inr ⟨rfl,rfl⟩))
theorem ToL.at_{M':RM}(Hj:Ij ad 14)(h:ToL e ad f R now mk U b i m st ov ds M s1 M'):∃ a c,M' (ad 12)=some (qbc e i.r (.int m) a c):=by
 rcases h with⟨_,rfl⟩|⟨_,rfl⟩
 · exact⟨_,_,lg Hj (Nat.le_of_ble_eq_true rfl)⟩
 · exact⟨_,_,lg Hj (Nat.le_of_ble_eq_true rfl)⟩
theorem qAz(tb:Tb e)(hk:i.kind= "line")(Hj:Ij ad 14)(hu:U.length<1000)(h1:nxL (some st) "house" wd=none->Q (kept "astray") (LX e ad f R now mk U b i m st ov ds M))(h2:∀ s1,nxL (some st) "house" wd=some s1->(Ws s1∨s1= "shut")/\∀ M',ToL e ad f R now mk U b i m st ov ds M s1 M'->Q (led m) M'):
 sem (P e) (n+6) 58 [.ref (ad 0),i.r,.str wd] (LX e ad f R now mk U b i m st ov ds M) Q:=by
 rw[us (i:=58) (d:=qar) rfl];simp only[qar];walk_at "evl";rw[qeK Hj];walk_at "evl";rw[i_0,hk];walk_at "evl";rw[qt1];cases hs:nxL (some st) "house" wd with
 |none=>have:=h1 hs;clear h1 h2;rw[show oS none= .non from rfl];walk_at "evl"
 |some s1=>
  obtain⟨h3,h4⟩:=h2 s1 hs;clear h1 h2;rw[show oS (some s1)= .str s1 from rfl];walk_at "evl"
  refine qh4 tb Hj hu h3 fun M' h=>?_
  obtain⟨a,c,h5⟩:=h.at_ Hj;rw[h5];walk_at "ev";exact h4 M' h
theorem qiz(hk:i.kind= "line")(Hj:Ij ad 14):sem (P e) (n+1) 70 [.ref (ad 1),.str "line",.int m,.int i.place,.int i.far] (LX e ad f R now mk U b i m st ov ds M) Q=Q (.ref (ad 12)) (LX e ad f R now mk U b i m st ov ds M):=by
 rw[us (i:=70) (d:=qae) rfl];simp only[qae];walk_at "evl";rw[qn2 (show _=some (qrs i) by unfold qrs;rw[hk];rfl),lk_1];rfl
theorem qu9(tb:Tb e)(hk:i.kind= "line")(Hj:Ij ad 14)(hu:U.length<1000)(h1:nxL (some st) "far" wd=none->Q (kept "astray") (LX e ad f R now mk U b i m st ov ds M))(h2:∀ s1,nxL (some st) "far" wd=some s1->(Ws s1∨s1= "shut")/\∀ M',(if f.renew=true∨s1≠st then ToL e ad f R now mk U b i m st ov ds M s1 M' else M'=LX e ad f R now mk U b i m st ov ds M)->Q (.tup [.str "in",.int i.house,.int i.door]) M'):
 sem (P e) (n+6) 74 [.ref (ad 0),.str "line",.int i.place,.int i.far,.int m,.str wd] (LX e ad f R now mk U b i m st ov ds M) Q:=by
 rw[us (i:=74) (d:=qak) rfl];simp only[qak];walk_at "evl";rw[qiz hk Hj];walk_at "evl";rw[us (i:=60) (d:=qaP) rfl];simp only[qaP];walk_at "evl";rw[show i.r= .tup [.str i.kind,.int i.house,.int i.door,.int i.place,.int i.far]from rfl,hk];walk_at "evl"
 rw[qt1];cases hs:nxL (some st) "far" wd with
 |none=>have:=h1 hs;clear h1 h2;rw[show oS none= .non from rfl];walk_at "evl"
 |some s1=>
  obtain⟨h3,h4⟩:=h2 s1 hs;clear h1 h2;rw[show oS (some s1)= .str s1 from rfl];walk_at "evl"
  rw[f_6];walk_at "evl"
  by_cases h:f.renew=true
  · rw[wag h]
    exact qh4 tb Hj hu h3 fun M' h2=>h4 M' (by rw[wag (.inl h)];exact h2)
  · rw[wad h]
    by_cases h5:s1=st
    · rw[wad (by simpa using h5)]
      exact h4 _ (by rw[wad (fun z=>z.elim h fun z=>z h5)])
    · rw[wag (by simpa using h5)]
      exact qh4 tb Hj hu h3 fun M' h2=>h4 M' (by rw[wag (.inr h5)];exact h2)
end
section
variable {e:Env}{n:Nat}{M:RM}{Q:RVK}{ad:Nat->Addr}{f:Fm}{i j:Inn}{R:Rl}{now mk ov u m:Int}{U:List (Int×Int)}{b:Bool}{ds:LR}{st s1 wd:Str}
structure Rl.For(R:Rl)(i:Inn):Prop where
 p:R.p= .non∨R.p= .int i.place
 house:R.house=i.house
 door:R.door=i.door
theorem qlV(h:f.high<9999){L:RM}(hp:L (ad 2)=some (cP e ad f mk)):sem (P e) (n+1) 29 [.ref (ad 2),.int 9999] L Q=Q (.bl false) L:=by
 rw[us (i:=29) (d:=qaM) rfl];simp only[qaM];walk_at "evs"
 by_cases z:f.low<=9999
 · rw[wag (by simpa using z),waB (by omega)]
 · rw[wad (by simpa using z)]
theorem qt3{D:RD}{p:RV}(hp:p= .non∨p= .int i.place){h d:RV}{z9:Option RV}(hq:D.rt (.tup [h,d]) M):(tr ((P e).Gn n) qmF).S D [some (.ref (ad 10)),some (.str "line"),some (.int 9999),some (.int i.place),some (.str "line"),some (.int 9999),some p,some h,some d,z9] M:=by
 unfold qmF;rw[qcn,qaN];dsimp only[List.set_cons_zero,List.set_cons_succ];rcases hp with rfl|rfl
 · walk_at "ev"
   unfold qmE;walk_at "ev";exact hq
 · walk_at "ev"
   unfold qmE;walk_at "ev";exact hq
theorem qo6(rf:R.For i){L:RM}(h1:L (ad 10)=some (cR e ad))(h2:L (ad 11)=some (.dk [(.inl 0,R.r)]))(hq:Q (.tup [.int i.house,.int i.door]) L):sem (P e) (n+1) 63 [.ref (ad 10),.str "line",.int 9999,.int i.place] L Q:=by
 obtain⟨r1,r2,r3⟩:=rf;rw[us (i:=63) (d:=qaC) rfl];simp only[qaC];unfold qBd;walk_at "evs";unfold qrt;walk_at "evs";refine⟨qad,rfl,?_⟩;refine qt3 (i:=i) r1 ⟨qad,?_⟩;dsimp only;rw[qaS,qnb h2,r2,r3];exact hq
abbrev inn(i:Inn):RV:=.tup [.str "in",.int i.house,.int i.door]
theorem quk(tb:Tb e)(hk:i.kind= "line")(Hj:Ij ad 12)(hf:f.high<9999)(rf:R.For i)(h1:nxL none "far" wd=none->Q (kept "astray") (L0 e ad f R now mk U ds M))
 (h2:∀ s,nxL none "far" wd=some s->Ws s/\∀ ad',Ij ad' 14->(∀ j,j<12->ad j=ad' j)->M (ad' 12)=none/\M (ad' 13)=none->Q (inn i) (LX e ad' f R now mk U false i 9999 s (now+tmv f s) ds M)):
 sem (P e) (n+6) 74 [.ref (ad 0),.str "line",.int i.place,.int i.far,.int 9999,.str wd] (L0 e ad f R now mk U ds M) Q:=by
 rw[us (i:=74) (d:=qak) rfl];simp only[qak];walk_at "evl";rw[us (i:=70) (d:=qae) rfl];simp only[qae];walk_at "evl";rw[qlV hf (lg Hj (Nat.le_of_ble_eq_true rfl))];walk_at "evl";rw[us (i:=75) (d:=qal) rfl];simp only[qal];walk_at "evl";refine qo6 rf (lg Hj (Nat.le_of_ble_eq_true rfl)) (lg Hj (Nat.le_of_ble_eq_true rfl)) ?_;walk_at "evl";rw[qqZ];cases hs:nxL none "far" wd with
 |none=>have:=h1 hs;clear h1 h2;rw[show oS none= .non from rfl];walk_at "evl"
 |some s=>
  obtain⟨h3,h4⟩:=h2 s hs;clear h1 h2;rw[show oS (some s)= .str s from rfl];walk_at "evl"
  rw[show RV.tup [.str "line",.int i.house,.int i.door,.int i.place,.int i.far]=i.r by unfold Inn.r;rw[hk],qeL Hj]
  clear hs;have h5:∀ ad',Ij ad' 14->(∀ j,j<12->ad j=ad' j)->M (ad' 12)=none/\M (ad' 13)=none->Q (inn i) (L1 e ad' f R now mk U [] [] [] i 9999 s (now+tmv f s) ds M):=h4;clear h4;walk_at "evl";exact qkP (T:=[]) (H:=[]) (N:=[]) tb h3 Hj h5
theorem qxI(tb:Tb e)(hk:i.kind= "line")(Hj:Ij ad 14)(hf:f.high<9999)(hm:m≠9999)(rf:R.For i)(h1:nxL none "far" wd=none->Q (kept "astray") (LX e ad f R now mk U b i m st ov ds M))
 (h2:∀ s,nxL none "far" wd=some s->Q (kept "clash") (LX e ad f R now mk U b i m st ov ds M)):
 sem (P e) (n+6) 74 [.ref (ad 0),.str "line",.int i.place,.int i.far,.int 9999,.str wd] (LX e ad f R now mk U b i m st ov ds M) Q:=by
 have k1:∀ {v:RV},lk [((Sum.inl m:Key),v)] (.inl 9999)=none:=fun {v}=>by rw[qaz,wad fun z=>hm (Sum.inl.inj z)];rfl
 rw[us (i:=74) (d:=qak) rfl];simp only[qak];walk_at "evl";rw[us (i:=70) (d:=qae) rfl];simp only[qae];walk_at "evl";rw[qlV hf (lg Hj (Nat.le_of_ble_eq_true rfl))];walk_at "evl";rw[us (i:=75) (d:=qal) rfl];simp only[qal];walk_at "evl";refine qo6 rf (lg Hj (Nat.le_of_ble_eq_true rfl)) (lg Hj (Nat.le_of_ble_eq_true rfl)) ?_;walk_at "evl";rw[qqZ];cases hs:nxL none "far" wd with
 |none=>have:=h1 hs;clear h1 h2;rw[show oS none= .non from rfl];walk_at "evl"
 |some s=>
  have h4:=h2 s hs;clear h1 h2;rw[show oS (some s)= .str s from rfl];walk_at "evl"
  rw[show RV.tup [.str "line",.int i.house,.int i.door,.int i.place,.int i.far]=i.r by unfold Inn.r;rw[hk],qeK Hj]
  clear hs;walk_at "evl"
theorem qxJ(Hj:Ij ad 12)(h1:f.low<=m)(h2:m<=f.high)(hq:Q (kept "nobody") (L0 e ad f R now mk U ds M)):
 sem (P e) (n+6) 74 [.ref (ad 0),.str "line",.int i.place,.int i.far,.int m,.str wd] (L0 e ad f R now mk U ds M) Q:=by
 rw[us (i:=74) (d:=qak) rfl];simp only[qak];walk_at "evl";rw[us (i:=70) (d:=qae) rfl];simp only[qae];walk_at "evl";rw[us (i:=29) (d:=qaM) rfl];simp only[qaM];walk_at "evl";rw[us (i:=66) (d:=qaZ) rfl];simp only[qaZ];walk_at "evl";rw[us (i:=34) (d:=qaw) rfl];simp only[qaw];walk_at "evl";show True;trivial
end
section
variable {e:Env}{n:Nat}{M:RM}{Q:RVK}{ad:Nat->Addr}{f:Fm}{i j:Inn}{R:Rl}{now mk ov u m k:Int}{U:List (Int×Int)}{b:Bool}{ds:LR}{st s1 wd:Str}
def tbO(e:Env):RO:=.tb e.lP (P e).S.lp (P e).S.lq
theorem qlw{fr rp rbi rbn rho rnu:RV}{t:Addr}{nw k:Int}{tv:RTE}{σ:RSt}{N:RM->Prop}(ht:M t=some (qaf e fr rp (.int nw) rbi rbn rho rnu))(hv:∀ K:RVK,K (.int k) M->tv σ M K)(hN:N (put M t (qaf e fr rp (.int (nw+k)) rbi rbn rho rnu))):kAf (e.C 3) "now" tv σ N (.ref t) M:=by
 unfold kAf;simp only[ht];refine⟨rfl,?_⟩;show tv σ M _;refine hv _ ?_;show(match M t with|some (.ins C2 fs2)=>_|_=>False)
 rw[ht];exact⟨rfl,by show(7:Nat)<1000;decide,hN⟩
theorem qDF(Hj:Ij ad 12)(htb:∀ os:List RO,os.length=12->lay ad 0 os M e.lP=some (tbO e))(hq:Q .non (L0 e ad f R (now+k) mk U ds M)):sem (P e) (n+4) 36 [.ref (ad 1),.int k] (L0 e ad f R now mk U ds M) Q:=by
 rw[us (i:=36) (d:=f_Talks_pass_by) rfl];simp only[f_Talks_pass_by];walk_at "evl";rw[qvV];refine qlw (lg Hj (Nat.le_of_ble_eq_true rfl)) (fun K hK=>by walk_at "ev";exact hK) ?_
 walk_at "evl";rw[us (i:=19) (d:=qaj) rfl];simp only[qaj];walk_at "evl";refine⟨qat,?_⟩;rw[ql2];refine⟨[],.inl rfl,fun z hz=>(by cases hz),by decide,htb _ rfl,fun ys hp _=>?_⟩
 rw[List.perm_nil.mp hp];exact⟨qat,hq⟩
theorem qDE(Hj:Ij ad 14)(htb:∀ os:List RO,os.length=14->lay ad 0 os M e.lP=some (tbO e))(h:now+k<ov)(hq:Q .non (LX e ad f R (now+k) mk U b i m st ov ds M)):sem (P e) (n+4) 36 [.ref (ad 1),.int k] (LX e ad f R now mk U b i m st ov ds M) Q:=by
 rw[us (i:=36) (d:=f_Talks_pass_by) rfl];simp only[f_Talks_pass_by];walk_at "evl";rw[qvV];refine qlw (lg Hj (Nat.le_of_ble_eq_true rfl)) (fun K hK=>by walk_at "ev";exact hK) ?_
 walk_at "evl";rw[us (i:=19) (d:=qaj) rfl];simp only[qaj];walk_at "evl";refine⟨qat,?_⟩;show(tr ((P e).Gn (n+3)) (.cm .LtE (.fl 2 "over" (.v 0)) (.fl 3 "now" (.v 1)))).T [some (.ref (ad 12)),some (.ref (ad 1))] _ _;walk_at "evl";rw[qb9,wad (by simp;omega)]
 refine⟨qat,?_⟩;rw[ql2];refine⟨[],.inl rfl,fun z hz=>(by cases hz),by decide,htb _ rfl,fun ys hp _=>?_⟩
 rw[List.perm_nil.mp hp];exact⟨qat,hq⟩
theorem qz9{nm:Str}{ps:LR}{L:RM}{g dn:Addr}{fr rt rs wi:RV}{post:RV->RM->Prop}(hg:L g=some (qan e fr rt rs (.ref dn) wi))(hd:∀ Q:RVK,Q (.bl true) L->sem (P e) (n+8) 14 [.tup (.str nm::ps)] L Q)
 (ha:∀ K:RVK,(∀ v M2,post v M2->K v M2)->sem (P e) (n+8) 57 [.ref g,.str nm,.tup ps] L K)
 (hq:∀ v M2,post v M2->∃ fr2 rt2 rs2 wi2 ds,M2 g=some (qan e fr2 rt2 rs2 (.ref dn) wi2)/\M2 dn=some (.lst ds)/\ds.length<1000/\Q v (put M2 dn (.lst (ds++ [.tup [.tup (.str nm::ps),v]])))):sem (P e) (n+9) 38 [.ref g,.tup (.str nm::ps)] L Q:=by
 rw[us (i:=38) (d:=qbu) rfl];simp only[qbu];walk_at "ev";refine hd _ ?_;walk_at "evs";rw[qxC];refine ha _ fun v M2 hp=>?_
 obtain⟨fr2,rt2,rs2,wi2,ds,g1,g2,g3,g4⟩:=hq v M2 hp;rw[g1];walk_at "ev";rw[g2];walk_at "ev";exact⟨ds,_,rfl,g2,Nat.lt_trans g3 (by decide),g4⟩
end
section
variable {e:Env}{n:Nat}{M M' M0:RM}{Q:RVK}{f:Fm}{i j:Inn}{R:Rl}{now ov u m k:Int}{ds:LR}{st:Str}{g dn:Addr}
inductive Sx where
 |fr
 |he (b:Bool) (m:Int) (st:Str) (ov:Int)
structure GS where
 now:Int
 mr:Int
 U:List (Int×Int)
 x:Sx
def Sx.z:Sx->Nat
 | .fr=>12
 | .he ..=>14
noncomputable def GS.c (e:Env)(ad:Nat->Addr)(f:Fm)(R:Rl)(i:Inn)(ds:LR)(S:GS):List RO:=match S.x with
 | .fr=>c0 e ad f R S.now S.mr S.U ds
 | .he b m st ov=>c1 e ad f R S.now S.mr S.U (tP b m) (hP b f i m) (nP b f i m) i m st ov ds
structure HpA(e:Env)(g dn:Addr)(f:Fm)(R:Rl)(i:Inn)(M0:RM)(S:GS)(ds:LR)(M:RM)(ad:Nat->Addr)(M1:RM):Prop where
 eq:M=laid ad (S.c e ad f R i ds) M1
 ij:Ij ad S.x.z
 g:ad 0=g
 dn:ad 9=dn
 ne:∀ a o,M0 a=some o->M1 a=some o/\∀ j,j<S.x.z->ad j≠a
def Hp(e:Env)(g dn:Addr)(f:Fm)(R:Rl)(i:Inn)(M0:RM)(S:GS)(ds:LR)(M:RM):Prop:=∃ ad M1,HpA e g dn f R i M0 S ds M ad M1
variable {S S':GS}{v r:RV}
theorem cn{ad:Nat->Addr}:(S.c e ad f R i ds).length=S.x.z:=by unfold GS.c;cases S.x<;>rfl
theorem Hp.at_{a:Addr}{o:RO}(h:Hp e g dn f R i M0 S ds M)(ha:M0 a=some o):M a=some o:=by
 obtain⟨ad,M1,h⟩:=h;obtain⟨h1,h2⟩:=h.ne a o ha;rw[h.eq];refine(qjd fun j hj=>?_).trans h1
 rw[waL];exact h2 j (by rwa [cn]at hj)
theorem Hp.gate(h:Hp e g dn f R i M0 S ds M):∃ rt sr,M g=some (qan e f.r rt sr (.ref dn) .non)/\M dn=some (.lst ds):=by
 obtain⟨ad,M1,rfl,H,rfl,rfl,h⟩:=h;unfold GS.c;obtain⟨now,mk,U,x⟩:=S;cases x<;>exact⟨_,_,lg H (Nat.le_of_ble_eq_true rfl),lg H (Nat.le_of_ble_eq_true rfl)⟩
theorem Hp.wrote(h:Hp e g dn f R i M0 S ds M):Hp e g dn f R i M0 S (ds++ [v]) (put M dn (.lst (ds++ [v]))):=by
 obtain⟨ad,M1,rfl,H,rfl,rfl,h⟩:=h;refine⟨ad,M1,?_,H,rfl,rfl,h⟩;unfold GS.c;obtain⟨now,mk,U,x⟩:=S;cases x<;>exact(lp H (Nat.le_of_ble_eq_true rfl)).trans rfl
theorem Hp.other{a:Addr}{o o':RO}(h:Hp e g dn f R i M0 S ds M)(ha:M0 a=some o):Hp e g dn f R i (put M0 a o') S ds (put M a o'):=by
 obtain⟨ad,M1,rfl,H,h1,h2,h⟩:=h;have h3:=(h a o ha).2;refine⟨ad,put M1 a o',qev fun j hj=>by rw[waL];exact h3 j (by rwa [cn]at hj),H,h1,h2,fun b u hb=>?_⟩
 by_cases z:b=a
 · subst z;rw[qad]at hb;cases hb;exact⟨qad,h3⟩
 · rw[qao z]at hb ⊢;exact h b u hb
theorem Hp.new{a:Addr}{o:RO}(h:Hp e g dn f R i M0 S ds M)(ha:M a=none):Hp e g dn f R i (put M0 a o) S ds (put M a o):=by
 obtain⟨ad,M1,rfl,H,h1,h2,h⟩:=h;have h3:∀ j,j<S.x.z->ad j≠a:=fun j hj z=>by
  obtain⟨u,hu⟩:=qoL (M:=M1) (os:=S.c e ad f R i ds) (i:=j) (by rwa [cn]) (by rwa [cn])
  rw[z]at hu;cases hu.symm.trans ha
 refine⟨ad,put M1 a o,qev fun j hj=>by rw[waL];exact h3 j (by rwa [cn]at hj),H,h1,h2,fun b u hb=>?_⟩
 by_cases z:b=a
 · subst z;rw[qad]at hb;cases hb;exact⟨qad,h3⟩
 · rw[qao z]at hb ⊢;exact h b u hb
theorem Hp.do_{nm:Str}{ps:LR}(h:Hp e g dn f R i M0 S ds M)(hl:ds.length<1000)(hd:∀ Q:RVK,Q (.bl true) M->sem (P e) (n+8) 14 [.tup (.str nm::ps)] M Q)
 (ha:∀ K:RVK,(∀ M2,Hp e g dn f R i M0 S' ds M2->K r M2)->sem (P e) (n+8) 57 [.ref g,.str nm,.tup ps] M K)
 (hq:∀ M',Hp e g dn f R i M0 S' (ds++ [.tup [.tup (.str nm::ps),r]]) M'->Q r M'):sem (P e) (n+9) 38 [.ref g,.tup (.str nm::ps)] M Q:=by
 obtain⟨rt,sr,h1,h2⟩:=h.gate;refine qz9 (post:=fun v M2=>v=r/\Hp e g dn f R i M0 S' ds M2) h1 hd (fun K hK=>ha K fun M2 h3=>hK _ _ ⟨rfl,h3⟩) fun v M2 zz=>?_;obtain⟨z,h3⟩:=zz
 subst z;obtain⟨rt2,sr2,h4,h5⟩:=h3.gate;exact⟨_,_,_,_,ds,h4,h5,hl,hq _ h3.wrote⟩
theorem qqU{mk:Int}{U:List (Int×Int)}{ad:Nat->Addr}{M1:RM}{o o':RO}(H:Ij ad 14)(hg:ad 0=g)(hd:ad 9=dn)(h:∀ a o,M0 a=some o->M1 a=some o/\∀ j,j<14->ad j≠a):Hp e g dn f R i M0 ⟨now,mk,U,.fr⟩ ds (laid ad (c0 e ad f R now mk U ds++ [o,o']) M1):=by
 refine⟨ad,put (put M1 (ad 13) o') (ad 12) o,?_,fun i j hi hj=>H i j (wam hi (Nat.le_of_ble_eq_true rfl)) (wam hj (Nat.le_of_ble_eq_true rfl)),hg,hd,fun a u ha=>?_⟩
 · show lay ad 0 (c0 e ad f R now mk U ds++ [o,o']) M1=_
   rw[show c0 e ad f R now mk U ds++ [o,o']=(c0 e ad f R now mk U ds++ [o])++ [o'] by simp,qbD,qbD]
   rfl
 · obtain⟨h1,h2⟩:=h a u ha
   refine⟨?_,fun j hj=>h2 j (wam hj (Nat.le_of_ble_eq_true rfl))⟩
   rw[qao (wa4 (h2 12 (by decide))),qao (wa4 (h2 13 (by decide)))];exact h1
theorem qoZ{mk:Int}{U:List (Int×Int)}{b:Bool}{ad ad':Nat->Addr}{M1:RM}(h:∀ a o,M0 a=some o->M1 a=some o/\∀ j,j<12->ad j≠a)(H':Ij ad' 14)(h1:∀ j,j<12->ad j=ad' j)(h4:M1 (ad' 12)=none/\M1 (ad' 13)=none):Hp e (ad 0) (ad 9) f R i M0 ⟨now,mk,U,.he b m st ov⟩ ds (LX e ad' f R now mk U b i m st ov ds M1):=by
 refine⟨ad',M1,rfl,H',(h1 0 (by decide)).symm,(h1 9 (by decide)).symm,fun a u ha=>?_⟩
 obtain⟨h5,h6⟩:=h a u ha;refine⟨h5,fun j (hj:j<14) z=>?_⟩
 by_cases q:j<12
 · exact h6 j q ((h1 j q).trans z)
 · by_cases q2:j=12
   · rw[q2]at z;rw[<-z,h4.1]at h5;cases h5
   · rw[show j=13 by omega]at z;rw[<-z,h4.2]at h5;cases h5
noncomputable def nxX (f:Fm)(S:GS)(b:Bool)(m:Int)(s1:Str):GS:=if s1= "shut" then { S with U:=uE b S.U m (S.now+f.t3),x:=.fr }else { S with x:=.he b m s1 (S.now+tmv f s1) }
theorem qtP{mk:Int}{U:List (Int×Int)}{b:Bool}{s1:Str}{ad:Nat->Addr}{M1:RM}(H:Ij ad 14)(hg:ad 0=g)(hd:ad 9=dn)(h:∀ a o,M0 a=some o->M1 a=some o/\∀ j,j<14->ad j≠a)(t:ToL e ad f R now mk U b i m st ov ds M1 s1 M'):Hp e g dn f R i M0 (nxX f ⟨now,mk,U,.he b m st ov⟩ b m s1) ds M':=by
 unfold nxX;rcases t with⟨z,rfl⟩|⟨rfl,rfl⟩
 · rw[wad (by rcases z with rfl|rfl|rfl|rfl|rfl<;>decide+kernel)]
   exact⟨ad,M1,rfl,H,hg,hd,h⟩
 · rw[wag rfl]
   exact qqU H hg hd h
end
section
variable {e:Env}{n:Nat}{M M' M0:RM}{Q:RVK}{f:Fm}{i:Inn}{R:Rl}{now mr ov u m k:Int}{U:List (Int×Int)}{b:Bool}{ds:LR}{st s0 s1 wd tx:Str}{g dn:Addr}{S S':GS}{v r:RV}
structure Inn.Ok(i:Inn):Prop where
 kind:i.kind= "line"
 house:0<=i.house/\i.house<=99
 door:1<=i.door/\i.door<=9999
 place:1<=i.place/\i.place<=1000000
 far:1<=i.far/\i.far<=9999
theorem Hp.out_(h:Hp e g dn f R i M0 S ds M)(hl:ds.length<1000)(tb:Tb e)(ok:i.Ok)(l:Lw wd)(t:Tx tx)
 (ha:∀ K:RVK,(∀ M2,Hp e g dn f R i M0 S' ds M2->K r M2)->sem (P e) (n+6) 58 [.ref g,i.r,.str wd] M K)
 (hq:∀ v M',Hp e g dn f R i M0 S' (ds++ [v]) M'->Q r M'):sem (P e) (n+10) 77 [.ref g,.str i.kind,.int i.house,.int i.door,.int i.place,.int i.far,.str wd,.str tx] M Q:=by
 obtain⟨rt,sr,h1,h2⟩:=h.gate;have p1:=ok.place.1;have e1:(!i.place==0)=true:=by simpa using(by omega:¬i.place=0)
 rw[us (i:=77) (d:=qbJ) rfl];simp only[qbJ];walk_at "evs";refine h.do_ hl (fun Q hQ=>qiZ tb.out (by rw[ok.kind];exact qm5 l t ok.house ok.door ⟨by omega,ok.place.2⟩ ok.far hQ)) (fun K hK=>?_) fun M'=>hq _ M'
 rw[us (i:=57) (d:=qac) rfl];simp only[qac];walk_at "evs";rw[us (i:=40) (d:=qbr) rfl];simp only[qbr];walk_at "evs";exact ha _ fun M2 h3=>hK M2 h3
theorem Hp.come_(h:Hp e g dn f R i M0 S ds M)(hl:ds.length<1000)(tb:Tb e)(hm:1<=m/\m<=9999)(ok:i.Ok)(l:Lw wd)(t:Tx tx)
 (ha:∀ K:RVK,(∀ M2,Hp e g dn f R i M0 S' ds M2->K r M2)->sem (P e) (n+7) 74 [.ref g,.str "line",.int i.place,.int i.far,.int m,.str wd] M K)
 (hq:∀ v M',Hp e g dn f R i M0 S' (ds++ [v]) M'->Q r M'):sem (P e) (n+10) 76 [.ref g,.str "line",.int i.place,.int i.far,.int m,.str wd,.str tx] M Q:=by
 obtain⟨rt,sr,h1,h2⟩:=h.gate;rw[us (i:=76) (d:=qbv) rfl];simp only[qbv];walk_at "evs";refine h.do_ hl (fun Q hQ=>qiZ tb.come (qkO l t ok.place ok.far hm hQ)) (fun K hK=>?_) fun M'=>hq _ M'
 rw[us (i:=57) (d:=qac) rfl];simp only[qac];walk_at "ev";rw[show(("come":Str)==("out":Str))=false by decide,wad (by simp),h1]
 walk_at "ev";exact ha _ fun M2 h3=>hK M2 h3
theorem Hp.out_0(h:Hp e g dn f R i M0 ⟨now,mr,U,.fr⟩ ds M)(hl:ds.length<1000)(tb:Tb e)(ok:i.Ok)(l:Lw wd)(t:Tx tx)(okp:(pS f mr U).Ok)(f3:1<=f.most)(hp:(pS f mr U).pick (f.pick== "keep") i.door now=some m)
 (h1:nxL none "house" wd=none->∀ v M',Hp e g dn f R i M0 ⟨now,mr,U,.fr⟩ (ds++ [v]) M'->Q (kept "astray") M')
 (h2:∀ s,nxL none "house" wd=some s->Ws s/\∀ v M',Hp e g dn f R i M0 ⟨now,nm f m,dr U m,.he true m s (now+tmv f s)⟩ (ds++ [v]) M'->Q (led m) M'):sem (P e) (n+10) 77 [.ref g,.str i.kind,.int i.house,.int i.door,.int i.place,.int i.far,.str wd,.str tx] M Q:=by
 cases hs:nxL none "house" wd with
 |none=>
  refine Hp.out_ h hl tb ok l t (fun K hK=>?_) (h1 hs)
  obtain⟨ad,M1,rfl,H,rfl,rfl,h⟩:=h;exact qAA ok.kind H (fun _=>hK _ ⟨ad,M1,rfl,H,rfl,rfl,h⟩) fun s z=>by rw[hs]at z;cases z
 |some s=>
  obtain⟨h3,h4⟩:=h2 s hs;refine Hp.out_ h hl tb ok l t (fun K hK=>?_) h4
  obtain⟨ad,M1,rfl,H,rfl,rfl,h⟩:=h;refine qAA ok.kind H (fun z=>by rw[hs]at z;cases z) fun s' z=>?_
  rw[hs]at z;cases z;exact quv tb h3 H okp f3 hp fun ad' H' h5 h6=>hK _ (qoZ (b:=true) h H' h5 h6)
theorem Hp.out_1(h:Hp e g dn f R i M0 ⟨now,mr,U,.he b m st ov⟩ ds M)(hl:ds.length<1000)(tb:Tb e)(ok:i.Ok)(l:Lw wd)(t:Tx tx)(hu:U.length<1000)
 (h1:nxL (some st) "house" wd=none->∀ v M',Hp e g dn f R i M0 ⟨now,mr,U,.he b m st ov⟩ (ds++ [v]) M'->Q (kept "astray") M')
 (h2:∀ s,nxL (some st) "house" wd=some s->(Ws s∨s= "shut")/\∀ v M',Hp e g dn f R i M0 (nxX f ⟨now,mr,U,.he b m st ov⟩ b m s) (ds++ [v]) M'->Q (led m) M'):sem (P e) (n+10) 77 [.ref g,.str i.kind,.int i.house,.int i.door,.int i.place,.int i.far,.str wd,.str tx] M Q:=by
 cases hs:nxL (some st) "house" wd with
 |none=>
  refine Hp.out_ h hl tb ok l t (fun K hK=>?_) (h1 hs)
  obtain⟨ad,M1,rfl,H,rfl,rfl,h⟩:=h;exact qAz tb ok.kind H hu (fun _=>hK _ ⟨ad,M1,rfl,H,rfl,rfl,h⟩) fun s z=>by rw[hs]at z;cases z
 |some s=>
  obtain⟨h3,h4⟩:=h2 s hs;refine Hp.out_ h hl tb ok l t (fun K hK=>?_) h4
  obtain⟨ad,M1,rfl,H,rfl,rfl,h⟩:=h;refine qAz tb ok.kind H hu (fun z=>by rw[hs]at z;cases z) fun s' z=>?_
  rw[hs]at z;cases z;exact⟨h3,fun M' t=>hK _ (qtP H rfl rfl h t)⟩
theorem Hp.come_1(h:Hp e g dn f R i M0 ⟨now,mr,U,.he b m st ov⟩ ds M)(hl:ds.length<1000)(tb:Tb e)(ok:i.Ok)(hm:1<=m/\m<=9999)(l:Lw wd)(t:Tx tx)(hu:U.length<1000)
 (h1:nxL (some st) "far" wd=none->∀ v M',Hp e g dn f R i M0 ⟨now,mr,U,.he b m st ov⟩ (ds++ [v]) M'->Q (kept "astray") M')
 (h2:∀ s,nxL (some st) "far" wd=some s->(Ws s∨s= "shut")/\∀ v M',Hp e g dn f R i M0 (if f.renew=true∨s≠st then nxX f ⟨now,mr,U,.he b m st ov⟩ b m s else⟨now,mr,U,.he b m st ov⟩) (ds++ [v]) M'->Q (inn i) M'):sem (P e) (n+10) 76 [.ref g,.str "line",.int i.place,.int i.far,.int m,.str wd,.str tx] M Q:=by
 cases hs:nxL (some st) "far" wd with
 |none=>
  refine Hp.come_ h hl tb hm ok l t (fun K hK=>?_) (h1 hs)
  obtain⟨ad,M1,rfl,H,rfl,rfl,h⟩:=h;exact qu9 (n:=n+1) tb ok.kind H hu (fun _=>hK _ ⟨ad,M1,rfl,H,rfl,rfl,h⟩) fun s z=>by rw[hs]at z;cases z
 |some s=>
  obtain⟨h3,h4⟩:=h2 s hs;refine Hp.come_ h hl tb hm ok l t (fun K hK=>?_) h4
  obtain⟨ad,M1,rfl,H,rfl,rfl,h⟩:=h;refine qu9 (n:=n+1) tb ok.kind H hu (fun z=>by rw[hs]at z;cases z) fun s' z=>?_
  rw[hs]at z;cases z;refine⟨h3,fun M' t=>hK M' ?_⟩
  by_cases z:f.renew=true∨s≠st
  · rw[wag z]at t ⊢;exact qtP H rfl rfl h t
  · rw[wad z]at t ⊢;subst t;exact⟨ad,M1,rfl,H,rfl,rfl,h⟩
theorem Hp.come_2(h:Hp e g dn f R i M0 ⟨now,mr,U,.he b m st ov⟩ ds M)(hl:ds.length<1000)(tb:Tb e)(ok:i.Ok)(hf:f.high<9999)(hm:m≠9999)(rf:R.For i)(l:Lw wd)(t:Tx tx)
 (hq:∀ v M',Hp e g dn f R i M0 ⟨now,mr,U,.he b m st ov⟩ (ds++ [v]) M'->Q (kept (if(nxL none "far" wd).isSome=true then "clash" else "astray")) M'):sem (P e) (n+10) 76 [.ref g,.str "line",.int i.place,.int i.far,.int 9999,.str wd,.str tx] M Q:=by
 refine Hp.come_ h hl tb (by decide) ok l t (fun K hK=>?_) hq
 obtain⟨ad,M1,rfl,H,rfl,rfl,h⟩:=h;have k:=hK _ ⟨ad,M1,rfl,H,rfl,rfl,h⟩;refine qxI (n:=n+1) tb ok.kind H hf hm rf (fun z=>?_) fun s z=>?_
 · rw[z]at k;exact k
 · rw[z]at k;exact k
theorem Hp.come_0(h:Hp e g dn f R i M0 ⟨now,mr,U,.fr⟩ ds M)(hl:ds.length<1000)(tb:Tb e)(ok:i.Ok)(hf:f.high<9999)(rf:R.For i)(l:Lw wd)(t:Tx tx)
 (h1:nxL none "far" wd=none->∀ v M',Hp e g dn f R i M0 ⟨now,mr,U,.fr⟩ (ds++ [v]) M'->Q (kept "astray") M')
 (h2:∀ s,nxL none "far" wd=some s->Ws s/\∀ v M',Hp e g dn f R i M0 ⟨now,mr,U,.he false 9999 s (now+tmv f s)⟩ (ds++ [v]) M'->Q (inn i) M'):sem (P e) (n+10) 76 [.ref g,.str "line",.int i.place,.int i.far,.int 9999,.str wd,.str tx] M Q:=by
 cases hs:nxL none "far" wd with
 |none=>
  refine Hp.come_ h hl tb (by decide) ok l t (fun K hK=>?_) (h1 hs)
  obtain⟨ad,M1,rfl,H,rfl,rfl,h⟩:=h;exact quk (n:=n+1) tb ok.kind H hf rf (fun _=>hK _ ⟨ad,M1,rfl,H,rfl,rfl,h⟩) fun s z=>by rw[hs]at z;cases z
 |some s=>
  obtain⟨h3,h4⟩:=h2 s hs;refine Hp.come_ h hl tb (by decide) ok l t (fun K hK=>?_) h4
  obtain⟨ad,M1,rfl,H,rfl,rfl,h⟩:=h;refine quk (n:=n+1) tb ok.kind H hf rf (fun z=>by rw[hs]at z;cases z) fun s' z=>?_
  rw[hs]at z;cases z;exact⟨h3,fun ad' H' h5 h6=>hK _ (qoZ h H' h5 h6)⟩
theorem Hp.come_n(h:Hp e g dn f R i M0 ⟨now,mr,U,.fr⟩ ds M)(hl:ds.length<1000)(tb:Tb e)(ok:i.Ok)(okf:f.Ok)(h1:f.low<=m)(h2:m<=f.high)(l:Lw wd)(t:Tx tx)
 (hq:∀ v M',Hp e g dn f R i M0 ⟨now,mr,U,.fr⟩ (ds++ [v]) M'->Q (kept "nobody") M'):sem (P e) (n+10) 76 [.ref g,.str "line",.int i.place,.int i.far,.int m,.str wd,.str tx] M Q:=by
 have:=okf.lo;have:=okf.hi;refine Hp.come_ h hl tb ⟨by omega,by omega⟩ ok l t (fun K hK=>?_) hq
 obtain⟨ad,M1,rfl,H,rfl,rfl,h⟩:=h;exact qxJ (n:=n+1) H h1 h2 (hK _ ⟨ad,M1,rfl,H,rfl,rfl,h⟩)
def Sx.Lv(now:Int):Sx->Prop
 | .fr=>True
 | .he _ _ _ ov=>now<ov
theorem Hp.wait(h:Hp e g dn f R i M0 S ds M)(hl:ds.length<1000)(tb:Tb e)(htb:M0 e.lP=some (tbO e))(h1:0<=k)(h2:k<=1000000)(lv:S.x.Lv (S.now+k))
 (hq:∀ v M',Hp e g dn f R i M0 { S with now:=S.now+k } (ds++ [v]) M'->Q .non M'):sem (P e) (n+10) 39 [.ref g,.int k] M Q:=by
 obtain⟨rt,sr,q1,q2⟩:=h.gate;rw[us (i:=39) (d:=qbq) rfl];simp only[qbq];walk_at "evs";refine h.do_ hl (fun Q hQ=>qiZ tb.wait (qkK h1 h2 hQ)) (fun K hK=>?_) fun M'=>hq _ M'
 obtain⟨ad,M1,rfl,H,rfl,rfl,h⟩:=h;obtain⟨a1,a2⟩:=h _ _ htb;have b:∀ os:List RO,os.length=S.x.z->lay ad 0 os M1 e.lP=some (tbO e):=fun os hs=>(qjd fun j hj=>by rw[waL];exact a2 j (by omega)).trans a1
 obtain⟨now,mr,U,x⟩:=S;cases x with
 |fr=>
  have H:Ij ad 12:=H;rw[show GS.c e ad f R i ds ⟨now,mr,U,.fr⟩=c0 e ad f R now mr U ds from rfl]
  rw[us (i:=57) (d:=qac) rfl];simp only[qac];walk_at "evl";exact qDF H b (hK _ ⟨ad,M1,rfl,H,rfl,rfl,h⟩)
 |he bb m st ov=>
  have H:Ij ad 14:=H;rw[show GS.c e ad f R i ds ⟨now,mr,U,.he bb m st ov⟩=c1 e ad f R now mr U (tP bb m) (hP bb f i m) (nP bb f i m) i m st ov ds from rfl]
  rw[us (i:=57) (d:=qac) rfl];simp only[qac];walk_at "evl";exact qDE H b lv (hK _ ⟨ad,M1,rfl,H,rfl,rfl,h⟩)
end
section
variable {e:Env}{n:Nat}{M M0:RM}{Q:RVK}{ad:Nat->Addr}{f:Fm}{i:Inn}{R:Rl}{now mr ov u m k:Int}{U:List (Int×Int)}{b:Bool}{ds:LR}{st:Str}{g dn:Addr}{S:GS}
theorem qvN{x:RV}(hq:Q (.ls [x]) M):bfR "sorted" [.ls [x]] M Q:=⟨Nat.le_of_ble_eq_true rfl,hq⟩
theorem qr1(hq:Q (.ls []) M):bfR "sorted" [.ls []] M Q:=⟨by decide,hq⟩
noncomputable def qr7 (i:Inn)(m:Int)(st:Str)(ov:Int):TK:=[some (.inr i.kind),some (.inl m),some (.inl i.house),some (.inl i.door),some (.inl i.place),some (.inl i.far),some (.inr st),some (.inl ov)]
theorem qpq(H:Ij ad 12)(hq:Q (.ls []) (L0 e ad f R now mr U ds M)):sem (P e) (n+3) 22 [.ref (ad 0)] (L0 e ad f R now mr U ds M) Q:=by
 rw[us (i:=22) (d:=qaI) rfl];simp only[qaI];walk_at "evl";rw[us (i:=19) (d:=qaj) rfl];simp only[qaj];walk_at "evl";refine⟨qat,?_⟩;exact qr1 hq
theorem qpp(H:Ij ad 14)(hq:Q (.ls [qmM (qr7 i m st ov)]) (LX e ad f R now mr U b i m st ov ds M)):sem (P e) (n+3) 22 [.ref (ad 0)] (LX e ad f R now mr U b i m st ov ds M) Q:=by
 rw[us (i:=22) (d:=qaI) rfl];simp only[qaI];walk_at "evl";rw[us (i:=19) (d:=qaj) rfl];simp only[qaj];walk_at "evl";refine⟨qat,?_⟩;show(tr ((P e).Gn (n+2)) (.b true)).T [some (.ref (ad 12))] _ _;walk_at "evl";rw[us (i:=20) (d:=qcf) rfl];simp only[qcf];walk_at "evl";rw[show i.r= .tup [.str i.kind,.int i.house,.int i.door,.int i.place,.int i.far]from rfl];walk_at "evl"
 refine⟨fun _=>⟨qat,?_⟩,fun z=>by cases z⟩
 exact qvN hq
theorem qqr(H:Ij ad 12)(hq:Q (.ls []) (L0 e ad f R now mr U ds M)):sem (P e) (n+3) 21 [.ref (ad 0)] (L0 e ad f R now mr U ds M) Q:=by
 rw[us (i:=21) (d:=qa9) rfl];simp only[qa9];walk_at "evl";unfold qqE;walk_at "evl";refine⟨by decide,by walk_at "evl",?_⟩
 walk_at "evl";exact qr1 hq
theorem Hp.talks0(h:Hp e g dn f R i M0 ⟨now,mr,U,.fr⟩ ds M)(hq:Q (.ls []) M):sem (P e) (n+3) 22 [.ref g] M Q:=by
 obtain⟨ad,M1,rfl,H,rfl,rfl,h⟩:=h;exact qpq H hq
theorem Hp.talks1(h:Hp e g dn f R i M0 ⟨now,mr,U,.he b m st ov⟩ ds M)(hq:Q (.ls [qmM (qr7 i m st ov)]) M):sem (P e) (n+3) 22 [.ref g] M Q:=by
 obtain⟨ad,M1,rfl,H,rfl,rfl,h⟩:=h;exact qpp H hq
theorem Hp.lends0(h:Hp e g dn f R i M0 ⟨now,mr,U,.fr⟩ ds M)(hq:Q (.ls []) M):sem (P e) (n+3) 21 [.ref g] M Q:=by
 obtain⟨ad,M1,rfl,H,rfl,rfl,h⟩:=h;exact qqr H hq
end
section
variable {e:Env}{n:Nat}{M:RM}{Q:RVK}{f:Fm}{i:Inn}{R:Rl}
theorem f_1:rIx f.r (.int 1) M Q=Q (.int f.high) M:=xi_tup.trans (by rw[qvb];rfl)
theorem nu2{ad:Nat->Addr}{os:List RO}{x:Addr}{k:Nat}(H:Ij ad k)(F:∀ j,j<k->M (ad j)=none)(hl:os.length=k)(hx:lay ad 0 os M x=none):∃ ad',(∀ j,j<k->ad j=ad' j)/\ad' k=x/\Ij ad' (k+1)/\(∀ j,j<k+1->M (ad' j)=none)/\∀ o,put (lay ad 0 os M) x o=lay ad' 0 (os++ [o]) M:=by
 obtain⟨a,h1,h2,h3,h4⟩:=nu1 H hl hx;refine⟨a,h1,h2,h3,fun j hj=>?_,h4⟩
 by_cases z:j<k
 · rw[<-h1 j z];exact F j z
 · rw[show j=k by omega,h2];exact qd1 hx
theorem qp3{ad:Nat->Addr}{os:List RO}{r s d:RO}(H:Ij ad 12)(hl:os.length=9):lay ad 0 (os++ [r,s,d]) M=lay (fun j=>if j=9 then ad 11 else if j=10 then ad 9 else if j=11 then ad 10 else ad j) 0 (os++ [d,r,s]) M:=by
 have n1:ad 11≠ad 10:=fun z=>by have:=H 11 10 (by decide) (by decide) z;omega
 have n2:ad 11≠ad 9:=fun z=>by have:=H 11 9 (by decide) (by decide) z;omega
 rw[show os++ [r,s,d]=((os++ [r])++ [s])++ [d] by simp,show os++ [d,r,s]=((os++ [d])++ [r])++ [s] by simp,qbD,qbD,qbD,qbD,qbD,qbD]
 simp only[waC,wal,List.length_nil,hl,Nat.reduceAdd,↓reduceIte,waL,Nat.reduceEqDiff];rw[qdY n1,qdY n2];exact qlm fun j hj=>by
  rw[hl]at hj;show _=if j=9 then ad 11 else if j=10 then ad 9 else if j=11 then ad 10 else ad j
  rw[wad (by omega),wad (by omega),wad (by omega)]
noncomputable abbrev c9 (e:Env) (ad:Nat->Addr) (f:Fm) (ds:LR):List RO:=[cG e ad f,cA e ad f 0,cP e ad f f.low,.dk [],.dk [],.dt [],.dk [],.dk [],.dt [],.lst ds,qa1 e (.int 0) (.ref (ad 11)),.dk []]
def Hz(e:Env)(g:Addr)(f:Fm)(M0 M:RM):Prop:=∃ ad,M=laid ad (c9 e ad f []) M0/\Ij ad 12/\ad 0=g/\∀ a o,M0 a=some o->∀ j,j<12->ad j≠a
theorem qmK{x:Addr}(okf:f.Ok)(hx:M x=none)(hq:∀ M',Hz e x f M M'->Q .non M'):sem (P e) (n+6) 37 [.ref x,f.r] (put M x (.ins (e.C 4) [])) Q:=by
 rw[us (i:=37) (d:=qbt) rfl];simp only[qbt];walk_at "ev";refine qkN okf ?_;obtain⟨a1,_,rfl,H1,F1,e1⟩:=nu2 (ad:=fun _=>x) (os:=[]) (M:=M) (k:=0) (fun i j hi=>waI hi (Nat.not_lt_zero _)) (fun j hj=>waI hj (Nat.not_lt_zero _)) rfl hx
 rw[show put M (a1 0) (.ins (e.C 4) [])=lay a1 0 ([]++ [.ins (e.C 4) []]) M from e1 _]
 walk_at "evl";intro t ht;obtain⟨a2,h2,rfl,H2,F2,e2⟩:=nu2 (k:=1) H1 F1 rfl ht;rw[e2];clear e1 e2 H1 F1 ht;rw[us (i:=31) (d:=qa5) rfl];simp only[qa5];walk_at "evl";rw[f_0,f_1];intro y hy;obtain⟨a3,h3,rfl,H3,F3,e3⟩:=nu2 (k:=2) H2 F2 rfl hy;rw[e3];clear e3 H2 F2 hy;rw[us (i:=50) (d:=qbo) rfl];simp only[qbo];walk_at "evl";intro y hy;obtain⟨a4,h4,rfl,H4,F4,e4⟩:=nu2 (k:=3) H3 F3 rfl hy;rw[e4];clear e4 H3 F3 hy;walk_at "evl";intro y hy;obtain⟨a5,h5,rfl,H5,F5,e5⟩:=nu2 (k:=4) H4 F4 rfl hy;rw[e5];clear e5 H4 F4 hy;walk_at "evl";intro y hy;obtain⟨a6,h6,rfl,H6,F6,e6⟩:=nu2 (k:=5) H5 F5 rfl hy;rw[e6];clear e6 H5 F5 hy;walk_at "evl";intro y hy;obtain⟨a7,h7,rfl,H7,F7,e7⟩:=nu2 (k:=6) H6 F6 rfl hy;rw[e7];clear e7 H6 F6 hy;walk_at "evl";intro y hy;obtain⟨a8,h8,rfl,H8,F8,e8⟩:=nu2 (k:=7) H7 F7 rfl hy;rw[e8];clear e8 H7 F7 hy;walk_at "evl";intro y hy;obtain⟨a9,h9,rfl,H9,F9,e9⟩:=nu2 (k:=8) H8 F8 rfl hy;rw[e9];clear e9 H8 F8 hy;walk_at "evl";intro y hy;obtain⟨a10,h10,rfl,H10,F10,e10⟩:=nu2 (k:=9) H9 F9 rfl hy;rw[e10];clear e10 H9 F9 hy;rw[us (i:=17) (d:=qa8) rfl];simp only[qa8];walk_at "evl";intro y hy;obtain⟨a11,h11,rfl,H11,F11,e11⟩:=nu2 (k:=10) H10 F10 rfl hy;rw[e11];clear e11 H10 F10 hy;walk_at "evl";intro y hy;obtain⟨a12,h12,rfl,H12,F12,e12⟩:=nu2 (k:=11) H11 F11 rfl hy;rw[e12];clear e12 H11 F11 hy;walk_at "evl";have e0:a1 0=a12 0:=by rw[h2 0 (by decide),h3 0 (by decide),h4 0 (by decide),h5 0 (by decide),h6 0 (by decide),h7 0 (by decide),h8 0 (by decide),h9 0 (by decide),h10 0 (by decide),h11 0 (by decide),h12 0 (by decide)]
 refine hq _ ⟨fun j=>if j=9 then a12 11 else if j=10 then a12 9 else if j=11 then a12 10 else a12 j,(qp3 (os:=[_,_,_,_,_,_,_,_,_]) H12 rfl).trans rfl,fun i j hi hj z=>?_,e0.symm,fun a o ha j hj z=>?_⟩
 · have q:∀ i,i<12->∃ k,k<12/\(if i=9 then a12 11 else if i=10 then a12 9 else if i=11 then a12 10 else a12 i)=a12 k/\(i=9/\k=11∨i=10/\k=9∨i=11/\k=10∨i<9/\k=i):=fun i hi=>by
    by_cases p:i=9
    · exact⟨11,by decide,by rw[wag p],.inl ⟨p,rfl⟩⟩
    · by_cases p2:i=10
      · exact⟨9,by decide,by rw[wad p,wag p2],.inr (.inl ⟨p2,rfl⟩)⟩
      · by_cases p3:i=11
        · exact⟨10,by decide,by rw[wad p,wad p2,wag p3],.inr (.inr (.inl ⟨p3,rfl⟩))⟩
        · exact⟨i,hi,by rw[wad p,wad p2,wad p3],.inr (.inr (.inr ⟨by omega,rfl⟩))⟩
   obtain⟨k1,q1,q2,q3⟩:=q i hi;obtain⟨k2,q4,q5,q6⟩:=q j hj;have z:a12 k1=a12 k2:=by rw[<-q2,<-q5];exact z
   have:=H12 k1 k2 q1 q4 z;omega
 · have q:∀ j,j<12->a≠a12 j:=fun j hj z=>by have:=F12 j hj;rw[<-z,ha]at this;cases this
   dsimp only at z;split at z
   · exact q 11 (by decide) z.symm
   · split at z
     · exact q 9 (by decide) z.symm
     · split at z
       · exact q 10 (by decide) z.symm
       · exact q j hj z.symm
theorem qnP{s:RV}{t:Addr}{σ:RSt}{N:RM->Prop}{m:Int}(ht:M t=some (qa1 e (.int m) s))(hN:N (put M t (qa1 e (.int (m+1)) s))):kAf (e.C 0) "many_told" (tr ((P e).Gn n) (.i 1)).E σ N (.ref t) M:=by
 unfold kAf;simp only[ht];refine⟨rfl,?_⟩;show(match M t with|some (.ins C2 fs2)=>_|_=>False)
 rw[ht];exact⟨rfl,by show(2:Nat)<1000;decide,hN⟩
theorem qsn{g:Addr}{M0:RM}(h:Hz e g f M0 M)(tb:Tb e)(hf:f.high<9999)(hp:R.p= .non∨∃ i:Int,R.p= .int i/\0<=i/\i<=1000000)(hh:0<=R.house/\R.house<=99)(hd:1<=R.door/\R.door<=9999)
 (hq:∀ dn v M',Hp e g dn f R i M0 ⟨0,f.low,[],.fr⟩ [v] M'->Q (.int 0) M'):sem (P e) (n+10) 73 [.ref g,.str "line",.int 9999,R.p,.int R.house,.int R.door] M Q:=by
 obtain⟨ad,rfl,H,rfl,h⟩:=h;rw[us (i:=73) (d:=qbs) rfl];simp only[qbs];walk_at "evl";refine qz9 (post:=fun v M2=>v= .int 0/\M2=laid ad (c0 e ad f R 0 f.low [] []) M0) (dn:=ad 9) (lg H (Nat.le_of_ble_eq_true rfl)) (fun Q hQ=>qiZ tb.rule (qkM hp (by decide) hh hd hQ)) (fun K hK=>?_) fun v M2 ⟨z1,z2⟩=>?_
 · have k:=hK _ _ ⟨rfl,rfl⟩
   rw[us (i:=57) (d:=qac) rfl];simp only[qac];walk_at "evl";rw[wad (by decide+kernel),wad (by decide+kernel),wad (by decide+kernel),wad (by decide+kernel)]
   rw[us (i:=42) (d:=qaE) rfl];simp only[qaE];walk_at "evl";rw[qlV (mk:=f.low) hf (lg H (Nat.le_of_ble_eq_true rfl))];walk_at "evl";rw[us (i:=72) (d:=qa7) rfl];simp only[qa7];walk_at "evl";rw[qvV];refine qnP (lg H (Nat.le_of_ble_eq_true rfl)) ?_;walk_at "evl";exact k
 · subst z1;subst z2
   refine⟨_,_,_,_,[],lg H (Nat.le_of_ble_eq_true rfl),lg H (Nat.le_of_ble_eq_true rfl),by decide,?_⟩
   rw[lp H (Nat.le_of_ble_eq_true rfl)];exact hq (ad 9) _ _ ⟨ad,M0,rfl,H,rfl,rfl,fun a o ha=>⟨ha,h a o ha⟩⟩
end
section
variable {e:Env}{n:Nat}{M:RM}{Q:RVK}
theorem qfs{xs:List Int}{k:Nat}:sem (P e) (n+1) 43 [.ls (xs.map RV.int),.int k] M Q=Q (.int (xs.getD k 0)) M:=by
 rw[us (i:=43) (d:=qbU) rfl];simp only[qbU];walk_at "ev";rw[waj]
 by_cases h:k<xs.length
 · rw[wag (by simpa using h),qb1 (v:=RV.int (xs.getD k 0)) (by simp[h])]
   rfl
 · rw[wad (by simpa using h)]
   simp[Nat.le_of_not_lt h]
structure Bag where
 a:Int
 b:Int
 c:Int
def Bag.l(g:Bag):RO:=.lst [.int g.a,.int g.b,.int g.c]
structure Bag.Ok(g:Bag):Prop where
 a:0<=g.a
 b:0<=g.b/\g.b<2305843009213693951
 c:0<=g.c/\g.c<1000000
theorem qjz{x:Addr}{g:Bag}{m:Int}(hx:M x=some g.l)(ha:0<g.a)(hm:0<m)(hm2:m<1073741824)(hq:Q (.int (g.a % m)) (put M x (Bag.l ⟨g.a / m,g.b,g.c⟩))):sem (P e) (n+1) 45 [.ref x,.int m] M Q:=by
 unfold Bag.l at hx;rw[us (i:=45) (d:=qa2) rfl];simp only[qa2];walk_at "evs";exact hq
def qtp:Int:=2305843009213693951
def qxu(b c:Int):Int:=((((b+1000003*c) % qtp)*((b+1000003*c) % qtp)+7919*c ^ 2+5) % qtp) ^ 3 % qtp / 13
theorem qk9{i j:Int}(h1:-(2 ^ 64)<i)(h2:i<2 ^ 64):CMul i j:=.inl ⟨h1,h2⟩
theorem qgR{x:Addr}{g:Bag}{m:Int}(hx:M x=some g.l)(ok:g.Ok)(ha:¬0<g.a)(hm:0<m)(hq:Q (.int (qxu g.b (g.c+1) % m)) (put M x (Bag.l ⟨g.a,g.b,g.c+1⟩))):sem (P e) (n+1) 45 [.ref x,.int m] M Q:=by
 obtain⟨_,⟨b1,b2⟩,c1,c2⟩:=ok;unfold Bag.l at hx;rw[us (i:=45) (d:=qa2) rfl];simp only[qa2];walk_at "evs";have e1:=Int.emod_nonneg (g.b+1000003*(g.c+1)) (b:=2305843009213693951) (by decide)
 have e2:=Int.emod_lt_of_pos (g.b+1000003*(g.c+1)) (b:=2305843009213693951) (by decide)
 have e3:∀ z:Int,(z % 2305843009213693951).natAbs<2 ^ 64:=fun z=>by
  have h1:=Int.emod_nonneg z (b:=2305843009213693951) (by decide)
  have h2:=Int.emod_lt_of_pos z (b:=2305843009213693951) (by decide)
  omega
 exact⟨qk9 (by decide) (by decide),qk9 (by omega) (by omega),by omega,qk9 (by decide) (by decide),e3 _,hq⟩
def qkf(cell turn:Int):Bag:=⟨if 10 ^ 18<=cell then cell-10 ^ 18 else 0,cell % qtp,turn⟩
theorem qwC:(10:Int) ^ Int.toNat 18=10 ^ 18:=rfl
theorem qiY{c t:Int}(hq:∀ p,M p=none->Q (.ref p) (put M p (qkf c t).l)):sem (P e) (n+1) 44 [.int c,.int t] M Q:=by
 rw[us (i:=44) (d:=qbS) rfl];simp only[qbS];walk_at "ev";refine⟨by decide,?_⟩
 rw[qwC];unfold qkf Bag.l at hq
 by_cases h:(10:Int) ^ 18<=c
 · rw[wag (by simpa using h)]
   simp only[wag h]at hq;exact⟨by decide,hq⟩
 · rw[wad (by simpa using h)]
   simp only[wad h]at hq;exact hq
structure Bag.In(g:Bag)(k:Int):Prop where
 a:0<=g.a
 b:0<=g.b/\g.b<2305843009213693951
 c:0<=g.c/\g.c<=k
theorem qeO{a m:Int}(hm:0<m):0<=a % m/\a % m<m:=⟨Int.emod_nonneg _ (by omega),Int.emod_lt_of_pos _ hm⟩
theorem qbw{x:Addr}{g:Bag}{m k:Int}(hx:M x=some g.l)(ok:g.In k)(hk:k<999999)(hm:0<m)(hm2:m<1073741824)(hq:∀ v g',0<=v->v<m->Bag.In g' (k+1)->Q (.int v) (put M x g'.l)):sem (P e) (n+1) 45 [.ref x,.int m] M Q:=by
 obtain⟨o1,o2,o3,o4⟩:=ok
 by_cases h:0<g.a
 · exact qjz hx h hm hm2 (hq _ _ (qeO hm).1 (qeO hm).2 ⟨Int.ediv_nonneg o1 (by omega),o2,o3,by show g.c<=k+1;omega⟩)
 · exact qgR hx ⟨o1,o2,o3,by omega⟩ h hm (hq _ _ (qeO hm).1 (qeO hm).2 ⟨o1,o2,by show 0<=g.c+1;omega,by show g.c+1<=k+1;omega⟩)
theorem qtH{xs:LR}{v:Int}(h0:0<=v)(h1:v<xs.length):∃ y∈xs,∀ {M:RM} {Q:RVK},rIx (.ls xs) (.int v) M Q=Q y M:=by
 obtain⟨j,rfl⟩:∃ j:Nat,v=j:=⟨v.toNat,by omega⟩
 have hj:j<xs.length:=by omega
 refine⟨xs[j],List.getElem_mem _,fun {M Q}=>?_⟩
 rw[qrA,qb1 (v:=xs[j]) (by simp[hj])];rfl
theorem qtg{a:Int}:0<=a % 2305843009213693951/\a % 2305843009213693951<2305843009213693951:=qeO (by decide)
theorem qfz{c:Int}:(qkf c 0).In 0:=⟨by unfold qkf;dsimp only;split<;>omega,qtg,⟨Int.le_refl _,Int.le_refl _⟩⟩
theorem qva(l:LSt){v:Int}(h0:0<=v)(h1:v<l.length):∃ m∈l,∀ {M:RM} {Q:RVK},rIx (.ls (l.map RV.str)) (.int v) M Q=Q (.str m) M:=by
 obtain⟨y,hy,ey⟩:=qtH (xs:=l.map RV.str) h0 (by rw[waj];exact h1)
 obtain⟨m,hm,rfl⟩:=waE.mp hy;exact⟨m,hm,ey⟩
theorem qm6{xs:List Int}{k:Int}(h0:0<=k)(hk:k<1000)(hx:0<xs.length)(hl:xs.length<1000)(hq:∀ p g,M p=none->Bag.In g 0->Q (.ref p) (put M p g.l)):sem (P e) (n+2) 46 [.ls (xs.map RV.int),.int k] M Q:=by
 obtain⟨j,rfl⟩:∃ j:Nat,k=j:=⟨k.toNat,by omega⟩
 rw[us (i:=46) (d:=qbg) rfl];simp only[qbg];walk_at "ev";rw[waj]
 by_cases h:j<xs.length
 · rw[wag (by simpa using h),qb1 (v:=RV.int (xs.getD j 0)) (by simp[h])]
   walk_at "ev";exact qiY fun p hp=>hq p _ hp qfz
 · rw[wad (by simpa using h)]
   refine⟨by omega,?_⟩
   have h2:j % xs.length<xs.length:=Nat.mod_lt _ hx;rw[show((j:Int) % (xs.length:Int))=((j % xs.length:Nat):Int)from by simp,qb1 (v:=RV.int (xs.getD (j % xs.length) 0)) (by simp[h2])]
   walk_at "ev";refine⟨by decide,by decide,qiY fun p hp=>?_⟩
   unfold Bag.l;walk_at "ev";refine⟨qk9 (by decide) (by decide),.inl ⟨by omega,by omega⟩,qk9 (by decide) (by decide),?_⟩
   generalize hw:qkf _ 0=wb;have w:wb.In 0:=hw ▸ qfz;exact hq p ⟨wb.a,_ % _,wb.c⟩ hp ⟨w.a,qtg,w.c⟩
end
section
variable {e:Env}{n:Nat}{M:RM}{Q:RVK}{st:Option Str}{sd w:Str}
noncomputable def rw1:List (Str×LSt):=[("house open - asked",["house","open","-","asked"]),("house open asked asked",["house","open","asked","asked"]),("house open called up",["house","open","called","up"]),("house say up up",["house","say","up","up"]),("house say far far",["house","say","far","far"]),("house close up near",["house","close","up","near"]),("house close far shut",["house","close","far","shut"]),("far open - called",["far","open","-","called"]),("far open called called",["far","open","called","called"]),("far open asked up",["far","open","asked","up"]),("far say up up",["far","say","up","up"]),("far say near near",["far","say","near","near"]),("far close up far",["far","close","up","far"]),("far close near shut",["far","close","near","shut"])]
theorem qky:(rw1.all fun p=>(Txt.split p.1 " " ==p.2)&&decide (p.1.length+2<=100)&&decide (p.2.length=4))=true:=by decide+kernel
def sS:Option Str->Str
 |none=>"-"
 |some s=>s
noncomputable def fnd (l:List (Str×LSt))(sd w:Str)(st:Option Str):Option Str:=(l.find? fun p=>(p.2.getD 0 "" ==sd)&&(p.2.getD 1 "" ==w)&&(p.2.getD 2 "" ==sS st)).map fun p=>p.2.getD 3 ""
def lws:LSt:=["open","say","close","break"]
def sts:List (Option Str):=[none,some ("asked":Str),some ("called":Str),some ("up":Str),some ("near":Str),some ("far":Str)]
theorem qtW:(([("house":Str),("far":Str)]).all fun sd=>lws.all fun w=>sts.all fun st=>(w==("break":Str))||(fnd rw1 sd w st==nxL st sd w))=true:=by decide+kernel
theorem qwX(h1:sd= "house"∨sd= "far")(h2:w∈lws)(h3:st∈sts)(h4:w≠"break"):fnd rw1 sd w st=nxL st sd w:=by
 have a:=wap.mp qtW sd (by rcases h1 with rfl|rfl;exact .head _;exact .tail _ (.head _))
 have b:=wap.mp (wap.mp a w h2) st h3;rw[Bool.or_eq_true]at b;rcases b with b|b
 · exact waI (by simpa using b) h4
 · simpa using b
theorem qxR{D:RD}{p:Str×LSt}{rs:RV}{z6:Option RV}(hp:p∈rw1)(h:if((p.2.getD 0 "" ==sd)&&(p.2.getD 1 "" ==w)&&(p.2.getD 2 "" ==sS st))=true then D.rt (.str (p.2.getD 3 "")) M else ∀ y,D.nx [some (.str "line"),some (oS st),some (.str sd),some (.str w),some rs,some (.str p.1),some y] M):
 (tr ((P e).Gn n) qjo).S D [some (.str "line"),some (oS st),some (.str sd),some (.str w),some rs,some (.str p.1),z6] M:=by
 have q:=wap.mp qky p hp;rw[wac,wac]at q;obtain⟨⟨q1,q2⟩,q3⟩:=q;obtain⟨p1,p2⟩:=p;have r1:Txt.split p1 " " =p2:=by simpa using q1
 have r2:p1.length+2<=100:=wbb q2;have r3:p2.length=4:=wbb q3;clear q1 q2 q3 hp;obtain⟨a,b,c,d,rfl⟩:∃ a b c d,p2= [a,b,c,d]:=by
  match p2,r3 with
  | [a,b,c,d],_=>exact⟨a,b,c,d,rfl⟩
 unfold qjo;rw[qcn,qaN];dsimp only[List.set_cons_zero,List.set_cons_succ];walk_at "ev";refine⟨" ",rfl,by decide+kernel,was r2 (by decide),?_⟩
 rw[r1];unfold qph;walk_at "ev";have h:if((a==sd)&&(b==w)&&(c==sS st))=true then D.rt (.str d) M else ∀ y,D.nx [some (.str "line"),some (oS st),some (.str sd),some (.str w),some rs,some (.str p1),some y] M:=h
 generalize (a==sd)=x1 at h ⊢;generalize (b==w)=x2 at h ⊢;have fin:∀ x3:Bool,(if x3=true then D.rt (.str d) M else ∀ y,D.nx [some (.str "line"),some (oS st),some (.str sd),some (.str w),some rs,some (.str p1),some y] M)->if x3=true then D.rt (.str d) M else D.nx [some (.str "line"),some (oS st),some (.str sd),some (.str w),some rs,some (.str p1),some (.ls [.str a,.str b,.str c,.str d])] M:=fun x3 z=>by
  cases x3
  · exact z _
  · exact z
 cases x1
 · exact h _
 cases x2
 · exact h _
 rw[wag rfl,wag rfl];cases st with
 |none=>rw[wag (show isN (oS none)=true from rfl)];exact fin _ h
 |some s=>
  rw[wad (by intro z;cases z)]
  show cmR .Eq (.str c) (.str s) M _;rw[qoa,qf2];exact fin _ h
theorem qpc{D:RD}{rs:RV}:∀ (l:List (Str×LSt)) (z5 z6:Option RV),(∀ p∈l,p∈rw1)->(match fnd l sd w st with|some d=>D.rt (.str d) M|none=>∀ y5 y6,D.nx [some (.str "line"),some (oS st),some (.str sd),some (.str w),some rs,y5,y6] M)->
 qem (rgN 5) (tr ((P e).Gn n) qjo).S D okT id (l.map fun p=>.str p.1) [some (.str "line"),some (oS st),some (.str sd),some (.str w),some rs,z5,z6] M
 | [],z5,z6,_,h=>⟨qat,h z5 z6⟩
 |p::l,z5,z6,hl,h=>by
  refine⟨qat,?_⟩;refine qxR (D:=_) (hl p (.head _)) ?_;unfold fnd at h;rw[waN]at h;cases e1:((p.2.getD 0 "" ==sd)&&(p.2.getD 1 "" ==w)&&(p.2.getD 2 "" ==sS st))with
  |true=>rw[e1]at h;exact⟨qat,h⟩
  |false=>rw[e1]at h;exact fun y=>qpc l _ _ (fun q hq=>hl q (.tail _ hq)) h
theorem qkI(h1:sd= "house"∨sd= "far")(h2:w∈lws)(h3:st∈sts)(hq:Q (oS (nxL st sd w)) M):sem (P e) (n+1) 67 [.str "line",oS st,.str sd,.str w] M Q:=by
 rw[us (i:=67) (d:=qbT) rfl];simp only[qbT];unfold qBu;walk_at "ev";rw[wad (by decide+kernel)]
 unfold qBt;walk_at "ev"
 by_cases z:w= "break"
 · rw[wag (by simpa using z)]
   subst z;refine⟨by cases st<;>rfl,rfl,?_⟩
   show if inR (oS st) [.str "asked",.str "called",.str "up",.str "near",.str "far"]=true then _ else _
   unfold nxL at hq;rw[wag rfl]at hq;split
   · rename_i y;rw[wag y]at hq;exact hq
   · rename_i y;rw[wad y]at hq;exact hq
 · rw[wad (by simpa using z)]
   unfold qBs;rw[qcn,qaN];dsimp only[List.set_cons_zero,List.set_cons_succ];walk_at "ev";unfold qBr;rw[qcn,qaN];dsimp only[List.set_cons_zero,List.set_cons_succ];walk_at "ev";unfold qBq;rw[qcn,qaN];dsimp only[List.set_cons_zero,List.set_cons_succ];walk_at "ev";unfold qBp;rw[qcn,qaN];dsimp only[List.set_cons_zero,List.set_cons_succ];walk_at "ev";unfold qBo;walk_at "ev";refine⟨by decide,by decide,?_⟩
   refine qpc rw1 none none (fun _ h=>h) ?_
   rw[qwX h1 h2 h3 z];cases hn:nxL st sd w with
   |some d=>rw[hn]at hq;exact hq
   |none=>
    rw[hn]at hq;intro y5 y6;dsimp only;unfold qBn;walk_at "ev";exact hq
end
section
variable {e:Env}{n:Nat}{M:RM}{Q:RVK}
theorem bIn{g:Bag}{a b:Int}(h:g.In a)(hab:a<=b):g.In b:=⟨h.a,h.b,h.c.1,by have:=h.c.2;omega⟩
theorem qm7{x:Addr}{g:Bag}{k:Int}(hx:M x=some g.l)(ok:g.In k)(hk:k<800000)(hq:∀ f g',Fm.Ok f->f.high=f.low+199->f.high<9999->f.most=200->300<=f.t1->200<=f.t2->Bag.In g' (k+20)->Q f.r (put M x g'.l)):sem (P e) (n+3) 23 [.ref x] M Q:=by
 rw[us (i:=23) (d:=qbh) rfl];simp only[qbh];unfold qBA;rw[qcn,qaN];dsimp only[List.set_cons_zero,List.set_cons_succ];walk_at "ev";refine qbw (n:=n+1) hx ok (by omega) (by decide) (by decide) fun v1 g1 a1 b1 ok1=>?_
 walk_at "ev";unfold qBz;rw[qcn,qaN];dsimp only[List.set_cons_zero,List.set_cons_succ];walk_at "ev";refine qbw (n:=n+1) qad ok1 (by omega) (by decide) (by decide) fun v2 g2 a2 b2 ok2=>?_
 rw[qaS];walk_at "ev";refine qbw (n:=n+1) qad ok2 (by omega) (by decide) (by decide) fun v3 g3 a3 b3 ok3=>?_
 rw[qaS];refine qbw (n:=n+1) qad ok3 (by omega) (by decide) (by decide) fun v4 g4 a4 b4 ok4=>?_
 rw[qaS];unfold qBy;rw[qcn,qaN];dsimp only[List.set_cons_zero,List.set_cons_succ];walk_at "ev";refine qbw (n:=n+1) qad ok4 (by omega) (by decide) (by decide) fun v7 g8 a7 b7 ok8=>?_
 rw[qaS];obtain⟨le,hle,ey⟩:=qva ["door","place","talk"] a7 b7
 change ∀ {M:RM} {Q:RVK},rIx (.ls [.str "door",.str "place",.str "talk"]) _ M Q=_ at ey
 rw[ey];unfold qBx;rw[qcn,qaN];dsimp only[List.set_cons_zero,List.set_cons_succ];walk_at "ev";refine qbw (n:=n+1) qad ok8 (by omega) (by decide) (by decide) fun v8 g9 a8 b8 ok9=>?_
 rw[qaS];obtain⟨si,hsi,ey⟩:=qva ["all","place","talk"] a8 b8
 change ∀ {M:RM} {Q:RVK},rIx (.ls [.str "all",.str "place",.str "talk"]) _ M Q=_ at ey
 rw[ey];unfold qBw;rw[qcn,qaN];dsimp only[List.set_cons_zero,List.set_cons_succ];walk_at "ev";refine qbw (n:=n+1) qad ok9 (by omega) (by decide) (by decide) fun v9 g10 a9 b9 ok10=>?_
 rw[qaS];obtain⟨pi,hpi,ey⟩:=qva ["next","keep"] a9 b9
 change ∀ {M:RM} {Q:RVK},rIx (.ls [.str "next",.str "keep"]) _ M Q=_ at ey
 rw[ey];unfold qBv;walk_at "ev";refine qbw (n:=n+1) qad ok10 (by omega) (by decide) (by decide) fun v11 g12 a11 b11 ok12=>?_
 rw[qaS];walk_at "ev";exact hq ⟨1+v1,1+v1+199,le,si,pi,200,v11==1,1,300+v2,200+v3,v4⟩ g12 ⟨by show 1<=1+v1;omega,by show 1+v1<=1+v1+199;omega,by show 1+v1+199<=9999;omega,by show 1+v1+199<=1+v1+199;omega,by simpa using hle,by simpa using hsi,by simpa using hpi,⟨by show(1:Int)<=200;decide,by show(200:Int)<=200;decide⟩,⟨by show(1:Int)<=1;decide,by show(1:Int)<=1000000;decide⟩,⟨by show 1<=300+v2;omega,by show 300+v2<=1000000;omega⟩,⟨by show 1<=200+v3;omega,by show 200+v3<=1000000;omega⟩,⟨by show 0<=v4;omega,by show v4<=1000000;omega⟩⟩ rfl (by show 1+v1+199<9999;omega) rfl (by show 300<=300+v2;omega) (by show 200<=200+v3;omega) (bIn ok12 (by omega))
end
section
variable {e:Env}{n:Nat}{M:RM}{Q:RVK}{i:Inn}{a x:Addr}{v:RV}{N:RM->Prop}
structure Ow where
 st:RV
 num:RV
 now:RV
 last:RV
noncomputable def qnt (i:Inn)(W:Ow)(a:Addr):LKR:=[(.inr "inner",i.r),(.inr "state",W.st),(.inr "number",W.num),(.inr "now",W.now),(.inr "last",W.last),(.inr "rests",.ref a)]
variable {W:Ow}
abbrev oW(i:Inn)(W:Ow)(a:Addr):Option RO:=some (.dk (qnt i W a))
theorem qrv{kvs:LKR}{s:Str}{w:RV}(h:lk kvs (.inr s)=some w):gO Q (.str s) M (some (.dk kvs))=Q w M:=by
 show(match some (lk kvs (.inr s))with|some (some v)=>Q v M|_=>False)=_
 rw[h]
theorem qf5:gO Q (.str "inner") M (oW i W a)=Q i.r M:=qrv rfl
theorem qaA:gO Q (.str "state") M (oW i W a)=Q W.st M:=qrv rfl
theorem qaW:gO Q (.str "number") M (oW i W a)=Q W.num M:=qrv rfl
theorem qfp:gO Q (.str "now") M (oW i W a)=Q W.now M:=qrv rfl
theorem qqV:gO Q (.str "last") M (oW i W a)=Q W.last M:=qrv rfl
theorem qjh:gO Q (.str "rests") M (oW i W a)=Q (.ref a) M:=qrv rfl
theorem qu3{kvs kvs':LKR}{s:Str}(h1:Nat.ble (kvs.length+1) 100=true)(h:pt kvs (.inr s) v=kvs'):pO (.str s) v N x M (some (.dk kvs))=N (put M x (.dk kvs')):=by
 show(kvs.length<sizeLine/\N (put M x (.dk (pt kvs (.inr s) v))))=_;rw[h,eq_true (wam (Nat.le_of_ble_eq_true h1) (by decide:100<=sizeLine)),true_and]
theorem qdX:pO (.str "state") v N x M (oW i W a)=N (put M x (.dk (qnt i { W with st:=v } a))):=qu3 rfl rfl
theorem qgT:pO (.str "number") v N x M (oW i W a)=N (put M x (.dk (qnt i { W with num:=v } a))):=qu3 rfl rfl
theorem qsC:pO (.str "now") v N x M (oW i W a)=N (put M x (.dk (qnt i { W with now:=v } a))):=qu3 rfl rfl
theorem qh7:pO (.str "last") v N x M (oW i W a)=N (put M x (.dk (qnt i { W with last:=v } a))):=qu3 rfl rfl
end
section
variable {e:Env}{n c:Nat}{M M0:RM}{Q:RVK}{f:Fm}{i:Inn}{R:Rl}{now mr ov u m k:Int}{U rs:List (Int×Int)}{b:Bool}{ds:LR}{st s1 wd:Str}{g dn o a:Addr}{S S':GS}{W W':Ow}{v:RV}
def side(sd:Str):Prop:=sd= "house"∨sd= "far"
def wsB(o:Option Str):Bool:=match o with|none=>true|some s=>[("asked":Str),"called","up","near","far","shut"].contains s
theorem qtf:(([("house":Str),("far":Str)]).all fun sd=>lws.all fun w=>sts.all fun st=>wsB (nxL st sd w)&&(!(st==none)|| !(nxL st sd w==some ("shut":Str))))=true:=by decide+kernel
theorem qvi{s:Str}(h:wsB (some s)=true):Ws s∨s= "shut":=by
 have:s= "asked"∨s= "called"∨s= "up"∨s= "near"∨s= "far"∨s= "shut":=by simpa[wsB]using h
 rcases this with h|h|h|h|h|h
 · exact .inl (.inl h)
 · exact .inl (.inr (.inl h))
 · exact .inl (.inr (.inr (.inl h)))
 · exact .inl (.inr (.inr (.inr (.inl h))))
 · exact .inl (.inr (.inr (.inr (.inr h))))
 · exact .inr h
theorem qny{sd:Str}{so:Option Str}(h1:side sd)(h2:wd∈lws)(h3:so∈sts){s:Str}(h:nxL so sd wd=some s):(Ws s∨s= "shut")/\(so=none->Ws s):=by
 have x:=wap.mp qtf sd (by rcases h1 with rfl|rfl;exact .head _;exact .tail _ (.head _))
 have y:=wap.mp (wap.mp x wd h2) so h3;rw[h,wac]at y;have w:=qvi y.1;refine⟨w,fun z=>?_⟩
 rcases w with w|w
 · exact w
 · subst z;subst w;exact waI y.2 (by decide+kernel)
theorem qmT(h:Ws st):some st∈sts:=by
 rcases h with rfl|rfl|rfl|rfl|rfl<;>simp[sts]
theorem qlf(h:wd∈lws):Lw wd:=by simpa[lws,Lw]using h
theorem txt:Tx "t":=tx1 (by rfl) (by decide+kernel) (by decide+kernel)
structure Rb(f:Fm)(k:Int)(S:GS)(W:Ow)(rs:List (Int×Int)):Prop where
 now:W.now= .int S.now
 n0:0<=S.now/\S.now<=k
 mr:f.low<=S.mr/\S.mr<=f.high
 lu:(S.U.length:Int)<=k
 lr:(rs.length:Int)<=k
def Rest(f:Fm)(S:GS)(rs:List (Int×Int)):Prop:=∀ m u,f.low<=m->m<=f.high->lk rs m=some u->u<=S.now∨lk S.U m=some u
def qoh(f:Fm)(b:Bool)(m:Int):Prop:=b=true/\f.low<=m/\m<=f.high∨b=false/\m=9999
def Tk(f:Fm)(S:GS)(W:Ow):Prop:=match S.x with
 | .fr=>W.st= .non/\(W.num= .non∨∃ b m,W.num= .int m/\qoh f b m)
 | .he b m st ov=>Ws st/\W.st= .str st/\W.num= .int m/\qoh f b m/\(b=true->lk S.U m=none)/\∃ l:Int,W.last= .int l/\0<=l/\ov=l+tmv f st
def Sh(f:Fm)(S:GS)(W:Ow):Prop:=S.x= .fr/\W.st= .str "shut"/\∃ b m,W.num= .int m/\qoh f b m/\(b=true->lk S.U m=some (S.now+f.t3))
structure Ce(e:Env)(g dn:Addr)(f:Fm)(R:Rl)(i:Inn)(o a:Addr)(c:Nat)(S:GS)(W:Ow)(rs:List (Int×Int))(M0 M:RM):Prop where
 hp:∃ ds:LR,ds.length<=c/\Hp e g dn f R i M0 S ds M
 o:M0 o=oW i W a
 a:M0 a=some (.dk (eU rs))
 l:M0 e.lP=some (tbO e)
theorem Ce.ne(h:Ce e g dn f R i o a c S W rs M0 M):a≠o/\e.lP≠o/\e.lP≠a:=by
 refine⟨fun z=>?_,fun z=>?_,fun z=>?_⟩
 · have h1:=h.a;rw[z,h.o]at h1
   injection h1 with h1;injection h1 with h1
   unfold qnt eU enc at h1;cases rs with
   |nil=>cases h1
   |cons y ys=>injection h1 with h1 _;injection h1 with h1 _;cases h1
 · have h1:=h.l;rw[z,h.o]at h1;cases h1
 · have h1:=h.l;rw[z,h.a]at h1;cases h1
theorem Ce.at_o(h:Ce e g dn f R i o a c S W rs M0 M):M o=oW i W a:=by obtain⟨ds,_,hp⟩:=h.hp;exact hp.at_ h.o
theorem Ce.at_a(h:Ce e g dn f R i o a c S W rs M0 M):M a=some (.dk (eU rs)):=by obtain⟨ds,_,hp⟩:=h.hp;exact hp.at_ h.a
theorem Ce.gate(h:Ce e g dn f R i o a c S W rs M0 M):∃ fr rt sr d wi,M g=some (qan e fr rt sr d wi):=by obtain⟨ds,_,hp⟩:=h.hp;obtain⟨rt,sr,h,_⟩:=hp.gate;exact⟨_,_,_,_,_,h⟩
theorem Ce.put_o(h:Ce e g dn f R i o a c S W rs M0 M):Ce e g dn f R i o a c S W' rs (put M0 o (.dk (qnt i W' a))) (put M o (.dk (qnt i W' a))):=by
 obtain⟨n1,n2,n3⟩:=h.ne;obtain⟨ds,hl,hp⟩:=h.hp;exact⟨⟨ds,hl,hp.other h.o⟩,qad,(qao n1).trans h.a,(qao n2).trans h.l⟩
theorem Ce.put_a{rs':List (Int×Int)}(h:Ce e g dn f R i o a c S W rs M0 M):Ce e g dn f R i o a c S W rs' (put M0 a (.dk (eU rs'))) (put M a (.dk (eU rs'))):=by
 obtain⟨n1,n2,n3⟩:=h.ne;obtain⟨ds,hl,hp⟩:=h.hp;exact⟨⟨ds,hl,hp.other h.a⟩,(qao (wa4 n1)).trans h.o,qad,(qao n3).trans h.l⟩
theorem Ce.to{M':RM}(h:Ce e g dn f R i o a c S W rs M0 M){ds:LR}(hl:ds.length<=c)(hp:Hp e g dn f R i M0 S' (ds++ [v]) M'):Ce e g dn f R i o a (c+1) S' W rs M0 M':=⟨⟨_,by rw[waC];exact Nat.add_le_add_right hl 1,hp⟩,h.o,h.a,h.l⟩
end
section
theorem qli{κ β:Type}[DecidableEq κ]{k:κ}:∀ {l:List (κ×β)},(lk l k).isSome=decide (k∈l.map (·.1))
 | []=>by simp[lk]
 |(j,y)::l=>by
  rw[qaz]
  by_cases h:j=k
  · rw[wag h];simp[h]
  · rw[wad h,qli (l:=l)]
    simp[wa4 h]
theorem qw7{κ β:Type}[DecidableEq κ]{l:List (κ×β)}{k j:κ}(h:j≠k):lk (dr l k) j=lk l j:=by
 unfold dr
 induction l with
 |nil=>rfl
 |cons p l ih=>
  rw[waV];split
  · rw[qaz,qaz,ih]
  · rename_i z
    have:p.1=k:=by simpa using z
    rw[qaz,wad (fun q=>h (q.symm.trans this)),ih]
theorem qtm{κ β:Type}[DecidableEq κ]{l:List (κ×β)}{k:κ}{y:β}:lk (pt l k y) k=some y:=by
 induction l with
 |nil=>show lk [(k,y)] k=_;rw[qaz,wag rfl]
 |cons x r ih=>
  obtain⟨j,z⟩:=x;unfold pt at ih ⊢;rw[wa7]
  by_cases h:j=k
  · rw[wag (by simp[h])]
    show lk ((if(j,z).1=k then((j,z).1,y)else(j,z))::_) k=_
    rw[wag h,qaz,wag h]
  · rw[show(decide ((j,z).1=k)||r.any fun kv=>decide (kv.1=k))=r.any fun kv=>decide (kv.1=k) by simp[h]]
    split
    · rename_i h2
      rw[wag h2]at ih;show lk ((if(j,z).1=k then((j,z).1,y)else(j,z))::_) k=_
      rw[wad h,qaz,wad h];exact ih
    · rename_i h2
      rw[wad h2]at ih;show lk ((j,z)::(r++ [(k,y)])) k=_;rw[qaz,wad h];exact ih
theorem qoJ{κ β:Type}[DecidableEq κ]{k:κ}:∀ {l:List (κ×β)} {r:List (κ×β)},lk (l++r) k=match lk l k with|some y=>some y|none=>lk r k
 | [],r=>rfl
 |(j,y)::l,r=>by
  show lk ((j,y)::(l++r)) k=_;rw[qaz,qaz]
  by_cases h:j=k
  · rw[wag h,wag h]
  · rw[wad h,wad h];exact qoJ
theorem qjL{κ β:Type}[DecidableEq κ]{l:List (κ×β)}{k:κ}:lk (dr l k) k=none:=by
 cases h:lk (dr l k) k with
 |none=>rfl
 |some y=>
  have:=qli (l:=dr l k) (k:=k);rw[h]at this;have:k∈(dr l k).map (·.1):=by simpa using this
  obtain⟨x,hx,e⟩:=waE.mp this;have:=(wbd.mp hx).2;simp[e]at this
theorem qjc{κ β:Type}[DecidableEq κ]{k j:κ}{y:β}(h:j≠k):∀ {l:List (κ×β)},lk (pt l k y) j=lk l j:=by
 intro l;unfold pt;split
 · rename_i hz
   clear hz
   induction l with
   |nil=>rfl
   |cons p l ih=>
    rw[wan,qaz]
    by_cases z:p.1=k
    · rw[wag z]
      show(if p.1=j then _ else _)=_
      rw[wad (fun q=>h (q.symm.trans z)),qaz,wad (fun q=>h (q.symm.trans z))]
      exact ih
    · rw[wad z,qaz]
      split
      · rfl
      · exact ih
 · rw[qoJ]
   cases lk l j with
   |some y=>rfl
   |none=>show lk [(k,y)] j=none;rw[qaz,wad (wa4 h)];rfl
variable {f:Fm}{now mr d:Int}{U:List (Int×Int)}{b:Bool}
theorem sub_len:∀ {l r:List Int},l.Nodup->(∀ x∈l,x∈r)->l.length<=r.length
 | [],_,_,_=>wbi _
 |x::l,r,nd,h=>by
  rw[waU]at nd;have h1:=sub_len (l:=l) (r:=r.erase x) nd.2 fun y hy=>(List.mem_erase_of_ne (a:=y) (b:=x) (fun(z:y=x)=>nd.1 (z ▸ hy))).mpr (h y (.tail _ hy))
  have h2:=List.length_erase_of_mem (h x (.head _));have h3:=List.length_pos_of_mem (h x (.head _));rw[wal];omega
theorem qwY{a:Int}{n:Nat}:((List.range n).map fun(j:Nat)=>a+(j:Int)).Nodup:=by
 rw[List.nodup_iff_pairwise_ne,List.pairwise_map];refine List.nodup_range.imp fun h z=>h ?_
 omega
theorem qtn{κ β:Type}[DecidableEq κ]{k:κ}{y:β}:∀ {l:List (κ×β)},lk l k=some y->k∈l.map (·.1):=fun {l} h=>by
 have:=qli (l:=l) (k:=k);rw[h]at this;simpa using this
theorem qqX(hw:f.high=f.low+199)(h:U.length<200):∃ x,(pS f mr U).free x now=true:=by
 refine Classical.byContradiction fun no=>?_
 have all:∀ x∈(List.range 200).map (fun(j:Nat)=>f.low+(j:Int)),x∈U.map (·.1):=fun x hx=>by
  obtain⟨j,hj,rfl⟩:=waE.mp hx;have hj:=wa9.mp hj;refine Classical.byContradiction fun z=>no ⟨f.low+j,?_⟩
  unfold PoolS.free PoolS.has pS;have a2:lk U (f.low+j)=none:=by
   cases q:lk U (f.low+j)with
   |none=>rfl
   |some y=>exact waI (qtn q) z
  dsimp only;rw[a2,lk_0];simp;omega
 have:=sub_len qwY all;rw[waj,wbA,waj]at this;omega
theorem qix{m:Int}(h:(pS f mr U).free m now=true):f.low<=m/\m<=f.high/\∀ u,lk U m=some u->u<=now:=by
 unfold PoolS.free PoolS.has pS at h;dsimp only at h;rw[wac,wac,wac]at h;refine⟨wbb h.1.1.1,wbb h.1.1.2,fun u hu=>?_⟩
 have:=h.2;rw[hu]at this;exact wbb this
theorem qp5(hw:f.high=f.low+199)(hm:f.low<=mr/\mr<=f.high)(h:U.length<200):∃ m,(pS f mr U).pick b d now=some m/\f.low<=m/\m<=f.high/\∀ u,lk U m=some u->u<=now:=by
 unfold PoolS.pick
 by_cases z:(b&&(pS f mr U).free d now)=true
 · rw[wag z];rw[wac]at z;exact⟨_,rfl,qix z.2⟩
 · rw[wad z]
   obtain⟨x,hx⟩:=qqX (now:=now) (mr:=mr) hw h;cases q:(pS f mr U).line.find? fun i=>(pS f mr U).free i now with
   |some y=>exact⟨y,rfl,qix (List.find?_some (p:=fun i=>(pS f mr U).free i now) q)⟩
   |none=>
    rw[List.find?_eq_none]at q;have hr:=qix hx;refine waI hx (q x ?_);unfold PoolS.line pS;rw[wa1,waE,waE];dsimp only
    by_cases y:mr<=x
    · exact .inl ⟨(x-mr).toNat,wa9.mpr (by omega),by omega⟩
    · exact .inr ⟨(x-f.low).toNat,wa9.mpr (by omega),by omega⟩
end
section
variable {e:Env}{n c:Nat}{M M0:RM}{Q:RVK}{f:Fm}{i:Inn}{R:Rl}{now mr ov u m k:Int}{U rs:List (Int×Int)}{b:Bool}{ds:LR}{st s1 wd:Str}{g dn o a:Addr}{S S':GS}{W W':Ow}{v:RV}
theorem qj5{v:RV}(h:okR 16 v=true)(hl:qa3 M v=v):cmR .Eq v v M Q=Q (.bl true) M:=by
 show(okR 16 (qa3 M v)=true/\okR 16 (qa3 M v)=true/\Q (.bl (eqR (qa3 M v) (qa3 M v))) M)=_;rw[hl,qd4 _ ⟨16,h⟩,h,eq_self_iff_true,true_and,true_and]
theorem i_3:rIx i.r (.int 3) M Q=Q (.int i.place) M:=xi_tup.trans (by rw[qxT];rfl)
theorem i_4:rIx i.r (.int 4) M Q=Q (.int i.far) M:=xi_tup.trans (by rw[qxS];rfl)
abbrev Kq(e:Env)(g dn:Addr)(f:Fm)(R:Rl)(i:Inn)(o a:Addr)(c:Nat)(k:Int)(S:GS)(rs:List (Int×Int))(Q:RVK):Prop:=∀ S' W' M0' M',Ce e g dn f R i o a (c+1) S' W' rs M0' M'->Rb f (k+1) S' W' rs->Rest f S' rs->(Tk f S' W'∨Sh f S' W')->S'.now=S.now->Q (.bl true) M'
theorem quG{sv:Str}{num:Int}(ce:Ce e g dn f R i o a c S W rs M0 M)(hn:W.num= .int num)(hnow:W.now= .int now)(hq:∀ M0' M',Ce e g dn f R i o a c S { W with last:=.int now,st:=.str sv } rs M0' M'->Q (.bl true) M'):
 (tr ((P e).Gn (n+10)) qx2).S (rd Q) [some (.ref o),some (.ref g),some f.r,some (.str wd),some i.r,some (.str sv),some (led num)] M:=by
 unfold qx2;walk_at "ev";rw[ce.at_o,qfp,hnow,ce.at_o,qh7];have c1:=ce.put_o (W':={ W with last:=.int now })
 generalize put M o _=M1 at c1 ⊢;unfold qA4;walk_at "ev";rw[c1.at_o,qdX];have c2:=c1.put_o (W':={ W with last:=.int now,st:=.str sv })
 generalize put M1 o _=M2 at c2 ⊢;unfold qA3;walk_at "ev";rw[c2.at_o,qaW];dsimp only;rw[hn,qj5 rfl rfl];exact hq _ _ c2
theorem Rb.up{k':Int}(h:Rb f k S W rs)(hk:k<=k'):Rb f k' S W rs:=⟨h.now,⟨h.n0.1,Int.le_trans h.n0.2 hk⟩,h.mr,Int.le_trans h.lu hk,Int.le_trans h.lr hk⟩
theorem X_4{D:RD}{sv:RV}(ce:Ce e g dn f R i o a c S W rs M0 M)(hw:f.low<=m)(hw2:m<=f.high)(hnow:W.now= .int now)(n0:0<=now)(hr:∀ u,lk rs m=some u->u<=now)(hq:∀ M0' M',Ce e g dn f R i o a c S { W with num:=.int m } rs M0' M'->D.nx [some (.ref o),some (.ref g),some f.r,some (.str wd),some i.r,some sv,some (led m)] M'):
 (tr ((P e).Gn (n+10)) qiK).S D [some (.ref o),some (.ref g),some f.r,some (.str wd),some i.r,some sv,some (led m)] M:=by
 unfold qiK;walk_at "ev";rw[f_0];walk_at "ev";rw[wag (by simpa using hw),f_1];walk_at "ev"
 rw[wba hw2];walk_at "ev";unfold qmB;walk_at "ev";rw[ce.at_o,qjh];walk_at "ev";rw[ce.at_a];walk_at "ev";rw[ce.at_o,qfp,hnow];obtain⟨x,e1,e2⟩:∃ x:Int,(lk (eU rs) (Sum.inl m)).getD (RV.int 0)= .int x/\x<=now:=by
  rw[qqq];cases e1:lk rs m with
  |none=>exact⟨0,rfl,n0⟩
  |some u=>exact⟨u,rfl,hr u e1⟩
 rw[e1,qAO,qf2,wad (by simpa using e2)]
 unfold qmA;walk_at "ev";rw[ce.at_o,qgT];exact hq _ _ ce.put_o
theorem qoK{s:Str}{M':RM}(c3:Ce e g dn f R i o a (c+1) (nxX f ⟨now,mr,U,.he b m st ov⟩ b m s) { W with last:=.int now,st:=.str s } rs M0 M')(rb:Rb f k ⟨now,mr,U,.he b m st ov⟩ W rs)(re:Rest f ⟨now,mr,U,.he b m st ov⟩ rs)(t4:qoh f b m)(t8:b=true->lk U m=none)(ws:Ws s∨s= "shut")(t3:W.num= .int m)(lnow:W.now= .int now)
 (hq:Kq e g dn f R i o a c k ⟨now,mr,U,.he b m st ov⟩ rs Q):Q (.bl true) M':=by
 have n0:0<=now/\now<=k:=rb.n0;have lr:=rb.lr;have lu:(U.length:Int)<=k:=rb.lu;rcases ws with ws|ws
 · rw[show nxX f ⟨now,mr,U,.he b m st ov⟩ b m s=⟨now,mr,U,.he b m s (now+tmv f s)⟩from wad (by rcases ws with rfl|rfl|rfl|rfl|rfl<;>decide+kernel)]at c3
   exact hq _ _ _ _ c3 ⟨lnow,⟨n0.1,by show now<=k+1;omega⟩,rb.mr,by show(U.length:Int)<=k+1;omega,by omega⟩ re (.inl ⟨ws,rfl,t3,t4,t8,now,rfl,n0.1,rfl⟩) rfl
 · subst ws
   rw[show nxX f ⟨now,mr,U,.he b m st ov⟩ b m "shut" =⟨now,mr,uE b U m (now+f.t3),.fr⟩from wag rfl]at c3
   have l2:(uE b U m (now+f.t3)).length<=U.length+1:=by unfold uE;split;exact qoA;omega
   refine hq _ _ _ _ c3 ⟨lnow,⟨n0.1,by show now<=k+1;omega⟩,rb.mr,by show((uE b U m (now+f.t3)).length:Int)<=k+1;omega,by omega⟩ (fun m' u h1 h2 h3=>?_) (.inr ⟨rfl,rfl,b,m,t3,t4,fun z=>?_⟩) rfl
   · show u<=now∨lk (uE b U m (now+f.t3)) m'=some u
     have r:=re m' u h1 h2 h3;unfold uE
     by_cases y:b=true
     · rw[wag y]
       by_cases x:m'=m
       · rw[x]at r
         rcases r with r|r
         · exact .inl r
         · have r:lk U m=some u:=r
           rw[t8 y]at r;cases r
       · rw[qjc x];exact r
     · rw[wad y];exact r
   · show lk (uE b U m (now+f.t3)) m=some (now+f.t3)
     unfold uE;rw[wag z];exact qtm
theorem qpP(ce:Ce e g dn f R i o a c S W rs M0 M)(rb:Rb f k S W rs)(re:Rest f S rs)(tk:Tk f S W)(tb:Tb e)(okf:f.Ok)(hw:f.high=f.low+199)(hmost:f.most=200)(ok:i.Ok)(hk:k<190)(hc:c<500)(hwd:wd∈lws)
 (hq:Kq e g dn f R i o a c k S rs Q):sem (P e) (n+11) 68 [.ref o,.ref g,f.r,.str wd] M Q:=by
 rw[us (i:=68) (d:=qbB) rfl];simp only[qbB];unfold qA6;rw[qcn,qaN];dsimp only[List.set_cons_zero,List.set_cons_succ];walk_at "ev";rw[ce.at_o,qf5];unfold qA5;rw[qcn,qaN];dsimp only[List.set_cons_zero,List.set_cons_succ];walk_at "ev";rw[ce.at_o,qaA];obtain⟨fr',rt,sr,d,wi,hg⟩:=ce.gate;obtain⟨ds,hl,hp⟩:=ce.hp;have lw:=qlf hwd;obtain⟨now,mr,U,x⟩:=S;have lu:(U.length:Int)<=k:=rb.lu;have lnow:W.now= .int now:=rb.now;cases x with
 |fr=>
  obtain⟨t1,t2⟩:=tk;rw[t1];refine qkI (n:=n+9) (st:=none) (.inl rfl) hwd (by simp[sts]) ?_
  unfold qx4;rw[qcn,qaN];dsimp only[List.set_cons_zero,List.set_cons_succ];walk_at "ev";rw[hg];walk_at "ev";rw[i_0,i_1,i_2,i_3,i_4];obtain⟨m,p1,p2,p3,p4⟩:=qp5 (now:=now) (b:=f.pick== "keep") (d:=i.door) hw rb.mr (by omega:U.length<200)
  refine hp.out_0 (by omega) tb ok lw txt ⟨okf.lo,rb.mr.1,rb.mr.2,okf.hi,okf.wide⟩ (by omega) p1 (fun hn v M1 h1=>?_) fun s hn=>?_
  · have c1:=ce.to hl h1
    rw[hn];unfold quF;walk_at "ev";rw[show isN (oS none)=true from rfl,wag rfl,qj5 rfl rfl]
    exact hq _ W M0 M1 c1 (rb.up (by omega)) re (.inl ⟨t1,t2⟩) rfl
  · have ws:=(qny (.inl rfl) hwd (by simp[sts]) hn).2 rfl
    refine⟨ws,fun v M1 h1=>?_⟩
    have c1:=ce.to hl h1;rw[hn];unfold quF;walk_at "ev";rw[show isN (oS (some s))=false from rfl,wad (by decide)]
    unfold qx3;walk_at "ev";rw[c1.at_o,qaA,t1];walk_at "ev";refine X_4 c1 p2 p3 lnow rb.n0.1 (fun u hu=>?_) fun M0' M2 c2=>?_
    · rcases re m u p2 p3 hu with z|z
      · exact z
      · exact p4 u z
    dsimp only;refine quG c2 rfl lnow fun M0'' M3 c3=>?_
    refine hq _ _ _ _ c3 ⟨lnow,⟨rb.n0.1,by have:=rb.n0.2;show now<=k+1;exact Int.le_trans this (by omega)⟩,?_,?_,by have:=rb.lr;omega⟩ ?_ (.inl ⟨ws,rfl,rfl,.inl ⟨rfl,p2,p3⟩,fun _=>qjL,now,rfl,rb.n0.1,rfl⟩) rfl
    · show f.low<=nm f m/\nm f m<=f.high
      unfold nm;split<;>omega
    · show((dr U m).length:Int)<=k+1
      have:(dr U m).length<=U.length:=wbp _ _;omega
    · intro m' u h1 h2 h3
      show u<=now∨lk (dr U m) m'=some u;rcases re m' u h1 h2 h3 with z|z
      · exact .inl z
      · by_cases y:m'=m
        · rw[y]at z;exact .inl (p4 u z)
        · rw[qw7 y];exact .inr z
 |he b m st ov=>
  obtain⟨t1,t2,t3,t4,t8,l,t5,t6,t7⟩:=tk;rw[t2];refine qkI (n:=n+9) (st:=some st) (.inl rfl) hwd (qmT t1) ?_;unfold qx4;rw[qcn,qaN];dsimp only[List.set_cons_zero,List.set_cons_succ];walk_at "ev";rw[hg];walk_at "ev";rw[i_0,i_1,i_2,i_3,i_4];refine hp.out_1 (by omega) tb ok lw txt (by omega) (fun hn v M1 h1=>?_) fun s hn=>?_
  · have c1:=ce.to hl h1
    rw[hn];unfold quF;walk_at "ev";rw[show isN (oS none)=true from rfl,wag rfl,qj5 rfl rfl]
    exact hq _ W M0 M1 c1 (rb.up (by omega)) re (.inl ⟨t1,t2,t3,t4,t8,l,t5,t6,t7⟩) rfl
  · have ws:=(qny (.inl rfl) hwd (qmT t1) hn).1
    refine⟨ws,fun v M1 h1=>?_⟩
    have c1:=ce.to hl h1;rw[hn];unfold quF;walk_at "ev";rw[show isN (oS (some s))=false from rfl,wad (by decide)]
    unfold qx3;walk_at "ev";rw[c1.at_o,qaA,t2];walk_at "ev";refine quG c1 t3 lnow fun M0'' M3 c3=>?_
    exact qoK c3 rb re t4 t8 ws t3 lnow hq
end
section
variable {e:Env}{n c:Nat}{M M0:RM}{Q:RVK}{f:Fm}{i:Inn}{R:Rl}{now mr ov u m k:Int}{U rs:List (Int×Int)}{b br:Bool}{ds:LR}{st s1 wd:Str}{g dn o a:Addr}{S S':GS}{W W':Ow}{v:RV}
theorem qte:(lws.all fun w=>(nxL none "far" w==if w==("open":Str)then some ("called":Str)else none))=true:=by decide+kernel
theorem qAy(h:wd∈lws):nxL none "far" wd=if wd= "open" then some ("called":Str)else none:=by
 have:=wap.mp qte wd h;simpa using this
noncomputable abbrev sy (o g:Addr) (f:Fm) (wd:Str) (br:Bool) (i:Inn) (m:Int) (x z:Option RV):RSt:=[some (.ref o),some (.ref g),some f.r,some (.str wd),some (.bl br),some i.r,some (.int m),x,z]
theorem Y_0(ce:Ce e g dn f R i o a c ⟨now,mr,U,.fr⟩ W rs M0 M)(rb:Rb f k ⟨now,mr,U,.fr⟩ W rs)(re:Rest f ⟨now,mr,U,.fr⟩ rs)(tk:Tk f ⟨now,mr,U,.fr⟩ W)(tb:Tb e)(okf:f.Ok)(hf:f.high<9999)(rf:R.For i)(ok:i.Ok)(hc:c<500)(hwd:wd∈lws)
 (hq:Kq e g dn f R i o a c k ⟨now,mr,U,.fr⟩ rs Q):(tr ((P e).Gn (n+10)) qof).S (rd Q) (sy o g f wd br i 9999 none none) M:=by
 obtain⟨fr',rt,sr,d,wi,hg⟩:=ce.gate;obtain⟨ds,hl,hp⟩:=ce.hp;obtain⟨t1,t2⟩:=id tk;have lnow:W.now= .int now:=rb.now;have n0:0<=now/\now<=k:=rb.n0;have lr:=rb.lr;have lu:(U.length:Int)<=k:=rb.lu;have e1:=qAy hwd;unfold qof;rw[qcn,qaN];dsimp only[List.set_cons_zero,List.set_cons_succ];walk_at "ev";rw[hg];walk_at "ev";rw[i_3,i_4];have pre:∀ (S1:GS) (fd:RV) (M1:RM),Ce e g dn f R i o a (c+1) S1 W rs M0 M1->(tr ((P e).Gn (n+10)) qeS).S { nx:=(tr ((P e).Gn (n+10)) qx1).S (rd Q),rt:=Q,bk:=(rd Q).bk,ct:=(rd Q).ct } (sy o g f wd br i 9999 (some fd) none) M1->(tr ((P e).Gn (n+10)) qrm).S (rd Q) (sy o g f wd br i 9999 (some fd) none) M1:=fun S1 fd M1 c1 h=>by
  unfold qrm;walk_at "ev";rw[c1.at_o,qaA,t1];walk_at "ev";unfold qgi;walk_at "ev";rw[f_1];walk_at "ev";rw[wad (by simpa using hf)]
  exact h
 refine hp.come_0 (by omega) tb ok hf rf (qlf hwd) tx0 (fun hn v M1 h1=>?_) fun s hn=>?_
 · have c1:=ce.to hl h1
   refine pre _ _ M1 c1 ?_;rw[hn]at e1;have z:wd≠"open":=fun z=>by rw[wag z]at e1;cases e1
   unfold qeS;walk_at "ev";rw[wag (by simpa using z),qj5 rfl rfl]
   exact hq _ W M0 M1 c1 (rb.up (by omega)) re (.inl tk) rfl
 · have ws:=(qny (.inr rfl) hwd (by simp[sts]) hn).2 rfl
   refine⟨ws,fun v M1 h1=>?_⟩
   have c1:=ce.to hl h1;refine pre _ _ M1 c1 ?_;rw[hn]at e1;have z:wd= "open":=Classical.byContradiction fun z=>by rw[wad z]at e1;cases e1
   rw[wag z]at e1;cases e1;unfold qeS;walk_at "ev";rw[wad (by simpa using z)]
   unfold qiJ;walk_at "ev";rw[c1.at_o,qaA,t1];walk_at "ev";unfold qmz;walk_at "ev";rw[c1.at_o,qgT];have c2:=c1.put_o (W':={ W with num:=.int 9999 })
   generalize put M1 o _=M2 at c2 ⊢;unfold qmy;walk_at "ev";rw[c2.at_o,qfp];dsimp only;rw[lnow,c2.at_o,qh7];have c3:=c2.put_o (W':={ W with num:=.int 9999,last:=.int now })
   generalize put M2 o _=M3 at c3 ⊢;unfold qmx;walk_at "ev";rw[c3.at_o,qdX];have c4:=c3.put_o (W':={ W with num:=.int 9999,last:=.int now,st:=.str "called" })
   generalize put M3 o _=M4 at c4 ⊢;unfold qmw;walk_at "ev";rw[i_1,i_2,qj5 rfl rfl];exact hq _ _ _ _ c4 ⟨lnow,⟨n0.1,by show now<=k+1;omega⟩,rb.mr,by show(U.length:Int)<=k+1;omega,by omega⟩ re (.inl ⟨ws,rfl,rfl,.inr ⟨rfl,rfl⟩,fun z=>(by cases z),now,rfl,n0.1,rfl⟩) rfl
theorem Y_1(ce:Ce e g dn f R i o a c ⟨now,mr,U,.fr⟩ W rs M0 M)(rb:Rb f k ⟨now,mr,U,.fr⟩ W rs)(re:Rest f ⟨now,mr,U,.fr⟩ rs)(tk:Tk f ⟨now,mr,U,.fr⟩ W)(tb:Tb e)(okf:f.Ok)(h1:f.low<=m)(h2:m<=f.high)(ok:i.Ok)(hc:c<500)(hwd:wd∈lws)
 (hq:Kq e g dn f R i o a c k ⟨now,mr,U,.fr⟩ rs Q):(tr ((P e).Gn (n+10)) qof).S (rd Q) (sy o g f wd br i m none none) M:=by
 obtain⟨fr',rt,sr,d,wi,hg⟩:=ce.gate;obtain⟨ds,hl,hp⟩:=ce.hp;obtain⟨t1,t2⟩:=id tk;unfold qof;rw[qcn,qaN];dsimp only[List.set_cons_zero,List.set_cons_succ];walk_at "ev";rw[hg];walk_at "ev";rw[i_3,i_4];refine hp.come_n (by omega) tb ok okf h1 h2 (qlf hwd) tx0 fun v M1 h1=>?_
 have c1:=ce.to hl h1;unfold qrm;walk_at "ev";rw[c1.at_o,qaA,t1];walk_at "ev";unfold qgi;walk_at "ev";rw[f_1];walk_at "ev";rw[wag (by simpa using h2),qj5 rfl rfl]
 exact hq _ W M0 M1 c1 (rb.up (by omega)) re (.inl tk) rfl
theorem Y_2(ce:Ce e g dn f R i o a c ⟨now,mr,U,.he b m st ov⟩ W rs M0 M)(rb:Rb f k ⟨now,mr,U,.he b m st ov⟩ W rs)(re:Rest f ⟨now,mr,U,.he b m st ov⟩ rs)(tk:Tk f ⟨now,mr,U,.he b m st ov⟩ W)(tb:Tb e)(hf:f.high<9999)(rf:R.For i)(hm:m≠9999)(ok:i.Ok)(hc:c<500)(hwd:wd∈lws)
 (hq:Kq e g dn f R i o a c k ⟨now,mr,U,.he b m st ov⟩ rs Q):(tr ((P e).Gn (n+10)) qof).S (rd Q) (sy o g f wd br i 9999 none none) M:=by
 obtain⟨fr',rt,sr,d,wi,hg⟩:=ce.gate;obtain⟨ds,hl,hp⟩:=ce.hp;obtain⟨t1,t2,t3,t4,t8,l,t5,t6,t7⟩:=id tk;unfold qof;rw[qcn,qaN];dsimp only[List.set_cons_zero,List.set_cons_succ];walk_at "ev";rw[hg];walk_at "ev";rw[i_3,i_4];refine hp.come_2 (by omega) tb ok hf hm rf (qlf hwd) tx0 fun v M1 h1=>?_
 have c1:=ce.to hl h1;have fin:=hq _ W M0 M1 c1 (rb.up (by omega)) re (.inl tk) rfl
 unfold qrm;walk_at "ev";rw[c1.at_o,qaA,t2];walk_at "ev";rw[c1.at_o,qaW,t3];walk_at "ev";rw[wag (by simpa using wa4 hm)]
 unfold qgi;walk_at "ev";rw[f_1];walk_at "ev";rw[wad (by simpa using hf)]
 rw[qAy hwd];unfold qeS;walk_at "ev"
 by_cases z:wd= "open"
 · rw[wad (by simpa using z),wag z]
   unfold qiJ;walk_at "ev";rw[c1.at_o,qaA,t2];walk_at "ev";rw[qj5 rfl rfl];exact fin
 · rw[wag (by simpa using z),wad z]
   rw[show(if(none:Option Str).isSome=true then("clash":Str)else "astray")= "astray" from wad (by decide),qj5 rfl rfl]
   exact fin
end
section
variable {e:Env}{n c:Nat}{M M0:RM}{Q:RVK}{f:Fm}{i:Inn}{R:Rl}{now mr ov u m k:Int}{U rs:List (Int×Int)}{b br:Bool}{ds:LR}{st s1 wd:Str}{g dn o a:Addr}{S S':GS}{W W':Ow}{v:RV}
theorem Y_6{D:RD}{sv:RV}(ce:Ce e g dn f R i o a c S W rs M0 M)(hnow:W.now= .int now)(hq:∀ M0' M',Ce e g dn f R i o a c S { W with last:=.int now } rs M0' M'->D.nx (sy o g f wd br i m (some (inn i)) (some sv)) M'):(tr ((P e).Gn (n+10)) qgh).S D (sy o g f wd br i m (some (inn i)) (some sv)) M:=by
 unfold qgh;walk_at "ev";rw[ce.at_o,qfp,hnow,ce.at_o,qh7];exact hq _ _ ce.put_o
theorem Y_7{s:Str}(ce:Ce e g dn f R i o a c S W rs M0 M)(hq:∀ M0' M',Ce e g dn f R i o a c S { W with st:=.str s } rs M0' M'->Q (.bl true) M'):(tr ((P e).Gn (n+10)) qvc).S (rd Q) (sy o g f wd br i m (some (inn i)) (some (.str s))) M:=by
 unfold qvc;walk_at "ev";rw[ce.at_o,qdX];have c2:=ce.put_o (W':={ W with st:=.str s })
 generalize put M o _=M2 at c2 ⊢;unfold qAZ;walk_at "ev";rw[i_1,i_2,qj5 rfl rfl];exact hq _ _ c2
theorem Y_3(ce:Ce e g dn f R i o a c ⟨now,mr,U,.he b m st ov⟩ W rs M0 M)(rb:Rb f k ⟨now,mr,U,.he b m st ov⟩ W rs)(re:Rest f ⟨now,mr,U,.he b m st ov⟩ rs)(tk:Tk f ⟨now,mr,U,.he b m st ov⟩ W)(tb:Tb e)(okf:f.Ok)(ok:i.Ok)(hk:k<190)(hc:c<500)(hwd:wd∈lws)
 (hq:Kq e g dn f R i o a c k ⟨now,mr,U,.he b m st ov⟩ rs Q):(tr ((P e).Gn (n+10)) qof).S (rd Q) (sy o g f wd br i m none none) M:=by
 obtain⟨fr',rt,sr,d,wi,hg⟩:=ce.gate;obtain⟨ds,hl,hp⟩:=ce.hp;obtain⟨t1,t2,t3,t4,t8,l,t5,t6,t7⟩:=id tk;have lnow:W.now= .int now:=rb.now;have lu:(U.length:Int)<=k:=rb.lu;have f1:=okf.lo;have f2:=okf.hi;unfold qof;rw[qcn,qaN];dsimp only[List.set_cons_zero,List.set_cons_succ];walk_at "ev";rw[hg];walk_at "ev";rw[i_3,i_4];have pre:∀ (S1:GS) (fd:RV) (M1:RM),Ce e g dn f R i o a (c+1) S1 W rs M0 M1->(tr ((P e).Gn (n+10)) qvd).S (rd Q) (sy o g f wd br i m (some fd) (some (oS (nxL (some st) "far" wd)))) M1->(tr ((P e).Gn (n+10)) qrm).S (rd Q) (sy o g f wd br i m (some fd) none) M1:=fun S1 fd M1 c1 h=>by
  unfold qrm;walk_at "ev";rw[c1.at_o,qaA,t2];walk_at "ev";rw[c1.at_o,qaW,t3];walk_at "ev";unfold qx1;rw[qcn,qaN];dsimp only[List.set_cons_zero,List.set_cons_succ];walk_at "ev";rw[c1.at_o,qaA,t2];exact qkI (n:=n+9) (st:=some st) (.inr rfl) hwd (qmT t1) h
 refine hp.come_1 (by omega) tb ok (by rcases t4 with⟨_,z1,z2⟩|⟨_,z⟩<;>omega) (qlf hwd) tx0 (by omega) (fun hn v M1 h1=>?_) fun s hn=>?_
 · have c1:=ce.to hl h1
   refine pre _ _ M1 c1 ?_;rw[hn];unfold qvd;walk_at "ev";rw[show isN (oS none)=true from rfl,wag rfl,qj5 rfl rfl]
   exact hq _ W M0 M1 c1 (rb.up (by omega)) re (.inl tk) rfl
 · have ws:=(qny (.inr rfl) hwd (qmT t1) hn).1
   refine⟨ws,fun v M1 h1=>?_⟩
   have c1:=ce.to hl h1;refine pre _ _ M1 c1 ?_;rw[hn];unfold qvd;walk_at "ev";rw[show isN (oS (some s))=false from rfl,wad (by decide)]
   have yes:f.renew=true∨s≠st->(tr ((P e).Gn (n+10)) qgh).S { nx:=(tr ((P e).Gn (n+10)) qvc).S (rd Q),rt:=Q,bk:=(rd Q).bk,ct:=(rd Q).ct } (sy o g f wd br i m (some (inn i)) (some (.str s))) M1:=fun z=>by
    rw[wag z]at c1;refine Y_6 c1 lnow fun M0' M2 c2=>?_
    dsimp only;refine Y_7 c2 fun M0'' M3 c3=>?_
    exact qoK (W:=W) c3 rb re t4 t8 ws t3 lnow hq
   unfold qA0;walk_at "ev";show(tr ((P e).Gn (n+10)) (.ix (.v 2) (.i 6))).E _ M1 (kB _);walk_at "ev";rw[f_6,qf2]
   by_cases z:f.renew=true
   · rw[wag z];exact yes (.inl z)
   · rw[wad z]
     rw[c1.at_o,qaA,t2,show oS (some s)= .str s from rfl,qum,qf2]
     by_cases y:s=st
     · rw[wad (by simpa using y)]
       rw[wad (fun q=>q.elim z fun q=>q y)]at c1
       refine Y_7 c1 fun M0' M2 c2=>?_
       rw[y]at c2;exact hq _ _ _ _ c2 ⟨lnow,⟨rb.n0.1,by have:=rb.n0.2;omega⟩,rb.mr,by show(U.length:Int)<=k+1;omega,by have:=rb.lr;omega⟩ re (.inl ⟨t1,rfl,t3,t4,t8,l,t5,t6,t7⟩) rfl
     · rw[wag (by simpa using y)];exact yes (.inr y)
theorem qwp(ce:Ce e g dn f R i o a c S W rs M0 M)(rb:Rb f k S W rs)(re:Rest f S rs)(tk:Tk f S W)(tb:Tb e)(okf:f.Ok)(hf:f.high<9999)(rf:R.For i)(ok:i.Ok)(hk:k<190)(hc:c<500)(hwd:wd∈lws)
 (hq:Kq e g dn f R i o a c k S rs Q):sem (P e) (n+11) 71 [.ref o,.ref g,f.r,.str wd,.bl br] M Q:=by
 rw[us (i:=71) (d:=qcl) rfl];simp only[qcl];unfold qA2;rw[qcn,qaN];dsimp only[List.set_cons_zero,List.set_cons_succ];walk_at "ev";rw[ce.at_o,qf5];unfold qA1;rw[qcn,qaN];dsimp only[List.set_cons_zero,List.set_cons_succ];walk_at "ev";obtain⟨now,mr,U,x⟩:=S;cases x with
 |fr=>
  have z:=Y_0 (n:=n) (br:=br) ce rb re tk tb okf hf rf ok hc hwd hq;obtain⟨t1,t2⟩:=id tk;cases br with
  |true=>rw[wag rfl];exact z
  |false=>
   rw[wad (by decide),ce.at_o,qaW]
   rcases t2 with t2|⟨b,m,t2,t3⟩
   · rw[t2];walk_at "ev";exact z
   · rw[t2];walk_at "ev"
     rw[ce.at_o,qaW,t2];rcases t3 with⟨_,h1,h2⟩|⟨_,h1⟩
     · exact Y_1 ce rb re tk tb okf h1 h2 ok hc hwd hq
     · rw[h1];exact z
 |he b m st ov=>
  have z:=Y_3 (n:=n) (br:=br) ce rb re tk tb okf ok hk hc hwd hq;obtain⟨t1,t2,t3,t4,t8,l,t5,t6,t7⟩:=id tk;cases br with
  |true=>
   rw[wag rfl]
   by_cases y:m=9999
   · rw[y]at z;exact z
   · exact Y_2 ce rb re tk tb hf rf y ok hc hwd hq
  |false=>
   rw[wad (by decide),ce.at_o,qaW,t3];walk_at "ev"
   rw[ce.at_o,qaW,t3];exact z
theorem qwQ{k:Nat}(o:qbE):okR k (oR o)=true:=by
 cases o with
 |none=>cases k<;>rfl
 |some z=>cases z<;>cases k<;>rfl
theorem qs9{r:TK}:okR 16 (.ls [qmM r])=true:=by
 show((r.map oR).all (okR 14)&&true)=true;rw[Bool.and_true,List.all_map,wap];exact fun x _=>qwQ x
theorem qAK:rIx f.times (.int 1) M Q=Q (.int f.t1) M:=xi_tup.trans (by rw[qvb];rfl)
theorem qxm:rIx f.times (.int 2) M Q=Q (.int f.t2) M:=xi_tup.trans (by rw[qxU];rfl)
theorem Z_1(ce:Ce e g dn f R i o a c S W rs M0 M)(rb:Rb f k S W rs)(tk:Tk f S W)(ok:i.Ok)(hq:Q (.bl true) M):(tr ((P e).Gn (n+10)) qx0).S (rd Q) [some (.ref o),some (.ref g),some f.r,none,none] M:=by
 obtain⟨fr',rt,sr,d,wi,hg⟩:=ce.gate;obtain⟨ds,hl,hp⟩:=ce.hp;obtain⟨now,mr,U,x⟩:=S;unfold qx0;rw[qcn,qaN];dsimp only[List.set_cons_zero,List.set_cons_succ];walk_at "ev";rw[ce.at_o,qf5];unfold qAX;walk_at "ev";rw[ce.at_o,qaA];cases x with
 |fr=>
  obtain⟨t1,t2⟩:=tk;rw[t1];walk_at "ev";rw[hg];walk_at "ev";refine hp.talks0 (n:=n+7) ?_;rw[qj5 rfl rfl,qbH,wag rfl,hg];walk_at "ev";refine hp.lends0 (n:=n+7) ?_;rw[qj5 rfl rfl];exact hq
 |he b m st ov=>
  obtain⟨t1,t2,t3,t4,t8,l,t5,t6,t7⟩:=tk;rw[t2];walk_at "ev";unfold qAW;rw[qcn,qaN];dsimp only[List.set_cons_zero,List.set_cons_succ];walk_at "ev";rw[f_7,ce.at_o,qaA,t2]
  suffices hS:(tr ((P e).Gn (n+10)) qxZ).S (rd Q) [some (.ref o),some (.ref g),some f.r,some i.r,some (.int (tmv f st))] M by
   refine⟨rfl,rfl,?_⟩;show if inR (.str st) [.str "asked",.str "called"]=true then _ else _
   unfold tmv at hS;rcases t1 with h|h|h|h|h
   · rw[wag (by rw[h];decide+kernel),qAK];rw[wag (.inl h)]at hS;exact hS
   · rw[wag (by rw[h];decide+kernel),qAK];rw[wag (.inr h)]at hS;exact hS
   · rw[wad (by rw[h];decide+kernel),qxm];rw[wad (by rw[h];decide+kernel)]at hS;exact hS
   · rw[wad (by rw[h];decide+kernel),qxm];rw[wad (by rw[h];decide+kernel)]at hS;exact hS
   · rw[wad (by rw[h];decide+kernel),qxm];rw[wad (by rw[h];decide+kernel)]at hS;exact hS
  unfold qxZ;walk_at "ev";rw[hg];walk_at "ev";refine hp.talks1 (n:=n+7) ?_;rw[ce.at_o,qaW,t3];rw[show i.r= .tup [.str i.kind,.int i.house,.int i.door,.int i.place,.int i.far]from rfl];walk_at "ev"
  rw[qxC];refine⟨Nat.le_of_ble_eq_true rfl,?_⟩;rw[ce.at_o,qaA,t2,ce.at_o,qqV,t5,qjH];refine⟨Nat.le_of_ble_eq_true rfl,?_⟩;show cmR .Eq (.ls [qmM (qr7 i m st ov)]) (.ls [.tup [.str "line",.int m,.int i.house,.int i.door,.int i.place,.int i.far,.str st,.int (l+tmv f st)]]) M Q;rw[show RV.tup [.str "line",.int m,.int i.house,.int i.door,.int i.place,.int i.far,.str st,.int (l+tmv f st)]=qmM (qr7 i m st ov) by unfold qr7;rw[ok.kind,t7];rfl,qj5 qs9 rfl]
  exact hq
theorem Z_0{D:RD}(ce:Ce e g dn f R i o a c S W rs M0 M)(hn:W.num= .int m)(hnow:W.now= .int now)(hl:rs.length<1000)(hq:∀ M0' M',Ce e g dn f R i o a c S { W with st:=.non } (pt rs m (now+f.t3)) M0' M'->D.nx [some (.ref o),some (.ref g),some f.r,none,none] M'):(tr ((P e).Gn (n+10)) qiI).S D [some (.ref o),some (.ref g),some f.r,none,none] M:=by
 have e2:pt (eU rs) (Sum.inl m) (RV.int (now+f.t3))=eU (pt rs m (now+f.t3)):=qoB qeD;unfold qiI;walk_at "ev";rw[ce.at_o,qfp,hnow,f_7,qAJ,qjH,ce.at_o,qjh];walk_at "ev";rw[ce.at_o,qaW,hn];rw[ce.at_a];walk_at "ev";refine⟨by unfold eU;rw[ql3];exact Nat.lt_trans hl (by decide),?_⟩
 rw[e2];have c1:=ce.put_a (rs':=pt rs m (now+f.t3));generalize put M a _=M1 at c1 ⊢;unfold qmv;walk_at "ev";rw[c1.at_o,qdX];exact hq _ _ c1.put_o
theorem qpO(ce:Ce e g dn f R i o a c S W rs M0 M)(rb:Rb f k S W rs)(re:Rest f S rs)(tk:Tk f S W∨Sh f S W)(hf:f.high<9999)(ok:i.Ok)(hk:k<200)
 (hq:∀ W' rs' M0' M',Ce e g dn f R i o a c S W' rs' M0' M'->Rb f (k+1) S W' rs'->Rest f S rs'->Tk f S W'->Q (.bl true) M'):sem (P e) (n+11) 61 [.ref o,.ref g,f.r] M Q:=by
 rw[us (i:=61) (d:=qbA) rfl];simp only[qbA];have lr:=rb.lr;unfold qAY;walk_at "ev";rw[ce.at_o,qaA];rcases tk with tk|⟨t1,t2,b,m,t3,t4,t5⟩
 · have z:∀ {K:RVK},cmR .Eq W.st (.str "shut") M K=K (.bl false) M:=fun {K}=>by
    obtain⟨now,mr,U,x⟩:=S;cases x with
    |fr=>rw[tk.1,qo9]
    |he b m st ov=>
     obtain⟨t1,t2,_⟩:=tk;rw[t2,qoa,show(st==("shut":Str))=false by rcases t1 with h|h|h|h|h<;>(rw[h];decide+kernel)]
   rw[z,qf2,wad (by decide)]
   exact Z_1 ce rb tk ok (hq W rs M0 M ce (rb.up (by omega)) re tk)
 · rw[t2,qoa,qf2,wag (by decide+kernel)]
   refine Z_0 ce t3 rb.now (by omega) fun M0' M1 c1=>?_
   dsimp only;have l2:(pt rs m (S.now+f.t3)).length<=rs.length+1:=qoA;have rb1:Rb f (k+1) S { W with st:=.non } (pt rs m (S.now+f.t3)):=⟨rb.now,⟨rb.n0.1,by have:=rb.n0.2;omega⟩,rb.mr,by have:=rb.lu;omega,by omega⟩
   have re1:Rest f S (pt rs m (S.now+f.t3)):=fun m' u h1 h2 h3=>by
    by_cases y:m'=m
    · rw[y,qtm]at h3
      cases h3;rcases t4 with⟨z,_⟩|⟨_,z⟩
      · rw[y];exact .inr (t5 z)
      · rw[y,z]at h2;omega
    · rw[qjc y]at h3;exact re m' u h1 h2 h3
   have tk1:Tk f S { W with st:=.non }:=by
    obtain⟨now,mr,U,x⟩:=S;have t1:x= .fr:=t1;subst t1;exact⟨rfl,.inr ⟨b,m,t3,t4⟩⟩
   exact Z_1 c1 rb1 tk1 ok (hq _ _ _ _ c1 rb1 re1 tk1)
end
section
variable {e:Env}{n c:Nat}{M M0:RM}{Q:RVK}{D:RD}{f:Fm}{i:Inn}{R:Rl}{now mr ov u m k:Int}{U rs:List (Int×Int)}{b br:Bool}{ds:LR}{st s1 wd:Str}{g dn o a p:Addr}{S S':GS}{W W':Ow}{v:RV}
theorem Ce.new{x:Addr}{r:RO}(h:Ce e g dn f R i o a c S W rs M0 M)(hx:M x=none):Ce e g dn f R i o a c S W rs (put M0 x r) (put M x r):=by
 obtain⟨ds,hl,hp⟩:=h.hp;have ne:∀ y u,M0 y=some u->y≠x:=fun y u hy z=>by have:=hp.at_ hy;rw[z,hx]at this;cases this
 exact⟨⟨ds,hl,hp.new hx⟩,(qao (ne _ _ h.o)).trans h.o,(qao (ne _ _ h.a)).trans h.a,(qao (ne _ _ h.l)).trans h.l⟩
theorem Ce.bag{g1 g2:Bag}(h:Ce e g dn f R i o a c S W rs M0 M)(hb:M0 p=some g1.l):Ce e g dn f R i o a c S W rs (put M0 p g2.l) (put M p g2.l):=by
 obtain⟨ds,hl,hp⟩:=h.hp;have n1:o≠p:=fun z=>by have:=h.o;rw[z,hb]at this;cases this
 have n2:a≠p:=fun z=>by have:=h.a;rw[z,hb]at this;cases this
 have n3:e.lP≠p:=fun z=>by have:=h.l;rw[z,hb]at this;cases this
 exact⟨⟨ds,hl,hp.other hb⟩,(qao n1).trans h.o,(qao n2).trans h.a,(qao n3).trans h.l⟩
theorem Ce.draw{g1:Bag}{q m:Int}(h:Ce e g dn f R i o a c S W rs M0 M)(hb:M0 p=some g1.l)(ok:g1.In q)(hk:q<999999)(hm:0<m)(hm2:m<1073741824)
 (hq:∀ v g2 M0' M',0<=v->v<m->Bag.In g2 (q+1)->Ce e g dn f R i o a c S W rs M0' M'->M0' p=some g2.l->Q (.int v) M'):sem (P e) (n+1) 45 [.ref p,.int m] M Q:=by
 obtain⟨ds,hl,hp⟩:=id h.hp;exact qbw (hp.at_ hb) ok hk hm hm2 fun v g2 h0 h1 o2=>hq v g2 _ _ h0 h1 o2 (h.bag hb) qad
def Bt(e:Env)(g dn:Addr)(f:Fm)(R:Rl)(i:Inn)(o a:Addr)(c:Nat)(M:RM):Prop:=∃ M0 S W rs,Ce e g dn f R i o a (c+1) S W rs M0 M/\Rb f (2*c) S W rs/\Rest f S rs/\Tk f S W
structure Lo(e:Env)(f:Fm)(R:Rl)(i:Inn):Prop where
 tb:Tb e
 okf:f.Ok
 hw:f.high=f.low+199
 hf:f.high<9999
 hm:f.most=200
 t1:300<=f.t1
 t2:200<=f.t2
 rf:R.For i
 ok:i.Ok
noncomputable abbrev sw (sc:RV) (f:Fm) (bg:Option RV) (i:Inn) (o g:Addr) (xs:List Int) (k w y:Option RV):RSt:=[some sc,some f.r,bg,some i.r,some (.ref o),some (.ref g),some (.ls (xs.map RV.int)),k,w,y]
theorem qEt{sc:RV}{bg kk w y:Option RV}{xs:List Int}(L:Lo e f R i)(ce:Ce e g dn f R i o a c S W rs M0 M)(rb:Rb f k S W rs)(re:Rest f S rs)(tk:Tk f S W)(hk:k<190)(hc:c<500)
 (hq:∀ M0' M' S' W',Ce e g dn f R i o a (c+1) S' W' rs M0' M'->Rb f (k+1) S' W' rs->Rest f S' rs->Tk f S' W'->D.nx (sw sc f bg i o g xs kk w y) M'):(tr ((P e).Gn (n+12)) qeT).S D (sw sc f bg i o g xs kk w y) M:=by
 obtain⟨fr',rt,sr,d,wi,hg⟩:=ce.gate;obtain⟨ds,hl,hp⟩:=ce.hp;have n0:=rb.n0;unfold qeT;walk_at "ev";rw[hg];walk_at "ev";have lv:S.x.Lv (S.now+1):=by
  obtain⟨now,mr,U,x⟩:=S;cases x with
  |fr=>trivial
  |he b m st ov=>
   obtain⟨t1,t2,t3,t4,t8,l,t5,t6,t7⟩:=tk;have n1:now<=k:=n0.2;have x1:=L.t1;have x2:=L.t2;show now+1<ov;rw[t7];unfold tmv;split<;>omega
 refine hp.wait (n:=n+2) (by omega) L.tb ce.l (by decide) (by decide) lv fun v M1 h1=>?_
 have c1:=ce.to hl h1;unfold qhH;walk_at "ev";rw[c1.at_o,qfp,rb.now];walk_at "ev";rw[c1.at_o,qsC];refine hq _ _ _ _ c1.put_o ⟨rfl,⟨by show 0<=S.now+1;omega,by show S.now+1<=k+1;omega⟩,rb.mr,by have:=rb.lu;show(S.U.length:Int)<=k+1;omega,by have:=rb.lr;omega⟩ (fun m' u h1 h2 h3=>?_) ?_
 · rcases re m' u h1 h2 h3 with z|z
   · exact .inl (by show u<=S.now+1;omega)
   · exact .inr z
 · obtain⟨now,mr,U,x⟩:=S
   cases x<;>exact tk
theorem quH{sc:RV}{xs:List Int}{bg w y:Option RV}{j:Nat}(L:Lo e f R i)(h:Bt e g dn f R i o a j M)(hj:j<62)(hx:0<xs.length)(hl:xs.length<1000)(hq:∀ M' bg w y,Bt e g dn f R i o a (j+1) M'->D.nx (sw sc f bg i o g xs (some (.int j)) w y) M'):
 (tr ((P e).Gn (n+12)) qmD).S D (sw sc f bg i o g xs (some (.int j)) w y) M:=by
 obtain⟨M0,S,W,rs,ce,rb,re,tk⟩:=h;unfold qmD;rw[qcn,qaN];dsimp only[List.set_cons_zero,List.set_cons_succ];walk_at "ev";refine qm6 (n:=n+10) (by omega) (by omega) hx hl fun p g1 hp ok=>?_
 have c0:=ce.new (r:=g1.l) hp;unfold qpf;rw[qcn,qaN];dsimp only[List.set_cons_zero,List.set_cons_succ];walk_at "ev";refine c0.draw (n:=n+11) qad ok (by decide) (by decide) (by decide) fun v1 g2 M1 M2 a1 b1 ok1 c1 hb1=>?_
 obtain⟨wd,hwd,ey⟩:=qva ["open","say","close","break","open","say","say","close"] a1 b1
 change ∀ {M:RM} {Q:RVK},rIx (.ls [.str "open",.str "say",.str "close",.str "break",.str "open",.str "say",.str "say",.str "close"]) _ M Q=_ at ey
 rw[ey];have hwd:wd∈lws:=by
  simp only[waH,List.not_mem_nil,or_false]at hwd;simp only[lws,waH,List.not_mem_nil,or_false];rcases hwd with h|h|h|h|h|h|h|h<;>simp[h]
 unfold qpe;rw[qcn,qaN];dsimp only[List.set_cons_zero,List.set_cons_succ];walk_at "ev";refine c1.draw (n:=n+11) hb1 ok1 (by decide) (by decide) (by decide) fun v2 g3 M3 M4 a2 b2 ok2 c2 hb2=>?_
 have fin:∀ (k':Int) S' W' M0' M' x,k'<=2*j+1->Ce e g dn f R i o a (j+1+1) S' W' rs M0' M'->Rb f k' S' W' rs->Rest f S' rs->(Tk f S' W'∨Sh f S' W')->(tr ((P e).Gn (n+12)) qmC).S D (sw sc f (some (.ref p)) i o g xs (some (.int j)) (some (.str wd)) x) M':=fun k' S' W' M0' M' x hk' c3 rb3 re3 tk3=>by
  unfold qmC;walk_at "ev";refine qpO (n:=n+1) c3 rb3 re3 tk3 L.hf L.ok (by omega) fun W4 rs4 M04 M5 c4 rb4 re4 tk4=>?_
  walk_at "ev";exact hq _ _ _ _ ⟨M04,S',W4,rs4,c4,rb4.up (by omega),re4,tk4⟩
 unfold qpd;walk_at "ev"
 by_cases z:v2=8
 · rw[wag (by simpa using z)]
   refine qEt L c2 rb re tk (by omega) (by omega) fun M0' M' S' W' c3 rb3 re3 tk3=>?_
   exact fin _ _ _ _ _ _ (by omega) c3 rb3 re3 (.inl tk3)
 · rw[wad (by simpa using z)]
   unfold qhG;walk_at "ev"
   by_cases y:v2<4
   · rw[wag (by simpa using y)]
     unfold qdy;walk_at "ev";refine qpP (n:=n+1) c2 rb re tk L.tb L.okf L.hw L.hm L.ok (by omega) (by omega) hwd fun S' W' M0' M' c3 rb3 re3 tk3 _=>?_
     walk_at "ev";exact fin _ _ _ _ _ _ (by omega) c3 rb3 re3 tk3
   · rw[wad (by simpa using y)]
     unfold qdx;walk_at "ev";refine qwp (n:=n+1) c2 rb re tk L.tb L.okf L.hf L.rf L.ok (by omega) (by omega) hwd fun S' W' M0' M' c3 rb3 re3 tk3 _=>?_
     walk_at "ev";exact fin _ _ _ _ _ _ (by omega) c3 rb3 re3 tk3
end
section
variable {e:Env}{n:Nat}{M M0:RM}{Q:RVK}{D:RD}{f:Fm}{i:Inn}{R:Rl}{g dn o a p:Addr}
theorem qql{n c:Nat}(h:c<(nums n).length):(nums n)[c]=RV.int (c:Int):=by simp[nums]
theorem rg7{x:RV}{a0 a1 a2 a3 a4 a5 a6 a7:Option RV}{r:List (Option RV)}{K:List (Option RV)->RM->Prop}:rgN 7 x (a0::a1::a2::a3::a4::a5::a6::a7::r) M K=K (a0::a1::a2::a3::a4::a5::a6::some x::r) M:=rfl
theorem quI{sc:RV}{xs:List Int}{bg z7 z8 z9:Option RV}(L:Lo e f R i)(hx:0<xs.length)(hl:xs.length<=61)(h:Bt e g dn f R i o a 0 M)(hq:∀ M' c bg z7 z8 z9,Bt e g dn f R i o a c M'->(tr ((P e).Gn (n+12)) qx5).S D (sw sc f bg i o g xs z7 z8 z9) M'):
 (tr ((P e).Gn (n+12)) qx6).S D (sw sc f bg i o g xs z7 z8 z9) M:=by
 unfold qx6;walk_at "ev";rw[waj];generalize hN:(if(xs.length:Int) > 8 then(xs.length:Int)else 8)=N
 have n1:0<=N/\N<=61:=by rw[<-hN];split<;>omega
 refine⟨by omega,by omega,?_⟩
 refine ql0 (fun ys σ M=>∃ (c:Nat) (bg z7 z8 z9:Option RV),ys=(nums N.toNat).drop c/\c+ys.length=N.toNat/\Bt e g dn f R i o a c M/\σ=sw sc f bg i o g xs z7 z8 z9) (fun _ _ _ _=>qat) (fun σ M h=>?_) (fun y ys σ M W h hW=>?_) _ _ _ ⟨0,bg,z7,z8,z9,rfl,by rw[qdZ];omega,h,rfl⟩
 · obtain⟨c,bg,z7,z8,z9,_,_,h,rfl⟩:=h
   exact hq _ _ _ _ _ _ h
 · obtain⟨c,bg,z7,z8,z9,h1,h2,h,rfl⟩:=h
   rw[wal]at h2;have hc:c<(nums N.toNat).length:=by rw[qdZ];omega
   rw[List.drop_eq_getElem_cons hc]at h1;injection h1 with e1 e2
   have e1:y= .int (c:Int):=by rw[e1,qql]
   subst e1;rw[rg7];refine quH L h (by omega) hx (by omega) fun M' bg' w' y' h'=>?_
   exact hW _ _ ⟨c+1,bg',some (.int c),w',y',e2,by omega,h',rfl⟩
theorem qx8{sc:RV}{bg:Option RV}{g1:Bag}(lp:M e.lP=some (tbO e))(hb:M p=some g1.l)
 (hq:∀ M' o a,M' e.lP=some (tbO e)->M' p=some g1.l->M' o=oW i ⟨.non,.non,.int 0,.int 0⟩ a->M' a=some (.dk (eU []))->(tr ((P e).Gn n) qve).S D [some sc,some f.r,bg,some i.r,some (.ref o),none,none,none,none,none] M'):
 (tr ((P e).Gn n) qx7).S D [some sc,some f.r,bg,some i.r,none,none,none,none,none,none] M:=by
 unfold qx7;rw[qcn,qaN,qCs];dsimp only[List.set_cons_zero,List.set_cons_succ];intro o ho a ha;have noa:o≠a:=fun z=>by rw[<-z,qad]at ha;cases ha
 have nlo:e.lP≠o:=fun z=>by rw[z,ho]at lp;cases lp
 have npo:p≠o:=fun z=>by rw[z,ho]at hb;cases hb
 have nla:e.lP≠a:=fun z=>by rw[<-z,qao nlo,lp]at ha;cases ha
 have npa:p≠a:=fun z=>by rw[<-z,qao npo,hb]at ha;cases ha
 show(put (put M o (RO.dk [])) a (RO.dk [])) o=some (.dk [])/\(tr ((P e).Gn n) qve).S D _ (put (put (put M o (RO.dk [])) a (RO.dk [])) o (.dk (qnt i ⟨.non,.non,.int 0,.int 0⟩ a)));refine⟨by rw[qao noa,qad],?_⟩
 exact hq _ o a (by rw[qao nlo,qao nla,qao nlo];exact lp) (by rw[qao npo,qao npa,qao npo];exact hb) qad (by rw[qao (wa4 noa),qad];rfl)
theorem Hz.gate(h:Hz e g f M0 M):∃ fr rt sr d wi,M g=some (qan e fr rt sr d wi):=by
 obtain⟨ad,rfl,H,rfl,h⟩:=h;exact⟨_,_,_,_,_,lg H (Nat.le_of_ble_eq_true rfl)⟩
theorem Hz.at_{x:Addr}{r:RO}(h:Hz e g f M0 M)(hx:M0 x=some r):M x=some r:=by
 obtain⟨ad,rfl,H,rfl,h⟩:=h;exact(qjd fun j hj=>by rw[waL];exact h x r hx j hj).trans hx
theorem Hz.other{x:Addr}{r r':RO}(h:Hz e g f M0 M)(hx:M0 x=some r):Hz e g f (put M0 x r') (put M x r'):=by
 obtain⟨ad,rfl,H,rfl,h⟩:=h;refine⟨ad,qev fun j hj=>by rw[waL];exact h x r hx j hj,H,rfl,fun y u hy=>?_⟩
 by_cases z:y=x
 · rw[z];exact h x r hx
 · rw[qao z]at hy;exact h y u hy
theorem qwn(tb:Tb e)(htb:M e.lP=some (tbO e)){xs:List Int}(hq:∀ M',M' e.lP=some (tbO e)->Q (.bl true) M'):sem (P e) (n+13) 24 [.ls (xs.map RV.int)] M Q:=by
 rw[us (i:=24) (d:=qj4) rfl];refine⟨rfl,?_⟩;simp only[qj4];unfold qBc;walk_at "ev";refine(qfs (n:=n+11) (xs:=xs) (k:=0)).mpr ?_;refine qiY (n:=n+11) fun p1 h1=>?_
 refine qm7 (n:=n+9) qad qfz (by decide) fun f g1 okf hw hf hmost ht1 ht2 ok1=>?_
 rw[qaS];have l1:put M p1 g1.l e.lP=some (tbO e):=(qao (fun z=>by rw[z,h1]at htb;cases htb)).trans htb
 generalize put M p1 g1.l=M1 at l1 ⊢;unfold qBb;walk_at "ev";refine(qfs (n:=n+11) (xs:=xs) (k:=1)).mpr ?_;refine qiY (n:=n+11) fun p h2=>?_
 have l2:∀ r:RO,put M1 p r e.lP=some (tbO e):=fun r=>(qao (fun z=>by rw[z,h2]at l1;cases l1)).trans l1
 unfold qBa;rw[qcn,qaN];dsimp only[List.set_cons_zero,List.set_cons_succ];walk_at "ev";refine qbw (n:=n+11) qad qfz (by decide) (by decide) (by decide) fun v1 b1 a1 c1 k1=>?_
 rw[qaS];refine qbw (n:=n+11) qad k1 (by decide) (by decide) (by decide) fun v2 b2 a2 c2 k2=>?_
 rw[qaS];walk_at "ev";unfold qA9;rw[qcn,qaN];dsimp only[List.set_cons_zero,List.set_cons_succ];walk_at "ev";refine qbw (n:=n+11) qad k2 (by decide) (by decide) (by decide) fun v3 b3 a3 c3 k3=>?_
 rw[qaS];walk_at "ev";refine qbw (n:=n+11) qad k3 (by decide) (by decide) (by decide) fun v4 b4 a4 c4 k4=>?_
 rw[qaS];walk_at "ev";have oki:Inn.Ok ⟨"line",v1,1+v2,1+v3,1+v4⟩:=⟨rfl,⟨a1,by show v1<=99;omega⟩,⟨by show 1<=1+v2;omega,by show 1+v2<=9999;omega⟩,⟨by show 1<=1+v3;omega,by show 1+v3<=1000000;omega⟩,⟨by show 1<=1+v4;omega,by show 1+v4<=9999;omega⟩⟩
 refine qx8 (i:=⟨"line",v1,1+v2,1+v3,1+v4⟩) (l2 b4.l) qad fun M2 o a l3 hb ho ha=>?_
 unfold qve;rw[qcn,qaN];dsimp only[List.set_cons_zero,List.set_cons_succ];walk_at "ev";intro g hg;refine qmK (n:=n+5) okf hg fun M3 hz=>⟨rfl,?_⟩
 obtain⟨fr',rt,sr,d,wi,hg3⟩:=hz.gate;unfold qA8;walk_at "ev";rw[hg3];walk_at "ev";rw[i_3];walk_at "ev";refine qbw (n:=n+11) (hz.at_ hb) k4 (by decide) (by decide) (by decide) fun v5 b5 a5 c5 k5=>?_
 have hz5:=hz.other (r':=b5.l) hb;have l5:put M2 p b5.l e.lP=some (tbO e):=(qao (fun z=>by rw[z,hb]at l3;cases l3)).trans l3
 have ho5:put M2 p b5.l o=oW ⟨"line",v1,1+v2,1+v3,1+v4⟩ ⟨.non,.non,.int 0,.int 0⟩ a:=(qao (fun z=>by rw[z,hb]at ho;cases ho)).trans ho
 have ha5:put M2 p b5.l a=some (.dk (eU [])):=(qao (fun z=>by rw[z,hb]at ha;cases ha)).trans ha
 generalize put M3 p b5.l=M5 at hz5 ⊢;generalize put M2 p b5.l=M4 at hz5 l5 ho5 ha5;obtain⟨y,hy,ey⟩:=qtH (xs:=[.non,.int (1+v3)]) a5 c5;rw[ey,i_1,i_2];have rf:Rl.For ⟨y,v1,1+v2⟩ ⟨"line",v1,1+v2,1+v3,1+v4⟩:=⟨by
  rcases waH.mp hy with z|z
  · exact .inl z
  · exact .inr (wbl.mp z),rfl,rfl⟩
 refine qsn (n:=n+2) (R:=⟨y,v1,1+v2⟩) (i:=⟨"line",v1,1+v2,1+v3,1+v4⟩) hz5 tb hf (by
  rcases rf.p with z|z
  · exact .inl z
  · exact .inr ⟨_,z,by show 0<=1+v3;omega,by show 1+v3<=1000000;omega⟩) oki.house oki.door fun dn v M6 h6=>?_
 rw[qun];walk_at "ev";unfold qA7;rw[qcn,qaN];dsimp only[List.set_cons_zero,List.set_cons_succ];walk_at "ev";have e1:qiF (xs.map RV.int) (some 2) (some 62)=((xs.drop (HT.sIx xs.length 0 (some 2))).take (HT.sIx xs.length xs.length (some 62)-HT.sIx xs.length 0 (some 2))).map RV.int:=by unfold qiF;rw[waj,List.map_take,List.map_drop]
 rw[e1];have ly:((xs.drop (HT.sIx xs.length 0 (some 2))).take (HT.sIx xs.length xs.length (some 62)-HT.sIx xs.length 0 (some 2))).length<=60:=by
  have e3:HT.sIx xs.length 0 (some 2)=min 2 xs.length:=by rw[show(2:Int)=((2:Nat):Int)from rfl,HT.sIx_nat]
  have e4:HT.sIx xs.length xs.length (some 62)=min 62 xs.length:=by rw[show(62:Int)=((62:Nat):Int)from rfl,HT.sIx_nat]
  rw[List.length_take,List.length_drop,e3,e4];omega
 generalize (xs.drop (HT.sIx xs.length 0 (some 2))).take (HT.sIx xs.length xs.length (some 62)-HT.sIx xs.length 0 (some 2))=ys at ly ⊢;refine⟨by rw[waj];exact was (show ys.length+1<=61 by omega) (by decide),?_⟩
 rw[show ys.map RV.int++ [RV.int 0]=(ys++ [0]).map RV.int from by rw[wbw];rfl]
 refine quI (n:=n) (xs:=ys++ [0]) ⟨tb,okf,hw,hf,hmost,ht1,ht2,rf,oki⟩ (by rw[waC];exact Nat.succ_pos _) (by rw[waC];show ys.length+1<=61;omega) ⟨M4,⟨0,f.low,[],.fr⟩,⟨.non,.non,.int 0,.int 0⟩,[],⟨⟨[v],waf _,h6⟩,ho5,ha5,l5⟩,⟨rfl,⟨Int.le_refl _,Int.le_refl _⟩,⟨Int.le_refl _,okf.le⟩,by show(0:Int)<=_;decide,by show(0:Int)<=_;decide⟩,fun m u _ _ h=>(by cases h),⟨rfl,.inl rfl⟩⟩ fun M7 c bg z7 z8 z9 h=>?_
 obtain⟨M8,S,W,rs,ce,_⟩:=h;obtain⟨ds,_,hp⟩:=ce.hp;unfold qx5;walk_at "ev";exact hq M7 (hp.at_ ce.l)
end
def Cx:Nat->Addr:=fun i=>([338,411,432,552,765]:List Addr).getD i 0
def qls:List (Str×Addr):=[("out",113),("come",120),("lost",127),("wait",134),("rule",141),("unrule",148)]
def qhh:List (Str×Int):=[("note",0),("asked",1),("called",1),("up",2),("near",2),("far",2)]
def qu8:Env:=⟨fun x=>if x= "DEEDS" then kvA qls else if x= "TIME_AT" then kvI qhh else [],Cx,[(113,9),(120,10),(134,11),(141,12)],546⟩
noncomputable def G0:List (FD×FA):=[(qcg,fD H08.d25),(qck,fD H08.d39),(qcZ,fD H08.d46),(qcj,fD H08.d53),(qaR,fD H08.d60),(qci,fD H08.d67),(qcX,fD H08.d74),(qcU,fD H08.d88),(qcT,⟨"is_text","is_text",qkx,99,98,.str "lentgate.ends" 194⟩),(qcW,fD H08.d107),(qcb,fD H08.d114),(qca,fD H08.d128)]
noncomputable def G1:List (FD×FA):=[(qbl,fD H08.d135),(qcR,fD H08.d150),(qc0,fD H08.d157),(qch,⟨"is_times","is_times",qjx,228,227,.str "lentgate.forms" 475⟩),(qcY,fD H08.d229),(qa8,fD H08.d294),(qaD,fD H08.d371),(qaj,fD H08.d470),(qcf,fD H08.d557),(qa9,⟨"lends","Gate.lends",qgJ,645,644,.str "lentgate.gate" 1101⟩),(qaI,⟨"talks","Gate.talks",qgI,650,649,.str "lentgate.gate" 1101⟩),(qbh,fD H08.d805)]
noncomputable def G2:List (FD×FA):=[(qj4,fD H08.d833)]
noncomputable def G3:List (FD×FA):=[(qcS,fD H08.d81),(qcV,fD H08.d217),(qbR,fD H08.d236),(qcQ,fD H08.d243),(qaM,fD H08.d357),(qbn,fD H08.d385),(qa5,fD H08.d444),(qaq,fD H08.d451),(qav,fD H08.d484),(qaw,fD H08.d491),(qa6,⟨"held","Talks.held",qgH,502,501,.str "lentgate.talks" 894⟩),(f_Talks_pass_by,⟨"pass_by","Talks.pass_by",qec,549,548,.str "lentgate.talks" 894⟩)]
noncomputable def G4:List (FD×FA):=[(qbt,fD H08.d571),(qbu,fD H08.d578),(qbq,fD H08.d606),(qbr,fD H08.d679),(qax,fD H08.d700),(qaE,fD H08.d749),(qbU,fD H08.d770),(qbS,fD H08.d777),(qa2,fD H08.d784),(qbg,fD H08.d791)]
noncomputable def G5:List (FD×FA):=[(qaL,fD H08.d32),(qbQ,fD H08.d100),(qbz,fD H08.d273),(qbo,fD H08.d350),(qaO,fD H08.d364),(qbp,fD H08.d392),(qa4,fD H08.d510),(qaH,fD H08.d531),(qaB,fD H08.d517),(qaT,fD H08.d538),(qac,fD H08.d672),(qar,fD H08.d686)]
noncomputable def G6:List (FD×FA):=[(qaF,fD H08.d693),(qaP,fD H08.d714),(qbA,fD H08.d826)]
noncomputable def G7:List (FD×FA):=[(qby,fD H08.d280),(qaC,fD H08.d322),(qaY,fD H08.d378),(qaX,fD H08.d524),(qaZ,fD H08.d721),(qbT,fD H08.d798),(qbB,fD H08.d812)]
noncomputable def G8:List (FD×FA):=[(qbm,fD H08.d423),(qae,fD H08.d458),(qcl,fD H08.d819)]
noncomputable def G9:List (FD×FA):=[(qa7,fD H08.d301),(qbs,fD H08.d613),(qak,fD H08.d707),(qal,fD H08.d735)]
noncomputable def G10:List (FD×FA):=[(qbv,fD H08.d592)]
noncomputable def G11:List (FD×FA):=[(qbJ,fD H08.d585)]
section
variable(Pm:Params)
theorem b0:qj3 (H08.K0 Pm) S Cx 546 1 G0=true:=by kernel_rfl
theorem l0:lT2 (H08.K0 Pm) G0:=by kernel_rfl
theorem u0:uT G0 1:=qa0 (n:=1) fun _=>by show _=_;kernel_rfl
theorem b1:qj3 (H08.K0 Pm) S Cx 546 1 G1=true:=by kernel_rfl
theorem l1:lT2 (H08.K0 Pm) G1:=by kernel_rfl
theorem u1:uT G1 1:=qa0 (n:=1) fun _=>by show _=_;kernel_rfl
theorem b2:qj3 (H08.K0 Pm) S Cx 546 1 G2=true:=by kernel_rfl
theorem l2:lT2 (H08.K0 Pm) G2:=by kernel_rfl
theorem u2:uT G2 1:=qa0 (n:=1) fun _=>by show _=_;kernel_rfl
theorem b3:qj3 (H08.K0 Pm) S Cx 546 2 G3=true:=by kernel_rfl
theorem l3:lT2 (H08.K0 Pm) G3:=by kernel_rfl
theorem u3:uT G3 2:=qa0 (n:=2) fun _ _=>by show _=_;kernel_rfl
theorem b4:qj3 (H08.K0 Pm) S Cx 546 2 G4=true:=by kernel_rfl
theorem l4:lT2 (H08.K0 Pm) G4:=by kernel_rfl
theorem u4:uT G4 2:=qa0 (n:=2) fun _ _=>by show _=_;kernel_rfl
theorem b5:qj3 (H08.K0 Pm) S Cx 546 3 G5=true:=by kernel_rfl
theorem l5:lT2 (H08.K0 Pm) G5:=by kernel_rfl
theorem u5:uT G5 3:=qa0 (n:=3) fun _ _ _=>by show _=_;kernel_rfl
theorem b6:qj3 (H08.K0 Pm) S Cx 546 3 G6=true:=by kernel_rfl
theorem l6:lT2 (H08.K0 Pm) G6:=by kernel_rfl
theorem u6:uT G6 3:=qa0 (n:=3) fun _ _ _=>by show _=_;kernel_rfl
theorem b7:qj3 (H08.K0 Pm) S Cx 546 4 G7=true:=by kernel_rfl
theorem l7:lT2 (H08.K0 Pm) G7:=by kernel_rfl
theorem u7:uT G7 4:=qa0 (n:=4) fun _ _ _ _=>by show _=_;kernel_rfl
theorem b8:qj3 (H08.K0 Pm) S Cx 546 5 G8=true:=by kernel_rfl
theorem l8:lT2 (H08.K0 Pm) G8:=by kernel_rfl
theorem u8:uT G8 5:=qa0 (n:=5) fun _ _ _ _ _=>by show _=_;kernel_rfl
theorem b9:qj3 (H08.K0 Pm) S Cx 546 6 G9=true:=by kernel_rfl
theorem l9:lT2 (H08.K0 Pm) G9:=by kernel_rfl
theorem u9:uT G9 6:=qa0 (n:=6) fun _ _ _ _ _ _=>by show _=_;kernel_rfl
theorem b10:qj3 (H08.K0 Pm) S Cx 546 7 G10=true:=by kernel_rfl
theorem l10:lT2 (H08.K0 Pm) G10:=by kernel_rfl
theorem u10:uT G10 7:=qa0 (n:=7) fun _ _ _ _ _ _ _=>by show _=_;kernel_rfl
theorem b11:qj3 (H08.K0 Pm) S Cx 546 8 G11=true:=by kernel_rfl
theorem l11:lT2 (H08.K0 Pm) G11:=by kernel_rfl
theorem u11:uT G11 8:=qa0 (n:=8) fun _ _ _ _ _ _ _ _=>by show _=_;kernel_rfl
theorem qEr:(S.bl.all fun x=>qru (PySem.W.nsIn (H08.K0 Pm) mainGlobals x))=true:=by kernel_rfl
theorem qEm:(S.gi.all fun x=>qu7 x.2 (PySem.W.nsIn (H08.K0 Pm) mainGlobals x.1))=true:=by kernel_rfl
theorem qEl:(S.gt.all fun x=>quS (H08.K0 Pm) x.2 (PySem.W.nsIn (H08.K0 Pm) mainGlobals x.1))=true:=by kernel_rfl
theorem qEo:(S.cl.zipIdx.all fun x=>qra (H08.K0 Pm) (Cx x.2)&&qoV (Cx x.2) (PySem.W.nsIn (H08.K0 Pm) mainGlobals x.1))=true:=by kernel_rfl
theorem qEn:(S.fs.all fun x=>qra (H08.K0 Pm) (Cx x.1)&&qru (PySem.W.findIn (H08.K0 Pm) (.ref (Cx x.1)) x.2))=true:=by kernel_rfl
theorem qEq:bmB (H08.K0 Pm) 546=true:=by kernel_rfl
theorem qEp:qgd (H08.K0 Pm) 548 546=true:=by kernel_rfl
theorem qAP:(H08.K0 Pm).lookup 546=none:=by kernel_rfl
end
section
variable {w:World}{h:Heap}{mg:SOV}(X:(H08.K0 w.2).In h)(G:h.Ns mainGlobals mg)
include X G
theorem qAU:∀ x∈(G0++(G1++(G2++(G3++(G4++(G5++(G6++(G7++(G8++(G9++(G10++G11))))))))))),HdF (H08.K0 w.2) mg S Cx 546 x.1 x.2.g (fdOf x.2):=(qbk (grp X G (b0 _) (l0 _) u0) (qbk (grp X G (b1 _) (l1 _) u1) (qbk (grp X G (b2 _) (l2 _) u2) (qbk (grp X G (b3 _) (l3 _) u3) (qbk (grp X G (b4 _) (l4 _) u4) (qbk (grp X G (b5 _) (l5 _) u5) (qbk (grp X G (b6 _) (l6 _) u6) (qbk (grp X G (b7 _) (l7 _) u7) (qbk (grp X G (b8 _) (l8 _) u8) (qbk (grp X G (b9 _) (l9 _) u9) (qbk (grp X G (b10 _) (l10 _) u10) (grp X G (b11 _) (l11 _) u11))))))))))))
theorem qqY:∀ d∈S.fd,∃ g fd,HdF (H08.K0 w.2) mg S Cx 546 d g fd:=qtV (by rfl) (qAU X G)
omit X G in
theorem qvs(o:Option Str):H08.hx w.2 o=okH w (o.map Sum.inr):=by cases o<;>rfl
noncomputable def tks:List (LVl):=[[.str "house" 567,.none,.str "open" 568],[.str "house" 570,.str "asked" 571,.str "open" 572],[.str "house" 574,.str "called" 575,.str "open" 576],[.str "house" 578,.str "up" 579,.str "say" 580],[.str "house" 582,.str "far" 583,.str "say" 584],[.str "house" 586,.str "up" 587,.str "close" 588],[.str "house" 590,.str "far" 591,.str "close" 592],[.str "far" 594,.none,.str "open" 595],[.str "far" 597,.str "called" 598,.str "open" 599],[.str "far" 601,.str "asked" 602,.str "open" 603],[.str "far" 605,.str "up" 606,.str "say" 607],[.str "far" 609,.str "near" 610,.str "say" 611],[.str "far" 613,.str "up" 614,.str "close" 615],[.str "far" 617,.str "near" 618,.str "close" 619]]
theorem qrM:qiL PySem.Challenge.pw_lentgate_k08_a_line_word_by_word w (H08.K0 w.2) mg "LINE_STEPS" ((S.tt.lookup ("LINE_STEPS":Str)).getD []):=qnK (tk:=tks) (kt:=H08.kt) (vt:=H08.vt) (hx:=H08.hx w.2) (wa8 X G (n:="LINE_STEPS") (v:=.ref 250) (by kernel_rfl)) (show(H08.K0 w.2).lookup 250=some (H08.DD w.2) by kernel_rfl) (by decide) (by kernel_rfl) qvs (by kernel_rfl) (by decide+kernel) (by decide+kernel) (by decide+kernel)
theorem qtR:Hd PySem.Challenge.pw_lentgate_k08_a_line_word_by_word w (H08.K0 w.2) mg (P qu8):=by
 refine qxh X G (qEr _) (qEm _) (qEl _) (qEo _) (qEn _) ?_ (fun x l hx=>by obtain⟨rfl,rfl⟩:=qnv hx;exact qrM X G) (qqY X G) (fun _ _ _ _=>⟨by decide,fun h X2=>qxO X G (qEq _) X2⟩) ?_
 · show ∀ x∈[("DEEDS":Str),("TIME_AT":Str)],_
   refine wa5.mpr ⟨show KTab _ _ _ _ _ (kvA qls)from qnN (wa8 X G (n:="DEEDS") (v:=.ref 149) (by kernel_rfl)) (show(H08.K0 w.2).lookup 149=some (H08.v201 w.2) by kernel_rfl) (by decide) ⟨⟨_,rfl⟩,rfl,rfl,⟨_,rfl⟩,rfl,rfl,⟨_,rfl⟩,rfl,rfl,⟨_,rfl⟩,rfl,rfl,⟨_,rfl⟩,rfl,rfl,⟨_,rfl⟩,rfl,rfl,trivial⟩ (by decide+kernel),?_⟩
   refine wa5.mpr ⟨show KTab _ _ _ _ _ (kvI qhh)from qnM (wa8 X G (n:="TIME_AT") (v:=.ref 216) (by kernel_rfl)) (show(H08.K0 w.2).lookup 216=some (H08.v292 w.2) by kernel_rfl) (by decide) ⟨⟨_,rfl⟩,rfl,⟨_,rfl⟩,⟨_,rfl⟩,rfl,⟨_,rfl⟩,⟨_,rfl⟩,rfl,⟨_,rfl⟩,⟨_,rfl⟩,rfl,⟨_,rfl⟩,⟨_,rfl⟩,rfl,⟨_,rfl⟩,⟨_,rfl⟩,rfl,⟨_,rfl⟩,trivial⟩ (by decide+kernel),?_⟩
   exact List.forall_mem_nil _
 · show ∀ q∈[((113:Addr),(9:Nat)),((120:Addr),(10:Nat)),((134:Addr),(11:Nat)),((141:Addr),(12:Nat))],_
   refine wa5.mpr ⟨⟨qcW,rfl,rfl,by kernel_rfl⟩,?_⟩
   refine wa5.mpr ⟨⟨qcb,rfl,rfl,by kernel_rfl⟩,?_⟩
   refine wa5.mpr ⟨⟨qca,rfl,rfl,by kernel_rfl⟩,?_⟩
   refine wa5.mpr ⟨⟨qbl,rfl,rfl,by kernel_rfl⟩,?_⟩
   exact List.forall_mem_nil _
end
def aL:FA:=⟨"law","law",qvU,839,838,H08.pm8⟩
theorem tbE:Tb qu8:=⟨⟨_,by rfl,.head _⟩,⟨_,by rfl,.tail _ (.head _)⟩,⟨_,by rfl,.tail _ (.tail _ (.head _))⟩,⟨_,by rfl,.tail _ (.tail _ (.tail _ (.head _)))⟩,by rfl,by rfl,by rfl,by rfl,by rfl⟩
theorem qnH(ns:List Int):sem (P qu8) 13 24 [.ls (ns.map RV.int)] (qjG 546 S.lp S.lq) (fun v M2=>v= .bl true/\M2 546=some (.tb 546 S.lp S.lq)):=qwn tbE qi2 fun _ h=>⟨rfl,h⟩
theorem in_both{p:Params}{h:Heap}(X:(H08.K p).In h):(H08.K0 p).In h/\h.get? 546=some (PySem.W.tabObj #[]):=
 ⟨fun a o e=>X a o (by show List.lookup a (H08.K0 p++_)=_;rw[List.lookup_append,e];rfl),X 546 _ (by show List.lookup _ (H08.K0 p++_)=_;rw[List.lookup_append,qAP];rfl)⟩
theorem walk{l:PySem.W.OpenLaw}{q:Program}{loose:LSt}{XP:(SOV)->Heap->Prop}{YP:World->Heap->Prop}{d:DefRec}(hn:l.most=some 63)(hp:l.prog=PySem.Challenge.pw_lentgate_k08_a_line_word_by_word)(hdn:d.name= "law")(hdf:d.params.defaults= [])
 (hY:∀ (w:World) (h:Heap),YP w h->(H08.K0 w.2).In h/\h.get? 546=some (PySem.W.tabObj #[])):PySem.W.WalkO q loose XP YP l.row.toRowW d [] (fun f vs=>PySem.call f vs):=by
 refine R.walk_ofP (n:=63) (k:=13+1) (x:="script") (K:=H08.K0) (sp:=sem (P qu8) 13 24) (T:=546) (c:=548) (pos:=S.lp) (lq:=S.lq) hn (by decide) hdf ⟨rfl,by decide,by decide⟩ hY qAP (fun p h X=>qhw (qEp p) X) (fun w mg fa h X G hm=>?_) fun ns _=>qnH ns
 have hl:=qAU X G (qj4,aL) (wa1.mpr (.inr (wa1.mpr (.inr (wa1.mpr (.inl (.head _)))))));have hf:=hl.k0 rfl;rw[hdn]at hm;have:fa=aL.g:=by have:=hm.symm.trans hf;injection this with this;injection this
 subst this;rw[hp];exact⟨fdOf aL,fun s u=>.of_eq (by kernel_rfl),fun base kb _=>(lev (qtR X G) kb 13 24 qj4 aL.g (fdOf aL) rfl hl).1⟩
end K08
open PySem PySem.W PyProof.Rows
theorem K08.wa:looksOpen PySem.Challenge.pw_lentgate_k08_a_line_word_by_word=true:=by kernel_rfl
theorem K08.wb:(PySem.Challenge.rw_lentgate_k08_a_line_word_by_word).row.wellSaid=true:=by
 delta OpenRow.wellSaid OpenRow.partSaid
 rw[show looksOpen (PySem.Challenge.rw_lentgate_k08_a_line_word_by_word).row.prog=true from K08.wa];kernel_rfl
theorem K08.ws:PySem.Challenge.rw_lentgate_k08_a_line_word_by_word.wellSaid=true:=by
 delta OpenLaw.wellSaid
 rw[K08.wb];kernel_rfl
theorem PySem.Challenge.cw_lentgate_k08_a_line_word_by_word_holds : PySem.Challenge.rw_lentgate_k08_a_line_word_by_word.Holds := by
 w_on;refine PySem.W.holds_law K08.ws fun said=>?_
 refine PySem.W.holds_open (r:=(PySem.Challenge.rw_lentgate_k08_a_line_word_by_word).row) (q:=H08.q) (loose:=H08.loose) (Xt:=H08.Xt) (XP:=PySem.W.XL H08.q [])
  (Yf:=(PySem.W.kHook H08.K H08.ks H08.ks_eq).obs) (Ya:=(PySem.W.kHook H08.K H08.ks H08.ks_eq).val) (YP:=(PySem.W.kHook H08.K H08.ks H08.ks_eq).says) (N:=H08.NN)
  H08.left (PySem.W.Hook.of _) (PySem.W.Hook.keeps _) (fun s e=>PySem.W.xl_of s (Bool.and_eq_true_iff.mp e).1) PySem.W.XL.keeps (by rfl) (by rfl) (by rfl)
  (fun s e=>PySem.W.recFacts_of (Bool.and_eq_true_iff.mp e).2) (by rfl) (by assumption) (by decide+kernel) ⟨rfl,rfl,rfl,rfl,rfl,by decide+kernel⟩ ?hw ?hc
 (case hw=>w_witness2)
 k_fill
 exact K08.walk (l:=PySem.Challenge.rw_lentgate_k08_a_line_word_by_word) rfl rfl rfl rfl (fun w h Y=>K08.in_both (PySem.W.kIn_of Y))
