import PyProof.Rows.All
import Wide.All
import OpenK.AllK
import Wide.FinOn
import Lean
import PyProof.EqAt
import PyProof.EqKinds
import PyProof.TupleCall
import PyProof.NeKinds
import PyProof.ZipIter
import KE.KSortTup
import KE.KDictSum
import KE.KSortedM
import KE.KEqDict
import PyProof.DictWalks
import KE.KDictList
import PyProof.Conv_int_bool
import KE.KSortKey
import KE.KLam
import PySem.Challenge.RW_lentgate_k35_meetings_by_two_gates
set_option Elab.async false
set_option linter.all false
set_option maxRecDepth 100000
set_option genInjectivity false
set_option genSizeOfSpec false
set_option genSizeOf false
set_option maxHeartbeats 0
set_option autoImplicit true
abbrev ag:=PySem.W.Frag
local macro_rules | `(tactic| walk_at "w9") => `(tactic| (rw [PySem.W.Fast.te10110043849684766642, PySem.W.Fast.te14364793385576792824]; kernel_rfl))
def bj:=@Bool.and_eq_true
def br:=@List.length_map
def aU:=@Nat.le_refl
def bu:=@List.mem_map
def dH:=@List.length_append
def bT:=@List.map_cons
def bG:=@PySem.Heap.lt_size
def cH:=@List.mem_filter
def eF:=@Nat.lt_of_lt_of_le
def cj:=@List.mem_cons
def eG:=@List.length_cons
def bV:=@List.map_map
def eQ:=@List.size_toArray
def fH:=@List.mem_singleton
def eZ:=@List.mem_append
def fe:=@List.map_append
def cW:=@Nat.ne_of_lt
def gA:=@List.mem_cons_of_mem
def dJ:=@Nat.le_trans
def gY:=@List.length_filter_le
def ff:=@List.all_cons
def iD:=@List.mem_append_right
def gZ:=@List.forall_mem_nil
def gB:=@List.all_eq_true
def iE:=@Bool.false_ne_true
def iC:=@List.mem_cons_self
def iU:=@Nat.lt_of_le_of_lt
def gU:=@List.nodup_cons
def jC:=@Bool.false_eq_true
def jD:=@List.map_congr_left
def iV:=@List.not_mem_nil
def mX:=@Option.map_eq_some_iff
def gz:=@Nat.lt_trans
def lN:=@PySem.W.emptyDict
def lQ:=@Nat.lt_succ_of_lt
def lR:=@List.filter_congr
def uK:=@PyProof.Rows.callWith_type1
def lS:=@List.filter_cons
def lU:=@List.any_eq_true
def yk:=@PyProof.Rows.slot_tuple_getitem
def pQ:=@List.replicate_succ
def mY:=@Option.isSome_map
def pR:=@List.filter_eq_self
def mZ:=@List.nil_append
def uL:=@Option.isSome_iff_exists
def m7:=@List.lookup_cons
def jE:=@List.any_cons
def lV:=@List.nodup_nil
def m8:=@PySem.W.instObj
def m9:=@List.append_nil
def lW:=@Nat.lt_irrefl
def mW:=@PySem.W.mg_of
def qX:=@List.filter_filter
def uI:=@List.forall_mem_cons
def qY:=@List.flatten_cons
def pP:=@PySem.W.kia_one
def qZ:=@Nat.le_succ_of_le
def yh:=@Nat.add_sub_cancel_left
def yi:=@List.filter_cons_of_pos
def yj:=@List.filter_cons_of_neg
def uJ:=@List.mem_map_of_mem
def q8:=@Nat.lt_succ_self
def yl:=@List.range_succ_eq_map
def uM:=@List.mem_filterMap
def ym:=@List.length_replicate
def pS:=@List.map_nil
def q9:=@List.forIn_cons
def uN:=@List.append_assoc
def yn:=@List.mem_append_left
def rf:=@List.mem_range
def uO:=@PySem.W.plainGet
def yo:=@PySem.W.callWith_K
def Bc:=@Option.isSome_some
def yp:=@PySem.W.hasDictIn
noncomputable section
abbrev aG:=List (PySem.Addr×PySem.Obj)
abbrev aP:=PySem.Value->PySem.Shared->Prop
abbrev bq:=PySem.Str->Option PySem.Value
abbrev au:=List PySem.Value
abbrev aW:=List PySem.Expr
abbrev az:=List PySem.Str
abbrev cR:=Option PySem.Value
namespace R
open PySem PySem.W PyProof.Rows
structure Ar(n:Nat)(p:Array Nat):Prop where
 sz:p.size=n
 pm:p.toList.Perm (List.range n)
section
variable {O:KeyOrd}{f:Nat->O.α}{n:Nat}{p:Array Nat}
end
end R
namespace L2
open PySem PySem.Spec PyProof.Rows
abbrev Key:=Sum Int Str
def jv:Key->Value->Bool
 | .inl k,v=>Value.isInt k v
 | .inr x,v=>Value.isStrOf x v
def Dp(w:World):Key->Int
 | .inl k=>hashInt k
 | .inr x=>hashStr w x
theorem iJ:∀{k:Key} {v:Value},jv k v=true->(∃i t,k=Sum.inl i/\v=Value.int i t)∨(∃x t,k=Sum.inr x/\v=Value.str x t)
 | .inl i,v,h=>by
  obtain⟨t,e⟩:=Value.isInt_shape (k:=i) (v:=v) h;exact .inl ⟨i,t,rfl,e⟩
 | .inr x,v,h=>by
  obtain⟨t,e⟩:=Value.isStrOf_shape (x:=x) (v:=v) h;exact .inr ⟨x,t,rfl,e⟩
theorem QH(i)(t):jv (.inl i) (.int i t)=true:=by simp[jv,Value.isInt]
theorem QG(x)(t):jv (.inr x) (.str x t)=true:=by simp[jv,Value.isStrOf]
theorem Vc(a b):decide ((Sum.inl a:Key)=Sum.inl b)=(a==b):=by
 by_cases e:a=b
 . subst e;simp
 . have h:¬(Sum.inl a:Key)=Sum.inl b:=λq=>e (Sum.inl.inj q)
   rw[decide_eq_false h];exact(beq_eq_false_iff_ne.mpr e).symm
theorem U9(a b):decide ((Sum.inr a:Key)=Sum.inr b)=decide (a=b):=by
 by_cases e:a=b
 . subst e;simp
 . have h:¬(Sum.inr a:Key)=Sum.inr b:=λq=>e (Sum.inr.inj q)
   rw[decide_eq_false h,decide_eq_false e]
theorem Vb(a)(b):decide ((Sum.inl a:Key)=Sum.inr b)=false:=decide_eq_false (λq=>nomatch q)
theorem Va(a)(b):decide ((Sum.inr a:Key)=Sum.inl b)=false:=decide_eq_false (λq=>nomatch q)
noncomputable def eM (prog:Program)(w:World):PySem.KeyKind prog w Key where
 is:=jv
 hash:=Dp w
 inj:=λv a b ha hb=>by
  rcases iJ ha with⟨i,t,rfl,rfl⟩|⟨x,t,rfl,rfl⟩
  . rcases iJ hb with⟨j,u,rfl,e⟩|⟨y,u,rfl,e⟩
    . injection e with e1 _;rw[e1]
    . exact nomatch e
  . rcases iJ hb with⟨j,u,rfl,e⟩|⟨y,u,rfl,e⟩
    . exact nomatch e
    . injection e with e1 _;rw[e1]
 byValue:=λk v h=>by
  rcases iJ h with⟨i,t,rfl,rfl⟩|⟨x,t,rfl,rfl⟩<;>rfl
 pyHash:=λhv h=>by
  rcases iJ hv with⟨i,t,rfl,rfl⟩|⟨x,t,rfl,rfl⟩
  . exact wpAny_pyHash_int h
  . exact wpAny_pyHash_str h
 eqBool:=λhu hv h=>by
  rcases iJ hu with⟨i,t,rfl,rfl⟩|⟨x,t,rfl,rfl⟩
  . rcases iJ hv with⟨j,u,rfl,rfl⟩|⟨y,u,rfl,rfl⟩
    . rw[Vc]at h;exact wpAny_eqBool_int h
    . rw[Vb]at h;exact SeqAt.EqAt.int_str i t y u _ _ _ _ h
  . rcases iJ hv with⟨j,u,rfl,rfl⟩|⟨y,u,rfl,rfl⟩
    . rw[Va]at h;exact SeqAt.EqAt.str_int x t j u _ _ _ _ h
    . rw[U9]at h;exact wpAny_eqBool_str h
 «strs»:=λk x t v h=>by
  rcases iJ h with⟨i,u,rfl,e⟩|⟨y,u,rfl,e⟩
  . exact nomatch e
  . injection e with e1 _
    subst e1;cases v<;>rfl
theorem OW(prog)(w)(i)(t):(eM prog w).is (.inl i) (.int i t)=true:=QH i t
theorem Er(prog)(w)(x)(t):(eM prog w).is (.inr x) (.str x t)=true:=QG x t
inductive V where
 |ak|bl (b:Bool)|int (i:Int)|str (x:Str)|va (b:Array UInt8)|kU (b:UInt64)|ref (a:Addr)|ty (n:String)
 deriving DecidableEq
abbrev LV:=List V
def RelV:V->Value->Prop
 | .ak,u=>u=Value.none
 | .bl b,u=>u=Value.bool b
 | .int i,u=>∃t,u=Value.int i t
 | .str x,u=>∃t,u=Value.str x t
 | .va b,u=>∃t,u=Value.bytes b t
 | .kU b,u=>∃t,u=Value.float b t
 | .ref a,u=>u=Value.ref a
 | .ty n,u=>u=Value.type n
abbrev Vals:LV->au->Prop:=Paired RelV
theorem Vals.length{us:au}(r:Vals xs us):xs.length=us.length:=Paired.length r
theorem Vals.get:∀{xs:LV} {us:au} {i:Nat} {x:V},Vals xs us->xs[i]? =some x->∃u,us[i]? =some u/\RelV x u
 |_,_,_,_,.nil,e=>by simp at e
 |_,_,0,_,.cons r _,e=>by simp at e;subst e;exact⟨_,rfl,r⟩
 |_,_,i+1,x,.cons _ t,e=>by
  obtain⟨u,h1,h2⟩:=Vals.get (i:=i) (x:=x) t (by simpa using e)
  exact⟨u,by simpa using h1,h2⟩
theorem Vals.set{x:V}(r:RelV x u):∀{xs:LV} {us:au} (i:Nat),Vals xs us->Vals (xs.set i x) (us.set i u)
 |_,_,_,.nil=>.nil
 |_,_,0,.cons _ t=>.cons r t
 |_,_,i+1,.cons q t=>.cons q (Vals.set r i t)
theorem Vals.append:∀{xs ys:LV} {us ws:au},Vals xs us->Vals ys ws->Vals (xs++ys) (us++ws)
 |_,_,_,_,.nil,s=>s
 |_,_,_,_,.cons r t,s=>.cons r (Vals.append t s)
theorem Vals.take:∀{xs:LV} {us:au} (n:Nat),Vals xs us->Vals (xs.take n) (us.take n)
 |_,_,0,_=>.nil
 |_,_,_+1,.nil=>.nil
 |_,_,n+1,.cons r t=>.cons r (Vals.take n t)
theorem Vals.drop:∀{xs:LV} {us:au} (n:Nat),Vals xs us->Vals (xs.drop n) (us.drop n)
 |_,_,0,r=>r
 |_,_,_+1,.nil=>.nil
 |_,_,n+1,.cons _ t=>Vals.drop n t
def bN:Option V->cR->Prop
 |some v,some u=>RelV v u
 |none,none=>True
 |_,_=>False
def KV:List (κ×V)->List (κ×Value)->Prop:=Paired λ(p:κ×V) (q:κ×Value)=>p.1=q.1/\RelV p.2 q.2
def kV:Key->V
 | .inl i=>.int i
 | .inr x=>.str x
abbrev bM:=Option Key
def oV:bM->V
 |none=>.ak
 |some k=>kV k
def AQ:Option Key->Value->Bool
 |none,.none=>true
 |none,_=>false
 |some k,v=>jv k v
def LW(w:World):Option Key->Int
 |none=>0xFCA86420
 |some k=>Dp w k
theorem k9:∀{k:Option Key} {v:Value},AQ k v=true->(k=none/\v=Value.none)∨∃j,k=some j/\jv j v=true
 |none,v,h=>by cases v<;>first|exact .inl ⟨rfl,rfl⟩|(simp[AQ]at h)
 |some k,v,h=>.inr ⟨k,rfl,h⟩
theorem EI:jv k Value.none=false:=by cases k<;>rfl
section
variable {prog:Program}{w:World}{A:Around}{E:aP}{s:Shared}
theorem Q9(h:Q 0xFCA86420 { s with toks:=s.toks+1 }):wpAny (model prog w) A (PySem.pyHash .none) Q E s:=by
 have I:s.TypeIs .none "NoneType":=rfl;unfold PySem.pyHash;have J:[Value.none].any Value.onHeap=false:=rfl;refine wpAny_bind ?_;rw[cRoomFor,if_neg (by rw[J];exact iE)];refine wpAny_pure ?_
 refine wpAny_bind (wpAny_specialOf I F.slot_NoneType_hash.lookup ?_);show wpAny _ _ (if(some (Value.builtin "NoneType.__hash__")==some Value.none)=true then _ else _) Q E s
 rw[if_neg (by rw[beq_builtin_none];exact iE)]
 refine wpAny_bind (wpAny_specialOf I F.slot_NoneType_hash.lookup ?_);show wpAny _ _ (callSpecialIfBoundUnlessNone? .none "__hash__" _ >>= _) Q E s;refine wpAny_bind (wpAny_callSpecialIfBoundUnlessNone?_slot I F.slot_NoneType_hash
  (wpAny_call_entry F.slot_NoneType_hash I F.entry_NoneType_hash
   (show wpAny _ _ (do ret (<-mkInt 0xFCA86420)) _ _ s from wpAny_ret_mkInt ?_) (F.args_NoneType_hash_1 _)))
 show wpAny _ _ (if(decide (-(2:Int) ^ 63<=0xFCA86420)&&decide ((0xFCA86420:Int)<2 ^ 63))=true then _ else _) Q E _
 rw[if_pos (by decide)]
 exact wpAny_pure h
end
noncomputable def optKind (prog:Program)(w:World):PySem.KeyKind prog w (Option Key) where
 is:=AQ
 hash:=LW w
 inj:=λv a b ha hb=>by
  rcases k9 ha with⟨rfl,rfl⟩|⟨j,rfl,hj⟩
  . rcases k9 hb with⟨rfl,_⟩|⟨i,rfl,hi⟩
    . rfl
    . rw[EI]at hi;cases hi
  . rcases k9 hb with⟨rfl,rfl⟩|⟨i,rfl,hi⟩
    . rw[EI]at hj;cases hj
    . rw[(eM prog w).inj v j i hj hi]
 byValue:=λk v h=>by
  rcases k9 h with⟨rfl,rfl⟩|⟨j,rfl,hj⟩
  . rfl
  . exact(eM prog w).byValue j v hj
 pyHash:=λhv h=>by
  rcases k9 hv with⟨rfl,rfl⟩|⟨j,rfl,hj⟩
  . exact Q9 h
  . exact(eM prog w).pyHash hj h
 eqBool:=λ{A E s a b u v Q} hu hv h=>by
  rcases k9 hu with⟨rfl,rfl⟩|⟨i,rfl,hi⟩
  . rcases k9 hv with⟨rfl,rfl⟩|⟨j,rfl,hj⟩
    . exact SeqAt.EqAt.same _ _ _ _ _ (by simpa using h)
    . have e:decide ((none:Option Key)=some j)=false:=decide_eq_false (λq=>nomatch q)
      rw[e]at h;rcases iJ hj with⟨k,t,rfl,rfl⟩|⟨x,t,rfl,rfl⟩
      . exact SeqAt.EqAt.none_int k t _ _ _ _ h
      . exact SeqAt.EqAt.none_str x t _ _ _ _ h
  . rcases k9 hv with⟨rfl,rfl⟩|⟨j,rfl,hj⟩
    . have e:decide ((some i:Option Key)=none)=false:=decide_eq_false (λq=>nomatch q)
      rw[e]at h;rcases iJ hi with⟨k,t,rfl,rfl⟩|⟨x,t,rfl,rfl⟩
      . exact SeqAt.EqAt.int_none k t _ _ _ _ h
      . exact SeqAt.EqAt.str_none x t _ _ _ _ h
    . have e:decide (some i=some j)=decide (i=j):=by
       by_cases q:i=j
       . subst q;simp
       . rw[decide_eq_false q,decide_eq_false λz=>q (Option.some.inj z)]
      rw[e]at h;exact(eM prog w).eqBool hi hj h
 «strs»:=λk x t v h=>by
  rcases k9 h with⟨rfl,e⟩|⟨j,rfl,hj⟩
  . cases e
  . exact(eM prog w).strs j x t v hj
inductive HO where
 |lst (xs:LV)
 |tup (xs:LV)
 |dK (kvs:List (Key×V))|dT (kvs:List (List bM×V))
 |set (S:Int->Bool) (n:Nat)
 |ins (C dx:Addr) (fs:List (Str×V))
 |own (x:Addr)
 |xd (fs:List (Str×V))
 |met (f x:Addr)
 |yc (lo hi:Int)
 |aV (o:Obj) (u:HO)
 |mV (ps:Array Value)
 |ext (φ:Heap->Prop)
abbrev Hp:=Addr->Option HO
def upd(H:Hp)(a:Addr)(o:HO):Hp:=λb=>if b=a then some o else H b
theorem bQ{a:Addr}:upd H a o a=some o:=by unfold upd;rw[if_pos rfl]
theorem aq{a b:Addr}(h:b≠a):upd H a o b=H b:=by unfold upd;rw[if_neg h]
theorem Tc{a:Addr}:upd (upd H a o) a u=upd H a u:=by
 funext b;unfold upd;split<;>rfl
theorem jh{H:Hp}{a b:Addr}{o u:HO}(h:H a=some o)(h':H b=some u)(d:o≠u):a≠b:=by
 intro e;subst e;rw[h]at h';exact d (Option.some.inj h')
theorem fF{H:Hp}{a b:Addr}{o:HO}(h:H a=some o)(h':H b=none):a≠b:=by
 intro e;subst e;rw[h]at h';cases h'
section
variable(P:Program)(w:World)
noncomputable def aD (H:Hp)(h:Heap)(a:Addr):HO->Prop
 | .lst xs=>xs.length<=sizeLine/\∃(ae:au) (n:Nat),Vals xs ae/\h.get? a=some { cls:=.type "list",data:=.seq ae.toArray n }
 | .tup xs=>xs.length<=sizeLine/\∃ae:au,Vals xs ae/\IsTup h a ae.toArray
 | .dK kvs=>kvs.length<=sizeLine/\(a==sysModules)=false/\∃vs,KV kvs vs/\h.DictOf (eM P w) a vs
 | .dT kvs=>kvs.length<=sizeLine/\(a==sysModules)=false/\∃xs:List (List bM×Addr×Value),
  Paired (λ(p:List bM×V) (q:List bM×Addr×Value)=>p.1=q.1/\H q.2.1=some (.tup (p.1.map oV))/\RelV p.2 q.2.2) kvs xs/\
  ∃o es ep,h.get? a=some o/\o.ExactDict/\o.data= .dict es ep/\es.toList=xs.map (entryOfKey (tupleKind (optKind P w)))/\(xs.map (·.1)).Nodup
 | .set S n=>h.SetOf (intKind P w) a S n
 | .ins C dx fs=>H dx=some (.own a)/\fs.length<=1000/\dx≠a/\h.get? a=some (m8 C dx)/\
  ∃mA,h.Ns1 dx mA/\(∀f,bN (fs.lookup f) (mA f))/\PySem.Within mA (fs.map (·.1))
 | .own _=>∃o,h.get? a=some o
 | .xd fs=>∃mA,h.Ns1 a mA/\∀f,bN (fs.lookup f) (mA f)
 | .yc lo hi=>∃t u v,h.get? a=some { cls:=.type "range",data:=.fields #[.int lo t,.int hi u,.int 1 v] }
 | .aV o u=>h.get? a=some o/\aD H h a u
 | .mV ps=>h.get? a=some { cls:=.none,data:=.fields ps }
 | .met f x=>h.get? a=some (PySem.W.methodObj (.ref f) (.ref x))
 | .ext φ=>φ h/\(∃o,h.get? a=some o)/\∀h1 h2:Heap,φ h1->(∀o,h1.get? a=some o->h2.get? a=some o)->φ h2
def cJ(H:Hp)(h:Heap):Prop:=∀a o,H a=some o->aD P w H h a o
end
section
variable {P:Program}{w:World}{H H':Hp}{h h':Heap}{a:Addr}{o:HO}
theorem aD.lt(x:aD P w H h a o):a<h.objs.size:=by
 cases o with
 |lst xs=>obtain⟨_,_,_,_,e⟩:=x;exact bG e
 |tup xs=>obtain⟨_,_,_,p⟩:=x;exact p.lt
 |dK kvs=>obtain⟨_,_,_,_,o,_,_,e,_⟩:=x;exact bG e
 |dT kvs=>obtain⟨_,_,_,_,o,_,_,e,_⟩:=x;exact bG e
 |set S n=>obtain⟨o,_,_,_,e,_⟩:=x;exact bG e
 |ins C dx fs=>obtain⟨_,_,_,e,_⟩:=x;exact bG e
 |own y=>obtain⟨_,e⟩:=x;exact bG e
 |xd fs=>obtain⟨_,⟨_,_,_,e,_⟩,_⟩:=x;exact bG e
 |yc lo hi=>obtain⟨_,_,_,e⟩:=x;exact bG e
 |aV ob u=>obtain⟨e,_⟩:=x;exact bG e
 |mV ps=>exact bG (show h.get? a=some _ from x)
 |met f y=>exact bG (show h.get? a=some _ from x)
 |ext φ=>obtain⟨_,⟨_,e⟩,_⟩:=x;exact bG e
theorem Paired.ou{F G:α->β->Prop}:∀{I:List α} {l₂:List β},Paired F I l₂->(∀a b,F a b->G a b)->Paired G I l₂
 |_,_,.nil,_=>.nil
 |_,_,.cons r t,f=>.cons (f _ _ r) (Paired.ou t f)
theorem aD.fu(x:aD P w H h a o)(k:∀b u,(b=a∨H b=some (.own a))->h.get? b=some u->h'.get? b=some u)
 (ho:∀b,H b=some (.own a)->H' b=some (.own a)) (Y:∀b xs,H b=some (.tup xs)->H' b=some (.tup xs)):aD P w H' h' a o:=by
 induction o with
 |lst xs=>obtain⟨z,ae,n,r,e⟩:=x;exact⟨z,ae,n,r,k _ _ (.inl rfl) e⟩
 |tup xs=>obtain⟨z,ae,r,ob,e,c⟩:=x;exact⟨z,ae,r,ob,k _ _ (.inl rfl) e,c⟩
 |dK kvs=>obtain⟨z,y,vs,r,ob,es,ep,e,c⟩:=x;exact⟨z,y,vs,r,ob,es,ep,k _ _ (.inl rfl) e,c⟩
 |dT kvs=>
  obtain⟨z,y,xs,r,ob,es,ep,e,c⟩:=x;exact⟨z,y,xs,Paired.ou r λp q z=>⟨z.1,Y _ _ z.2.1,z.2.2⟩,ob,es,ep,k _ _ (.inl rfl) e,c⟩
 |set S n=>obtain⟨ob,es,ep,t,e,c⟩:=x;exact⟨ob,es,ep,t,k _ _ (.inl rfl) e,c⟩
 |ins C dx fs=>
  obtain⟨d,z,ne,e,mA,⟨I,es,ep,J,c⟩,r⟩:=x;exact⟨ho _ d,z,ne,k _ _ (.inl rfl) e,mA,⟨I,es,ep,k _ _ (.inr d) J,c⟩,r⟩
 |own y=>obtain⟨ob,e⟩:=x;exact⟨ob,k _ _ (.inl rfl) e⟩
 |xd fs=>obtain⟨mA,⟨I,es,ep,e,c⟩,r⟩:=x;exact⟨mA,⟨I,es,ep,k _ _ (.inl rfl) e,c⟩,r⟩
 |yc lo hi=>obtain⟨t,u,v,e⟩:=x;exact⟨t,u,v,k _ _ (.inl rfl) e⟩
 |aV ob u ih=>obtain⟨e,q⟩:=x;exact⟨k _ _ (.inl rfl) e,ih q⟩
 |mV ps=>
  have e:h.get? a=some { cls:=.none,data:=.fields ps }:=x;show h'.get? a=some { cls:=.none,data:=.fields ps };exact k a _ (.inl rfl) e
 |met f y=>
  have e:h.get? a=some (PySem.W.methodObj (.ref f) (.ref y)):=x;show h'.get? a=some (PySem.W.methodObj (.ref f) (.ref y));exact k a _ (.inl rfl) e
 |ext φ=>obtain⟨p,⟨o,e⟩,st⟩:=x;exact⟨st _ _ p λo q=>k _ _ (.inl rfl) q,⟨o,k _ _ (.inl rfl) e⟩,st⟩
theorem cJ.lt(x:cJ P w H h)(e:H a=some o):a<h.objs.size:=(x a o e).lt
theorem cJ.fresh(x:cJ P w H h)(e:h.objs.size<=a):H a=none:=by
 cases q:H a with
 |none=>rfl
 |some u=>exact absurd (eF (x.lt q) e) (lW _)
theorem cJ.kept(x:cJ P w H h)(k:∀b u,h.get? b=some u->h'.get? b=some u):cJ P w H h':=λa o e=>
 (x a o e).fu (λb u _ q=>k b u q) (λ_ q=>q) λ_ _ q=>q
theorem cJ.laid(x:cJ P w H h)(k:∀b u,h.get? b=some u->h'.get? b=some u)(hp:h.objs.size<=a)(new:aD P w (upd H a o) h' a o):cJ P w (upd H a o) h':=λb u e=>by
 have hn:=x.fresh hp
 by_cases hb:b=a
 . subst hb;rw[bQ]at e;cases e;exact new
 . rw[aq hb]at e
   exact(x b u e).fu (λc v _ q=>k c v q) (λc q=>by rw[aq (fF q hn)];exact q) λc xs q=>by rw[aq (fF q hn)];exact q
end
def Rd(H:Hp)(a:Addr)(u:HO):Prop:=H a=some u∨∃o,H a=some (.aV o u)
theorem Rd.ok{P:Program}{w:World}{a:Addr}(r:Rd H a u)(x:cJ P w H h):aD P w H h a u:=by
 rcases r with r|⟨o,r⟩
 . exact x a u r
 . obtain⟨_,q⟩:=x a _ r
   exact q
def rA:Option HO->Prop
 |some (.lst _)=>True
 |some (.dK _)=>True
 |some (.dT _)=>True
 |some (.set _ _)=>True
 |some (.ins _ _ _)=>True
 |some (.ext _)=>True
 |_=>False
section
variable {P:Program}{w:World}{H:Hp}{h h':Heap}{x e:Addr}{o':HO}
theorem cJ.write(ok:cJ P w H h)(mu:rA (H x))(he:e=x∨H e=some (.own x))(k:∀b u,b≠e->h.get? b=some u->h'.get? b=some u)(heo:∃u,h'.get? e=some u)
 (new:aD P w (upd H x o') h' x o'):cJ P w (upd H x o') h':=λb u q=>by
 have J:∀c y,H c=some (.own y)->c≠x:=λc y r z=>by subst z;rw[r]at mu;exact mu
 have W:∀c xs,H c=some (.tup xs)->c≠x:=λc xs r z=>by subst z;rw[r]at mu;exact mu
 by_cases Y:b=x
 . subst Y;rw[bQ]at q;cases q;exact new
 . rw[aq Y]at q
   by_cases I:b=e
   . have q':H b=some (.own x):=by
      rcases he with z|z
      . exact absurd (I.trans z) Y
      . rw[I];exact z
     rw[q]at q';cases q';obtain⟨v,hv⟩:=heo;exact⟨v,by rw[I];exact hv⟩
   . refine(ok b u q).fu (λc v Z r=>k c v ?_ r) (λc r=>by rw[aq (J c b r)];exact r) λc xs r=>by rw[aq (W c xs r)];exact r
     rcases Z with rfl|Z
     . exact I
     . rintro rfl
       rcases he with z|z
       . exact J c b Z z
       . rw[Z]at z;cases z;exact Y rfl
end
structure Un(fs ex:List Addr)(H H':Hp)(h h':Heap):Prop where
 keep:∀b o,h.get? b=some o->H b=none->b∉fs->b∉ex->h'.get? b=some o
 slot:∀b o,h.get? b=some o->H b=none->b∈fs->b∉ex->∃sl,h'.get? b=some { o with slots:=sl }
 free:∀b o,h.get? b=some o->H b=none->b∉ex->H' b=none
 there:∀b o,h.get? b=some o->b∉ex->∃o',h'.get? b=some o'
 bh:∀b xs,H b=some (.tup xs)->H' b=some (.tup xs)
 aI:∀b o u,H b=some (.aV o u)->H' b=some (.aV o u)
 eO:∀b ps,H b=some (.mV ps)->∃more,H' b=some (.mV (ps++more))
section
variable {fs fs' ex ex':List Addr}{H H1 H2:Hp}{h h1 h2 h':Heap}{a x e:Addr}{o:HO}
theorem Un.any(u:Un fs ex H H1 h h1){b:Addr}{ob:Obj}(q:h.get? b=some ob)(n:H b=none)(hx:b∉ex):∃sl,h1.get? b=some { ob with slots:=sl }:=by
 by_cases I:b∈fs
 . exact u.slot b ob q n I hx
 . exact⟨ob.slots,u.keep b ob q n I hx⟩
theorem Un.kept(k:∀b u,h.get? b=some u->h'.get? b=some u):Un fs ex H H h h':=
 ⟨λb ob q _ _ _=>k b ob q,λb ob q _ _ _=>⟨ob.slots,k b ob q⟩,λ_ _ _ n _=>n,λb ob q _=>⟨ob,k b ob q⟩,λ_ _ q=>q,λ_ _ _ q=>q,λ_ ps q=>⟨#[],by rw[q];simp⟩⟩
theorem Un.refl:Un fs ex H H h h:=Un.kept λ_ _ q=>q
theorem Un.laid(k:∀b u,h.get? b=some u->h'.get? b=some u)(hp:h.objs.size<=a)(hn:H a=none):Un fs ex H (upd H a o) h h' where
 keep:=λb u q _ _ _=>k b u q
 slot:=λb u q _ _ _=>⟨u.slots,k b u q⟩
 free:=λb u q n _=>by rw[aq (cW (eF (bG q) hp))];exact n
 there:=λb u q _=>⟨u,k b u q⟩
 bh:=λb xs q=>by rw[aq (fF q hn)];exact q
 aI:=λb u xs q=>by rw[aq (fF q hn)];exact q
 eO:=λb ps q=>⟨#[],by rw[aq (fF q hn),q];simp⟩
theorem Un.write(mu:rA (H x))(Z:e=x∨H e=some (.own x))(k:∀b u,b≠e->h.get? b=some u->h'.get? b=some u)(J:∃u,h'.get? e=some u):Un fs ex H (upd H x o) h h':=by
 have hx:∀b,H b=none->b≠x:=λb n z=>by subst z;rw[n]at mu;exact mu
 have Y:∀b,H b=none->b≠e:=λb n z=>by
  subst z;rcases Z with r|r
  . exact hx b n r
  . rw[n]at r;cases r
 have W:∀b u,H b=some u->¬rA (some u)->b≠x:=λb u q nm z=>by subst z;rw[q]at mu;exact nm mu
 refine⟨λb u q n _ _=>k b u (Y b n) q,λb u q n _ _=>⟨u.slots,k b u (Y b n) q⟩,λb u q n _=>by rw[aq (hx b n)];exact n,λb u q _=>?_,
  λb xs q=>by rw[aq (W b _ q λz=>z)];exact q,λb u xs q=>by rw[aq (W b _ q λz=>z)];exact q,λb ps q=>⟨#[],by rw[aq (W b _ q λz=>z),q];simp⟩⟩
 by_cases I:b=e
 . subst I;exact J
 . exact⟨u,k b u I q⟩
end
def ye(h:Heap)(H:Hp):List Addr:=(List.range h.objs.size).filter λa=>(H a).isSome
def iu(h:Heap)(H:Hp):Heap:=PySem.W.hideAll h (ye h H)
theorem Fh(h)(H):(iu h H).objs.size=h.objs.size:=PySem.W.hideAll_size _ _
theorem zp{h:Heap}{b:Addr}(e:h.get? b=some o)(n:H b=none):(iu h H).get? b=some o:=
 PySem.W.hideAll_get _ e λhm=>by
  have q:(H b).isSome=true:=(cH.mp hm).2;rw[n]at q;simp at q
theorem GP{b:Addr}(e:(iu h H).get? b=some o):h.get? b=some o/\H b=none:=by
 have I:h.get? b=some o:=PySem.W.of_hideAll (ye h H) e;refine⟨I,?_⟩;cases q:H b with
 |none=>rfl
 |some x=>
  have J:b∈ye h H:=cH.mpr ⟨rf.mpr (bG I),by simp[q]⟩
  have z:(iu h H).get? b=none:=PySem.W.hideAll_none (ye h H) J;rw[z]at e;cases e
def xf(g h:Heap)(L:Addr):aG:=(List.range h.objs.size).filterMap λa=>if a=L∨(g.get? a).isSome=true then none else(h.get? a).map λo=>(a,o)
theorem OX{g h:Heap}{L a:Addr}(h1:a≠L)(h2:g.get? a=none)(I:h.get? a=some o):(a,o)∈xf g h L:=
 uM.mpr ⟨a,rf.mpr (bG I),by simp[h1,h2,I]⟩
theorem Om{g h:Heap}{p:Addr×Obj}(J:p∈xf g h L):p.1≠L/\g.get? p.1=none/\h.get? p.1=some p.2:=by
 obtain⟨b,_,e⟩:=uM.mp J;split at e
 . cases e
 . rename_i I
   cases q:h.get? b with
   |none=>rw[q]at e;simp at e
   |some u=>
    rw[q]at e;simp only[Option.map_some,Option.some.injEq]at e;subst e;refine⟨λz=>I (.inl z),?_,q⟩
    show g.get? b=none;cases r:g.get? b with
    |none=>rfl
    |some v=>exact(I (.inr (by simp[r]))).elim
def rest(g h:Heap)(L d:Addr):aG:=(xf g h L).filter λp=>decide (p.1≠d)
theorem FC{g h:Heap}{L d a:Addr}(h1:a≠L)(h2:g.get? a=none)(I:h.get? a=some o)(J:a≠d):(a,o)∈rest g h L d:=
 cH.mpr ⟨OX h1 h2 I,decide_eq_true J⟩
theorem Rv{g h:Heap}:News g L h (xf g h L):=λp I=>let⟨a,b,c⟩:=Om I;⟨c,a,b⟩
theorem Ej{g h h':Heap}(k:∀b o,g.get? b=some o->h.get? b=some o)(F:Fr g L h' m)(N:News g L h' (rest g h L d)):
 ∀b o,b≠L->b≠d->h.get? b=some o->h'.get? b=some o:=λb o h1 h2 e=>by
 cases q:g.get? b with
 |some u=>
  have:=k b u q;rw[e]at this;cases this;exact F.keep b _ q
 |none=>exact(N (b,o) (FC h1 q e h2)).1
structure Mod(K:ag)(mg:bq)(base:Heap):Prop where
 js:K.In base
 glob:base.Ns mainGlobals mg
 blt:∃mb,base.Ns builtinsNs mb/\∀x:Str,x≠"__name__"->mb x=bootBuiltins x
 nolimit:base.NoLimit
structure Cx where
 prog:Program
 w:World
 K:ag
 mg:bq
 base:Heap
 A:Around
 N:az
 s₀:Shared
 H₀:Hp
 env:Env
 outer:List Env
 stack:List Env
 ex:List Addr
 fn:Str->Bool
 calm:Bool
 pn:aG
 xe:aP
def hW(l:List Env):List Addr:=l.filterMap (·.frame)
abbrev Cx.fs(X:Cx):List Addr:=hW X.outer
def pU(sc:Scope)(x:Str):Prop:=sc.names.lookup x=some .local∨sc.names.lookup x=some .cell∨sc.names.lookup x=some .free
def Loc(sc:Scope)(x:Str):Prop:=sc.names.lookup x=some .local∨sc.names.lookup x=some .cell
def Look(env:Env)(h:Heap)(m:bq)(x:Str)(u:Value):Prop:=
 (env.kindOf x=some .local/\m x=some u)∨((env.kindOf x=some .cell∨env.kindOf x=some .free)/\∃c,env.cells.lookup x=some c/\h.IsCell c (some u))
structure Cx.Ok(X:Cx):Prop where
 mod:Mod X.K X.mg X.base
 kind:X.env.scope.kind= .function
 glob:X.env.globals=mainGlobals
 blt:X.env.builtins=builtinsNs
 above:X.s₀.heap.objs.size<=X.env.locals
 inj:∀x y c,X.env.cells.lookup x=some c->X.env.cells.lookup y=some c->x=y
 has:∀x,(X.env.kindOf x=some .cell∨X.env.kindOf x=some .free)->∃c,X.env.cells.lookup x=some c
 pW:∀x c,X.fn x=true->X.env.cells.lookup x=some c->X.s₀.heap.objs.size<=c
 hd:X.calm=true->X.A.handled=none
 frames:X.A.frames=some X.stack
 uF:X.stack=X.outer∨(X.stack=X.env::X.outer/\X.env.frame=some X.env.locals)
 rK:∀b∈X.ex,b≠X.env.locals/\∀x c,X.env.cells.lookup x=some c->c≠b
 bs:∀b o,X.base.get? b=some o->X.s₀.heap.get? b=some o/\X.H₀ b=none
 iY:X.base.objs.size<=X.s₀.heap.objs.size
 ib:∀b o,X.base.get? b=some o->b∉X.ex
 hR:∀b∈X.ex,b∉X.fs
 d0:X.s₀.heap.FunFrames X.base X.outer
 ma:∀b∈X.fs,X.H₀ b=none
structure Inv(X:Cx)(pins:aG)(σ:List (Option V))(H:Hp)(s:Shared):Prop where
 ok:X.Ok
 os:s.os=X.s₀.os
 bare:AllBare s.gens
 base:Un X.fs X.ex X.H₀ H X.s₀.heap s.heap
 loc:∃m,s.heap.Ns X.env.locals m/\∀(i:Nat) (x:Str) (v:V),X.N[i]? =some x->σ[i]? =some (some v)->pU X.env.scope x->∃u,RelV v u/\Look X.env s.heap m x u
 cell:∀x c,X.env.cells.lookup x=some c->∃v,s.heap.IsCell c v
 free:H X.env.locals=none
 bP:∀x c,X.env.cells.lookup x=some c->H c=none
 pin:∀p∈X.pn++pins,s.heap.get? p.1=some p.2/\H p.1=none/\p.1≠X.env.locals/\p.1∉X.fs/\∀v,p.2.data≠.cell v
 av:cJ X.prog X.w H s.heap
 len:σ.length=X.N.length
section
variable {X:Cx}{pins:aG}{σ:List (Option V)}{H H':Hp}{s:Shared}{h':Heap}
theorem Cx.Ok.yS(ok:X.Ok){b:Addr}(e:X.base.get? b=some o):b∉X.fs:=λhb=>by
 have:=(ok.d0.mem hb).1;rw[e]at this;cases this
theorem Inv.bs(I:Inv X pins σ H s):∀b o,X.base.get? b=some o->s.heap.get? b=some o/\H b=none:=λb o e=>
 ⟨I.base.keep b o (I.ok.bs b o e).1 (I.ok.bs b o e).2 (I.ok.yS e) (I.ok.ib b o e),I.base.free b o (I.ok.bs b o e).1 (I.ok.bs b o e).2 (I.ok.ib b o e)⟩
theorem Inv.bk(I:Inv X pins σ H s):∀b o,X.base.get? b=some o->s.heap.get? b=some o:=λb o e=>(I.bs b o e).1
theorem Inv.mod(I:Inv X pins σ H s):Mod X.K X.mg X.base:=I.ok.mod
theorem Inv.et(I:Inv X pins σ H s):X.K.In s.heap:=I.ok.mod.js.keeps I.bk
theorem Inv.fr(I:Inv X pins σ H s):∃m,Fr X.base X.env.locals s.heap m:=
 let⟨m,hn,_⟩:=I.loc
 ⟨m,hn,I.bk,dJ I.ok.iY I.ok.above⟩
theorem Inv.lt(I:Inv X pins σ H s):X.env.locals<s.heap.objs.size:=let⟨_,hn,_⟩:=I.loc;hn.lt
theorem Inv.sz(I:Inv X pins σ H s):X.s₀.heap.objs.size<=s.heap.objs.size:=dJ I.ok.above (Nat.le_of_lt I.lt)
theorem Inv.rU(I:Inv X pins σ H s){a:Addr}(h:s.heap.objs.size<=a):a∉X.fs:=λhb=>by
 obtain⟨_,o,ho,_⟩:=I.ok.d0.mem hb;exact absurd (eF (bG ho) (dJ I.sz h)) (lW _)
theorem Inv.nq(I:Inv X pins σ H s):∀x c,X.env.cells.lookup x=some c->c≠X.env.locals:=λx c e z=>by
 obtain⟨v,o,ho,hd⟩:=I.cell x c e;obtain⟨m,⟨o',es,ep,W,J,_⟩,_⟩:=I.loc;rw[z,W]at ho;cases ho;rw[J]at hd;cases hd
theorem Inv.d0(I:Inv X pins σ H s):s.heap.FunFrames X.base X.outer:=by
 have J:∀(l:List Env),(∀b∈hW l,b∈X.fs)->X.s₀.heap.FunFrames X.base l->s.heap.FunFrames X.base l:=by
  intro l
  induction l with
  |nil=>intro _ _;trivial
  |cons env r ih=>
   intro hs hl;obtain⟨hk,⟨L,o,Z,hn,ho,hd⟩,hr⟩:=hl;have W:L∈X.fs:=hs L (by unfold hW;rw[List.filterMap_cons,Z];exact iC)
   obtain⟨sl,e⟩:=I.base.slot L o ho (I.ok.ma L W) W λz=>I.ok.hR L z W
   exact⟨hk,⟨L,_,Z,hn,e,hd⟩,ih (λb Y=>hs b (by unfold hW;rw[List.filterMap_cons,Z];exact gA _ Y)) hr⟩
 exact J X.outer (λ_ Y=>Y) I.ok.d0
theorem Inv.stack(I:Inv X pins σ H s):s.heap.FunFrames X.base X.stack:=by
 rcases I.ok.uF with e|⟨e,J⟩
 . rw[e];exact I.d0
 . rw[e]
   obtain⟨m,W,_⟩:=I.loc;refine .cons (by rw[I.ok.kind];decide) J W ?_ I.d0
   exact Heap.get?_none_of_le (dJ I.ok.iY I.ok.above)
theorem Inv.fU(I:Inv X pins σ H s):∀b∈hW X.stack,b∈X.env.locals::X.fs:=λb J=>by
 rcases I.ok.uF with e|⟨e,W⟩
 . rw[e]at J;exact gA _ J
 . rw[e]at J
   unfold hW at J;rw[List.filterMap_cons,W]at J;exact J
theorem Inv.fT(I:Inv X pins σ H s):∀b∈hW X.stack,H b=none:=λb J=>by
 rcases cj.mp (I.fU b J)with e|J
 . rw[e];exact I.free
 . obtain⟨_,o,ho,_⟩:=I.ok.d0.mem J
   exact I.base.free b o ho (I.ok.ma b J) λz=>I.ok.hR b z J
theorem Inv.step{ch:List Addr}(I:Inv X pins σ H s)
 (W:∀b∈ch,(b∈X.ex∨X.s₀.heap.objs.size<=b)/\b≠X.env.locals/\(∀x c,X.env.cells.lookup x=some c->c≠b)/\∀p∈X.pn++pins,p.1≠b)
 (keep:∀b o,b≠X.env.locals->b∉X.fs->b∉ch->s.heap.get? b=some o->H b=none->h'.get? b=some o)
 (slot:∀b o,b≠X.env.locals->b∈X.fs->b∉ch->s.heap.get? b=some o->H b=none->∃sl,h'.get? b=some { o with slots:=sl }) (free:∀b o,b∉ch->s.heap.get? b=some o->H b=none->H' b=none)
 (there:∀b o,b∉ch->s.heap.get? b=some o->∃o',h'.get? b=some o')
 (bh:∀b xs,H b=some (.tup xs)->H' b=some (.tup xs)) (aI:∀b o u,H b=some (.aV o u)->H' b=some (.aV o u)) (eO:∀b ps,H b=some (.mV ps)->∃more,H' b=some (.mV (ps++more)))
 (ns:∀m,s.heap.Ns X.env.locals m->h'.Ns X.env.locals m) (av:cJ X.prog X.w H' h') (hg:AllBare g'):
 Inv X pins σ H' { s with heap:=h',gens:=g',drawn:=d',toks:=t' }:=by
 have neL:∀b o,X.s₀.heap.get? b=some o->b≠X.env.locals:=λb o e=>cW (eF (bG e) I.ok.above)
 have Z:∀b o,X.s₀.heap.get? b=some o->b∉X.ex->b∉ch:=λb o e hx hb=>by
  rcases(W b hb).1 with z|z
  . exact hx z
  . exact absurd (eF (bG e) z) (lW _)
 have J:∀x c,X.env.cells.lookup x=some c->∀v,s.heap.IsCell c v->h'.IsCell c v:=λx c e v ⟨o,ho,hd⟩=>by
  have Y:c∉ch:=λz=>(W c z).2.2.1 x c e rfl
  by_cases hc:c∈X.fs
  . obtain⟨sl,q⟩:=slot c o (I.nq x c e) hc Y ho (I.bP x c e)
    exact⟨_,q,hd⟩
  . exact⟨o,keep c o (I.nq x c e) hc Y ho (I.bP x c e),hd⟩
 refine⟨I.ok,I.os,hg,⟨λb o e n hb hx=>?_,λb o e n hb hx=>?_,λb o e n hx=>?_,λb o e hx=>?_,λb xs e=>bh b xs (I.base.bh b xs e),λb o xs e=>aI b o xs (I.base.aI b o xs e),λb ps e=>?_⟩,?_,λx c e=>?_,?_,λx c e=>?_,λp hp=>?_,av,I.len⟩
 . exact keep b o (neL b o e) hb (Z b o e hx) (I.base.keep b o e n hb hx) (I.base.free b o e n hx)
 . obtain⟨sl,e1⟩:=I.base.slot b o e n hb hx
   obtain⟨sl',e2⟩:=slot b _ (neL b o e) hb (Z b o e hx) e1 (I.base.free b o e n hx);exact⟨sl',e2⟩
 . obtain⟨o',e1⟩:=I.base.there b o e hx
   exact free b o' (Z b o e hx) e1 (I.base.free b o e n hx)
 . obtain⟨o',e1⟩:=I.base.there b o e hx
   exact there b o' (Z b o e hx) e1
 . obtain⟨m1,e1⟩:=I.base.eO b ps e
   obtain⟨m2,e2⟩:=eO b _ e1;exact⟨m1++m2,by rw[e2,Array.append_assoc]⟩
 . obtain⟨m,hn,hl⟩:=I.loc
   refine⟨m,ns m hn,λi x v e1 e2 e3=>?_⟩
   obtain⟨u,r,l⟩:=hl i x v e1 e2 e3;refine⟨u,r,?_⟩;rcases l with l|⟨k,c,e,z⟩
   . exact .inl l
   . exact .inr ⟨k,c,e,J x c e _ z⟩
 . obtain⟨v,z⟩:=I.cell x c e
   exact⟨v,J x c e v z⟩
 . obtain⟨m,⟨o,_,_,ho,_⟩,_⟩:=I.loc
   exact free _ o (λz=>(W _ z).2.1 rfl) ho I.free
 . obtain⟨v,o,ho,hd⟩:=I.cell x c e
   exact free c o (λz=>(W c z).2.2.1 x c e rfl) ho (I.bP x c e)
 . obtain⟨e,n,ne,nf,d⟩:=I.pin p hp
   have Y:p.1∉ch:=λz=>(W p.1 z).2.2.2 p hp rfl
   exact⟨keep p.1 p.2 ne nf Y e n,free p.1 p.2 Y e n,ne,nf,d⟩
theorem Inv.un(I:Inv X pins σ H s)(u:Un X.fs [] H H' s.heap h')(av:cJ X.prog X.w H' h'):Inv X pins σ H' { s with heap:=h',toks:=t' }:=by
 obtain⟨m,⟨o,es,ep,ho,r⟩,_⟩:=id I.loc;obtain⟨sl,hL⟩:=u.any ho I.free (by simp)
 exact I.step (g':=s.gens) (d':=s.drawn) (ch:=[]) (λ_ z=>nomatch z) (λb o _ Z _ e n=>u.keep b o e n Z (by simp)) (λb o _ Z _ e n=>u.slot b o e n Z (by simp)) (λb o _ e n=>u.free b o e n (by simp)) (λb o _ e=>u.there b o e (by simp)) u.bh u.aI u.eO (λm' hm=>by
  obtain⟨o',Y,W,J,r'⟩:=hm;rw[ho]at J;cases J;exact⟨_,Y,W,hL,r'⟩) av I.bare
theorem Inv.call{ch:List Addr}(I:Inv X pins σ H s)(u:Un (hW X.stack) ch H H' s.heap h')(av:cJ X.prog X.w H' h')(hg:AllBare g')
 (W:∀b∈ch,(b∈X.ex∨X.s₀.heap.objs.size<=b)/\b≠X.env.locals/\(∀x c,X.env.cells.lookup x=some c->c≠b)/\∀p∈X.pn++pins,p.1≠b):
 Inv X pins σ H' { s with heap:=h',gens:=g',drawn:=d',toks:=t' }:=by
 obtain⟨m,⟨o,es,ep,ho,r⟩,_⟩:=id I.loc;obtain⟨sl,hL⟩:=u.any ho I.free λz=>(W _ z).2.1 rfl
 exact I.step (ch:=ch) W (λb o hL hb J e n=>u.keep b o e n (λz=>(cj.mp (I.fU b z)).elim hL hb) J) (λb o _ _ J e n=>u.any e n J) (λb o J e n=>u.free b o e n J) (λb o J e=>u.there b o e J) u.bh u.aI u.eO (λm' hm=>by
  obtain⟨o',es',Z,Y,r'⟩:=hm;rw[ho]at Y;cases Y;exact⟨_,es',Z,hL,r'⟩) av hg
theorem Inv.turned(I:Inv X pins σ H s)(k:∀b o,b≠it->s.heap.get? b=some o->h'.get? b=some o)(hn:H it=none)(Y:it≠X.env.locals)
 (h1:it∈X.ex∨X.s₀.heap.objs.size<=it) (h2:∀x c,X.env.cells.lookup x=some c->c≠it) (Z:∀p∈X.pn++pins,p.1≠it):Inv X pins σ H { s with heap:=h',toks:=t' }:=by
 have W:∀b u,H b=some u->b≠it:=λb u e z=>by rw[z,hn]at e;cases e
 refine I.step (g':=s.gens) (d':=s.drawn) (ch:=[it]) (λb hb=>?_) (λb o _ _ J e _=>k b o (λz=>J (by simp[z])) e) (λb o _ _ J e _=>⟨o.slots,k b o (λz=>J (by simp[z])) e⟩) (λ_ _ _ _ n=>n)
  (λb o J e=>⟨o,k b o (λz=>J (by simp[z])) e⟩) (λ_ _ e=>e) (λ_ _ _ e=>e) (λb ps e=>⟨#[],by rw[e];simp⟩) (λm hm=>?_) (λb u e=>?_) I.bare
 . have e:b=it:=by simpa using hb
   subst e;exact⟨h1,Y,h2,Z⟩
 . obtain⟨o,es,ep,ho,r⟩:=hm
   exact⟨o,es,ep,k _ o (Ne.symm Y) ho,r⟩
 . refine(I.av b u e).fu (λc v J q=>k c v ?_ q) (λ_ q=>q) λ_ _ q=>q
   rcases J with z|z
   . rw[z];exact W b u e
   . exact W c _ z
theorem Inv.tok(I:Inv X pins σ H s)(t:Nat):Inv X pins σ H { s with toks:=t }:=I.un (h':=s.heap) (t':=t) Un.refl I.av
theorem Inv.kept(I:Inv X pins σ H s)(k:∀b u,s.heap.get? b=some u->h'.get? b=some u):Inv X pins σ H { s with heap:=h',toks:=t' }:=I.un (Un.kept k) (I.av.kept k)
theorem Inv.laid{a:Addr}(I:Inv X pins σ H s)(k:∀b u,s.heap.get? b=some u->h'.get? b=some u)(J:s.heap.objs.size<=a)(new:aD X.prog X.w (upd H a o) h' a o):
 Inv X pins σ (upd H a o) { s with heap:=h',toks:=t' }:=I.un (Un.laid k J (I.av.fresh J)) (I.av.laid k J new)
theorem Inv.write{x e:Addr}(I:Inv X pins σ H s)(mu:rA (H x))(W:e=x∨H e=some (.own x))(k:∀b u,b≠e->s.heap.get? b=some u->h'.get? b=some u)(J:∃u,h'.get? e=some u)
 (new:aD X.prog X.w (upd H x o) h' x o):Inv X pins σ (upd H x o) { s with heap:=h',toks:=t' }:=I.un (Un.write mu W k J) (I.av.write mu W k J new)
theorem Inv.eV(I:Inv X pins σ H s)(h:∀p∈J,s.heap.get? p.1=some p.2/\H p.1=none/\p.1≠X.env.locals/\p.1∉X.fs/\∀v,p.2.data≠.cell v):Inv X J σ H s:=
 ⟨I.ok,I.os,I.bare,I.base,I.loc,I.cell,I.free,I.bP,λp W=>(eZ.mp W).elim (λz=>I.pin p (yn _ z)) (h p),I.av,I.len⟩
theorem FZ{N:az}(hN:N.Nodup){i j:Nat}{x:Str}(a:N[i]? =some x)(b:N[j]? =some x):i=j:=by
 obtain⟨h1,e1⟩:=List.getElem?_eq_some_iff.mp a;obtain⟨h2,I⟩:=List.getElem?_eq_some_iff.mp b;exact(List.getElem_inj hN).mp (e1.trans I.symm)
theorem E7{i:Nat}{x:Str}{v:V}(I:Inv X pins σ H s)(hN:X.N.Nodup)(hi:X.N[i]? =some x)(hx:Loc X.env.scope x)(r:RelV v u)
 (h:∀s',Inv X pins (σ.set i (some v)) H s'->(∃a,Heap.SameBut a s.heap s'.heap/\(a=X.env.locals∨X.env.cells.lookup x=some a))->Q () s') (hf:X.fn x=true∨X.env.scope.names.lookup x=some .local:=by first|exact .inl rfl|exact .inr rfl|assumption):wpAny M A (storeName X.env x u) Q E s:=by
 obtain⟨m,hn,hl⟩:=id I.loc;have hcls:(X.env.scope.kind== .class||(X.env.scope.kind== .module&&X.env.locals != X.env.globals))=false:=by rw[I.ok.kind];rfl
 have hiσ:i<σ.length:=by rw[I.len];exact(List.getElem?_eq_some_iff.mp hi).1
 have nq:=I.nq;have J:∀{a:Addr} {h':Heap},(∃o,s.heap.get? a=some o/\H a=none)->Heap.SameBut a s.heap h'->cJ X.prog X.w H h':=λ{a h'} ha hs b ob e=>by
  obtain⟨_,_,Y⟩:=ha;refine(I.av b ob e).fu (λc w' W q=>(hs.2 c ?_).trans q) (λ_ q=>q) λ_ _ q=>q
  rintro rfl;rcases W with rfl|W
  . rw[Y]at e;cases e
  . rw[Y]at W;cases W
 rcases hx with hk|hk
 . refine wpAny_storeName_local hk hn (λh' hn' hs=>?_) hcls
   obtain⟨oL,_,_,hoL,_⟩:=id hn;refine h _ ⟨I.ok,I.os,I.bare,⟨λb o e n hb hx=>?_,λb o e n hb hx=>?_,I.base.free,λb o e hx=>?_,I.base.bh,I.base.aI,I.base.eO⟩,⟨_,hn',λj y v' e1 Z e3=>?_⟩,λy c e=>?_,I.free,I.bP,λp hp=>?_,J ⟨oL,hoL,I.free⟩ hs,by simpa using I.len⟩ ⟨_,hs,.inl rfl⟩
   . exact(hs.2 b (cW (eF (bG e) I.ok.above))).trans (I.base.keep b o e n hb hx)
   . obtain⟨sl,e1⟩:=I.base.slot b o e n hb hx
     exact⟨sl,(hs.2 b (cW (eF (bG e) I.ok.above))).trans e1⟩
   . obtain⟨o',e1⟩:=I.base.there b o e hx
     exact⟨o',(hs.2 b (cW (eF (bG e) I.ok.above))).trans e1⟩
   . by_cases hj:j=i
     . subst hj
       rw[hi]at e1;cases e1;rw[List.getElem?_set_self hiσ]at Z;cases Z;exact⟨u,r,.inl ⟨hk,by simp⟩⟩
     . rw[List.getElem?_set_ne (Ne.symm hj)]at Z
       obtain⟨u',r',q⟩:=hl j y v' e1 Z e3;refine⟨u',r',?_⟩;rcases q with⟨k,e⟩|⟨k,c,e,z⟩
       . refine .inl ⟨k,?_⟩
         have:y≠x:=λe=>hj (FZ hN e1 (e ▸ hi))
         simp[this,e]
       . exact .inr ⟨k,c,e,z.sameBut hs (nq y c e)⟩
   . obtain⟨w',z⟩:=I.cell y c e
     exact⟨w',z.sameBut hs (nq y c e)⟩
   . obtain⟨e,n,ne,nf,d⟩:=I.pin p hp
     exact⟨(hs.2 p.1 ne).trans e,n,ne,nf,d⟩
 . have hfn:X.fn x=true:=by
    rcases hf with z|z
    . exact z
    . rw[z]at hk;cases hk
   obtain⟨c,W⟩:=I.ok.has x (.inl hk);obtain⟨w',z⟩:=I.cell x c W;refine wpAny_storeName_cell I.ok.kind hk W z (λh' hc' hs=>?_)
   obtain⟨oc,hoc,hocd⟩:=id z;refine h { s with heap:=h' } ⟨I.ok,I.os,I.bare,⟨λb o e n hb hx=>?_,λb o e n hb hx=>?_,I.base.free,λb o e hx=>?_,I.base.bh,I.base.aI,I.base.eO⟩,⟨m,hn.sameBut hs (Ne.symm (nq x c W)),λj y v' e1 Z e3=>?_⟩,λy c' e=>?_,I.free,I.bP,λp hp=>?_,J ⟨oc,hoc,I.bP x c W⟩ hs,by simpa using I.len⟩ ⟨c,hs,.inr W⟩
   . exact(hs.2 b (cW (eF (bG e) (I.ok.pW x c hfn W)))).trans (I.base.keep b o e n hb hx)
   . obtain⟨sl,e1⟩:=I.base.slot b o e n hb hx
     exact⟨sl,(hs.2 b (cW (eF (bG e) (I.ok.pW x c hfn W)))).trans e1⟩
   . obtain⟨o',e1⟩:=I.base.there b o e hx
     exact⟨o',(hs.2 b (cW (eF (bG e) (I.ok.pW x c hfn W)))).trans e1⟩
   . by_cases hj:j=i
     . subst hj
       rw[hi]at e1;cases e1;rw[List.getElem?_set_self hiσ]at Z;cases Z;exact⟨u,r,.inr ⟨.inl hk,c,W,hc'⟩⟩
     . rw[List.getElem?_set_ne (Ne.symm hj)]at Z
       obtain⟨u',r',q⟩:=hl j y v' e1 Z e3;refine⟨u',r',?_⟩;rcases q with q|⟨k,c',e,z'⟩
       . exact .inl q
       . refine .inr ⟨k,c',e,z'.sameBut hs ?_⟩
         rintro rfl;exact hj (FZ hN e1 (I.ok.inj _ _ _ e W ▸ hi))
   . by_cases hcc:c'=c
     . subst hcc;exact⟨_,hc'⟩
     . obtain⟨w2,z2⟩:=I.cell y c' e
       exact⟨w2,z2.sameBut hs hcc⟩
   . obtain⟨e,n,ne,nf,d⟩:=I.pin p hp
     refine⟨(hs.2 p.1 ?_).trans e,n,ne,nf,d⟩;intro q;rw[q,hoc]at e;have q':oc=p.2:=Option.some.inj e;exact d w' (by rw[<-q'];exact hocd)
theorem wH{i:Nat}{x:Str}{v:V}(I:Inv X pins σ H s)(hN:X.N.Nodup)(hi:X.N[i]? =some x)(hx:Loc X.env.scope x)(r:RelV v u)
 (h:∀s',Inv X pins (σ.set i (some v)) H s'->Q () s') (W:X.fn x=true∨X.env.scope.names.lookup x=some .local:=by first|exact .inl rfl|exact .inr rfl|assumption):wpAny M A (storeName X.env x u) Q E s:=
 E7 I hN hi hx r (λs' J _=>h s' J) W
theorem Inv.rF{s':Shared}{ch:List Addr}(I:Inv X pins σ H s)(ho:s'.os=s.os)(u:Un (hW X.stack) ch H H' s.heap s'.heap)(av:cJ X.prog X.w H' s'.heap)(W:AllBare s'.gens)
 (J:∀b∈ch,(b∈X.ex∨X.s₀.heap.objs.size<=b)/\b≠X.env.locals/\(∀x c,X.env.cells.lookup x=some c->c≠b)/\∀p∈X.pn++pins,p.1≠b):Inv X pins σ H' s':=by
 obtain⟨h',g',d',t',o'⟩:=s';have e:o'=s.os:=ho;subst e;exact I.call (g':=g') (t':=t') (d':=d') u av W J
end
abbrev XK:=Value->Option Addr->Hp->Prop
abbrev St:=List (Option V)
abbrev VK:=V->Hp->Prop
abbrev TE:=St->Hp->VK->Prop
abbrev TT:=St->Hp->(Bool->Hp->Prop)->Prop
abbrev TA:=St->Hp->(LV->Hp->Prop)->Prop
structure Ends where
 nx:St->Hp->Prop
 rt:VK
 bk:St->Hp->Prop:=λ_ _=>False
 ct:St->Hp->Prop:=λ_ _=>False
abbrev TS:=Ends->St->Hp->Prop
def EP(X:Cx)(pins:aG)(σ:St)(Q:VK)(u:Value)(s':Shared):Prop:=∃v H',Inv X pins σ H' s'/\RelV v u/\Q v H'
def TP(X:Cx)(pins:aG)(σ:St)(Q:Bool->Hp->Prop)(b:Bool)(s':Shared):Prop:=∃H',Inv X pins σ H' s'/\Q b H'
def AP(X:Cx)(pins:aG)(σ:St)(Q:LV->Hp->Prop)(us:au)(s':Shared):Prop:=∃vs H',Inv X pins σ H' s'/\Vals vs us/\Q vs H'
def SP(X:Cx)(pins:aG)(D:Ends)(f:Flow)(s':Shared):Prop:=
 match f with
 | .next=>∃I H',Inv X pins I H' s'/\D.nx I H'
 | .brk=>∃I H',Inv X pins I H' s'/\D.bk I H'
 | .cont=>∃I H',Inv X pins I H' s'/\D.ct I H'
 | .ret u=>∃v I H',Inv X pins I H' s'/\RelV v u/\D.rt v H'
def PE(X:Cx)(e:Expr)(t:TE):Prop:=
 ∀pins s σ H Q,Inv X pins σ H s->t σ H Q->wpAny (model X.prog X.w) X.A (eval e X.env) (EP X pins σ Q) X.xe s
def PT(X:Cx)(e:Expr)(t:TT):Prop:=
 ∀(pins:aG) (s:Shared) (σ:St) (H:Hp) (Q:Bool->Hp->Prop),Inv X pins σ H s->t σ H Q->wpAny (model X.prog X.w) X.A (isTrue e X.env (eval e X.env)) (TP X pins σ Q) X.xe s
def PW(X:Cx)(e:Expr)(t:TT):Prop:=
 ∀(I:Sem Value) (pins:aG) (s:Shared) (σ:St) (H:Hp) (Q:Bool->Hp->Prop),Inv X pins σ H s->t σ H Q->wpAny (model X.prog X.w) X.A (isTrue e X.env I) (TP X pins σ Q) X.xe s
theorem PW.pt{e:Expr}{t:TT}(h:PW X e t):PT X e t:=h _
def PA(X:Cx)(es:aW)(t:TA):Prop:=
 ∀(pos:Pos) (pins:aG) (s:Shared) (σ:St) (H:Hp) (Q:LV->Hp->Prop),Inv X pins σ H s->t σ H Q->wpAny (model X.prog X.w) X.A (spliced (backTo pos (starEach es X.env))) (AP X pins σ Q) X.xe s
def PS(X:Cx)(st:Stmt)(t:TS):Prop:=
 ∀pins s σ H D,Inv X pins σ H s->t D σ H->wpAny (model X.prog X.w) X.A (exec st X.env) (SP X pins D) X.xe s
def f9(X:Cx)(st:List Stmt)(t:TS):Prop:=
 ∀pins s σ H D,Inv X pins σ H s->t D σ H->wpAny (model X.prog X.w) X.A (execs st X.env) (SP X pins D) X.xe s
theorem aA{t:Sem α}{s:Shared}(h:wpAny M A t Q E s)(I:∀a s,Q a s->Q' a s):wpAny M A t Q' E s:=wpAny_mono h I λ_ _ x=>x
section
variable {X:Cx}
def MW(i:Nat):TE:=λσ H Q=>∃v,σ[i]? =some (some v)/\Q v H
def tC(v:V):TE:=λ_ H Q=>Q v H
theorem Ul{i:Nat}{x:Str}(hN:X.N[i]? =some x)(hv:pU X.env.scope x)(hd:(x==("__debug__":Str))=false:=by decide)(J:(x==("__classdict__":Str))=false:=by decide):PE X (.Name x pos) (MW i):=by
 intro pins s σ H Q I h;obtain⟨v,e,h⟩:=h;obtain⟨m,hn,Y⟩:=I.loc;obtain⟨u,r,l⟩:=Y i x v hN e hv;have fin:EP X pins σ Q u s:=⟨v,H,I,r,h⟩;rcases l with⟨hk,Z⟩|⟨hk,c,W,bC⟩
 . exact wpAny_Name (wpAny_loadName_local I.ok.kind hk hn Z fin) hd
 . rcases hk with hk|hk
   . exact wpAny_Name (wpAny_loadName_cell I.ok.kind hk W bC fin) hd
   . exact wpAny_Name (wpAny_loadName_free I.ok.kind hk W bC fin J) hd
theorem Vn{i j pos}:PE X (.Constant (.int i) j pos) (tC (.int i)):=λ_ _ _ H _ I h=>wpAny_Constant_int ⟨.int i,H,I.tok _,⟨_,rfl⟩,h⟩
theorem W9{b j pos}:PE X (.Constant (.bool b) j pos) (tC (.bl b)):=λ_ _ _ H _ I h=>Constant_bool ⟨.bl b,H,I,rfl,h⟩
theorem Vm{j pos}:PE X (.Constant .none j pos) (tC .ak):=λ_ _ _ H _ I h=>Constant_none ⟨.ak,H,I,rfl,h⟩
theorem Uo{x j pos}:PE X (.Constant (.str x) j pos) (tC (.str x)):=λ_ _ _ H _ I h=>Calls.Constant_str ⟨.str x,H,I.tok _,⟨_,rfl⟩,h⟩
def Gl(X:Cx)(x:Str):Prop:=X.env.kindOf x=some .globalImplicit
theorem oM{s:Shared}{x:Str}(I:Inv X pins σ H s)(J:Gl X x)(W:X.mg x=some u)(h:Q u s)
 (hd:(x==("__debug__":Str))=false:=by decide):wpAny (model X.prog X.w) X.A (eval (.Name x pos) X.env) Q E s:=
 Calls.Name_function_global I.ok.kind J (Calls.loadGlobal_global (by rw[I.ok.glob];exact I.mod.glob.keeps I.bk) W h) hd
theorem mB{s:Shared}{x:Str}(I:Inv X pins σ H s)(J:Gl X x)(W:X.mg x=none)(Z:bootBuiltins x=some u)(h:Q u s)
 (Y:x≠"__name__":=by decide) (hd:(x==("__debug__":Str))=false:=by decide):wpAny (model X.prog X.w) X.A (eval (.Name x pos) X.env) Q E s:=by
 obtain⟨mb,h1,h2⟩:=I.mod.blt;exact Calls.Name_function_global I.ok.kind J (Calls.loadGlobal_builtin (by rw[I.ok.glob];exact I.mod.glob.keeps I.bk) W (by rw[I.ok.blt];exact h1.keeps I.bk) ((h2 x Y).trans Z) h) hd
theorem GL{x:Str}{v:V}(J:Gl X x)(W:X.mg x=some u)(r:RelV v u)(hd:(x==("__debug__":Str))=false:=by decide):PE X (.Name x pos) (tC v):=
 λ_ _ _ H _ I h=>oM I J W ⟨v,H,I,r,h⟩ hd
theorem SF{x:Str}{v:V}(J:Gl X x)(W:X.mg x=none)(Z:bootBuiltins x=some u)(r:RelV v u)(Y:x≠"__name__":=by decide)(hd:(x==("__debug__":Str))=false:=by decide):PE X (.Name x pos) (tC v):=
 λ_ _ _ H _ I h=>mB I J W Z ⟨v,H,I,r,h⟩ Y hd
variable {a b:Expr}{ta tb:TE}{pos:Pos}
def PC(X:Cx)(op:CmpOp)(a b:Expr)(t:TE):Prop:=
 ∀pins s σ H Q,Inv X pins σ H s->t σ H Q->
  wpAny (model X.prog X.w) X.A (eval a X.env) (λv I=>wpAny (model X.prog X.w) X.A (eval b X.env) (λu J=>wpAny (model X.prog X.w) X.A (compareOp op v u) (EP X pins σ Q) X.xe J) X.xe I) X.xe s
theorem Fw(b:Expr){op:CmpOp}(h:op≠.In)(h2:op≠.NotIn):behindInMarks op b=false:=by
 have e1:(op==CmpOp.In)=false:=by cases op<;>first|rfl|exact absurd rfl h
 have I:(op==CmpOp.NotIn)=false:=by cases op<;>first|rfl|exact absurd rfl h2
 cases b<;>simp[behindInMarks,e1,I]
def tB(t:TE):TT:=λσ H Q=>t σ H λx H1=>∃c,x= .bl c/\Q c H1
theorem HG{op:CmpOp}{t:TE}(h:PC X op a b t)(h1:behindInMarks op b=false:=by first|exact Fw _ (by decide) (by decide)|rfl):PE X (.Compare a [op] [b] pos) t:=λpins s σ H Q I J=>wpAny_Compare1 (h pins s σ H Q I J) h1
theorem zT{op:CmpOp}{t:TE}(h:PC X op a b t)(h1:behindInMarks op b=false:=by first|exact Fw _ (by decide) (by decide)|rfl):PT X (.Compare a [op] [b] pos) (tB t):=by
 intro pins s σ H Q I hw;refine wpAny_isTrue_Compare1 (aA (h pins s σ H _ I hw) λv s1 h1=>aA h1 λu s2 h2=>aA h2 λc s3 zz=>?_) h1;obtain⟨x,H1,I1,r1,q1⟩:=zz
 obtain⟨d,rfl,q⟩:=q1;cases r1;exact wpAny_truthy_bool ⟨H1,I1,q⟩
theorem Uz{e:Expr}{t:TE}(h:PE X e t)(he:∀whole,isTrue e X.env whole=(do let v<-whole;standAt e.pos;holding [v] (truthy v)):=by intro _;rfl):PT X e (tB t):=by
 intro pins s σ H Q I hw;refine isTrue_plain (aA (h pins s σ H _ I hw) λv s1 zz=>?_) (he _);obtain⟨x,H1,I1,r1,q1⟩:=zz
 obtain⟨d,rfl,q⟩:=q1;cases r1;exact wpAny_truthy_bool ⟨H1,I1,q⟩
variable {tA tB':TT}{rest:aW}
def MN(t u:TT):TT:=λσ H Q=>t σ H λc H1=>if c=true then u σ H1 Q else Q false H1
def Ym(t u:TT):TT:=λσ H Q=>t σ H λc H1=>if c=true then Q true H1 else u σ H1 Q
def Na(t:TT):TT:=λσ H Q=>t σ H λc H1=>Q (!c) H1
theorem S6(J:PT X a tA):PW X (.BoolOp .And [a] pos) tA:=by
 intro W pins s σ H Q I h;refine isTrue_and (aA (J pins s σ H Q I h) λc s1 e=>?_)
 cases c with
 |true=>exact isTrue_and_nil e
 |false=>exact e
theorem Ux(J:PT X a tA):PW X (.BoolOp .Or [a] pos) tA:=by
 intro W pins s σ H Q I h;refine isTrue_or (aA (J pins s σ H Q I h) λc s1 e=>?_)
 cases c with
 |false=>exact isTrue_or_nil e
 |true=>exact e
theorem Uy(ha:PT X a tA)(hb:PW X (.BoolOp .And (b::rest) pos) tB'):PW X (.BoolOp .And (a::b::rest) pos) (MN tA tB'):=by
 intro wh pins s σ H Q I h;refine isTrue_and (aA (ha pins s σ H _ I h) λc s1 zz=>?_);obtain⟨H1,I1,q1⟩:=zz
 cases c with
 |true=>exact hb wh pins s1 σ H1 Q I1 q1
 |false=>exact⟨H1,I1,q1⟩
theorem Xx(ha:PT X a tA)(hb:PW X (.BoolOp .Or (b::rest) pos) tB'):PW X (.BoolOp .Or (a::b::rest) pos) (Ym tA tB'):=by
 intro wh pins s σ H Q I h;refine isTrue_or (aA (ha pins s σ H _ I h) λc s1 zz=>?_);obtain⟨H1,I1,q1⟩:=zz
 cases c with
 |true=>exact⟨H1,I1,q1⟩
 |false=>exact hb wh pins s1 σ H1 Q I1 q1
theorem UA(J:PT X a tA):PT X (.UnaryOp .Not a pos) (Na tA):=by
 intro pins s σ H Q I h;exact isTrue_not (J pins s σ H (λc H1=>Q (!c) H1) I h)
def Wg(ta tb:TE):TE:=λσ H Q=>ta σ H λx H1=>∃c,x= .bl c/\if c=true then tb σ H1 Q else Q (.bl false) H1
def M7(ta tb:TE):TE:=λσ H Q=>ta σ H λx H1=>∃c,x= .bl c/\if c=true then Q (.bl true) H1 else tb σ H1 Q
def WN(ta:TE):TE:=λσ H Q=>ta σ H λx H1=>∃c,x= .bl c/\Q (.bl (!c)) H1
theorem Up{op}{t:TE}(h:PE X a t):PE X (.BoolOp op [a] pos) t:=λpins s σ H Q I J=>BoolOp_one (h pins s σ H Q I J)
theorem Vp(ha:PE X a ta)(hb:PE X (.BoolOp .And (b::rest) pos) tb):PE X (.BoolOp .And (a::b::rest) pos) (Wg ta tb):=by
 intro pins s σ H Q I h;refine BoolOp_and (aA (ha pins s σ H _ I h) λv s1 zz=>?_);obtain⟨x,H1,I1,r1,q1⟩:=zz
 obtain⟨c,rfl,q1⟩:=q1;cases r1;refine wpAny_truthy_bool ?_;cases c with
 |true=>exact hb pins s1 σ H1 Q I1 q1
 |false=>exact⟨.bl false,H1,I1,rfl,q1⟩
theorem W5(ha:PE X a ta)(hb:PE X (.BoolOp .Or (b::rest) pos) tb):PE X (.BoolOp .Or (a::b::rest) pos) (M7 ta tb):=by
 intro pins s σ H Q I h;refine BoolOp_or (aA (ha pins s σ H _ I h) λv s1 zz=>?_);obtain⟨x,H1,I1,r1,q1⟩:=zz
 obtain⟨c,rfl,q1⟩:=q1;cases r1;refine wpAny_truthy_bool ?_;cases c with
 |false=>exact hb pins s1 σ H1 Q I1 q1
 |true=>exact⟨.bl true,H1,I1,rfl,q1⟩
theorem Vl(ha:PE X a ta):PE X (.UnaryOp .Not a pos) (WN ta):=by
 intro pins s σ H Q I h;refine UnaryOp_ (aA (ha pins s σ H _ I h) λv s1 zz=>?_);obtain⟨x,H1,I1,r1,q1⟩:=zz
 obtain⟨c,rfl,q1⟩:=q1;cases r1;exact not_of (wpAny_truthy_bool ⟨.bl (!c),H1,I1,rfl,q1⟩)
def Yl(t:TT)(ta tb:TE):TE:=λσ H Q=>t σ H λc H1=>if c=true then ta σ H1 Q else tb σ H1 Q
theorem R9{c:Expr}(hc:PT X c tA)(ha:PE X a ta)(hb:PE X b tb):PE X (.IfExp c a b pos) (Yl tA ta tb):=by
 intro pins s σ H Q I h;refine wpAny_IfExp (aA (hc pins s σ H _ I h) λd s1 zz=>?_);obtain⟨H1,I1,q1⟩:=zz
 cases d with
 |true=>exact ha pins s1 σ H1 Q I1 q1
 |false=>exact hb pins s1 σ H1 Q I1 q1
end
def cB(K:ag)(H:Hp)(a:Addr)(xs:LV):Prop:=
 Rd H a (.lst xs)∨
  ∃(o:Obj) (ae:Array Value) (n:Nat),K.lookup a=some o/\o.cls= .type "list"/\o.dict=none/\o.data= .seq ae n/\ae.size<=sizeLine/\Vals xs ae.toList
def bS(K:ag)(H:Hp)(a:Addr)(xs:LV):Prop:=
 Rd H a (.tup xs)∨
  ∃(o:Obj) (ae:Array Value) (n:Nat),K.lookup a=some o/\o.cls= .type "tuple"/\o.data= .seq ae n/\ae.size<=sizeLine/\Vals xs ae.toList
def N3:Value->Option V
 | .none=>some .ak
 | .bool b=>some (.bl b)
 | .int i _=>some (.int i)
 | .str x _=>some (.str x)
 | .bytes b _=>some (.va b)
 | .float b _=>some (.kU b)
 | .ref a=>some (.ref a)
 | .type n=>some (.ty n)
 |_=>none
theorem RelV.abs{x:V}(r:RelV x u):N3 u=some x:=by
 cases x with
 |ak=>cases r;rfl
 |bl _=>cases r;rfl
 |int _=>obtain⟨t,rfl⟩:=r;rfl
 |str _=>obtain⟨t,rfl⟩:=r;rfl
 |va _=>obtain⟨t,rfl⟩:=r;rfl
 |kU _=>obtain⟨t,rfl⟩:=r;rfl
 |ref _=>cases r;rfl
 |ty _=>cases r;rfl
theorem RelV.inj{x y:V}(r:RelV x u)(q:RelV y u):x=y:=Option.some.inj (r.abs.symm.trans q.abs)
theorem Vals.inj:∀{xs ys:LV} {us:au},Vals xs us->Vals ys us->xs=ys
 |_,_,_,.nil,.nil=>rfl
 |_,_,_,.cons r t,.cons r' t'=>by rw[r.inj r',Vals.inj t t']
section
variable {X:Cx}{pins:aG}{σ:St}{H:Hp}{s:Shared}{a:Addr}{xs ys:LV}
theorem cB.of{K:ag}(h:H a=some (.lst xs)):cB K H a xs:=.inl (.inl h)
theorem bS.of{K:ag}(h:H a=some (.tup xs)):bS K H a xs:=.inl (.inl h)
theorem Inv.list(I:Inv X pins σ H s)(h:cB X.K H a xs):∃ae:au,Vals xs ae/\PlainL s.heap a ae.toArray/\xs.length<=sizeLine:=by
 rcases h with h|⟨o,ae,n,hk,J,hd,hs,hz,r⟩
 . obtain⟨z,ae,n,r,e⟩:=h.ok I.av
   exact⟨ae,r,⟨_,n,e,rfl,rfl,rfl⟩,z⟩
 . refine⟨ae.toList,r,⟨o,n,I.et a o hk,J,hd,by simpa using hs⟩,?_⟩
   have e:=r.length;simp only[Array.length_toList]at e;omega
theorem Inv.tuple(I:Inv X pins σ H s)(h:bS X.K H a xs):∃ae:au,Vals xs ae/\IsTup s.heap a ae.toArray/\xs.length<=sizeLine:=by
 rcases h with h|⟨o,ae,n,hk,J,hs,hz,r⟩
 . obtain⟨z,ae,r,p⟩:=h.ok I.av
   exact⟨ae,r,p,z⟩
 . refine⟨ae.toList,r,⟨o,I.et a o hk,J,n,by simpa using hs⟩,?_⟩
   have e:=r.length;simp only[Array.length_toList]at e;omega
theorem Inv.i3(I:Inv X pins σ H s)(h:cB X.K H a xs)(h':cB X.K H a ys):xs=ys:=by
 obtain⟨ae,r,⟨o,n,e,_,_,d⟩,_⟩:=I.list h;obtain⟨its',r',⟨o',W,J,_,_,d'⟩,_⟩:=I.list h';rw[e]at J;cases J;rw[d]at d';injection d' with d1 _
 have:ae=its':=by simpa using congrArg Array.toList d1
 subst this;exact r.inj r'
theorem Inv.iB(I:Inv X pins σ H s)(h:bS X.K H a xs)(h':bS X.K H a ys):xs=ys:=by
 obtain⟨ae,r,⟨o,e,_,n,d⟩,_⟩:=I.tuple h;obtain⟨its',r',⟨o',J,_,W,d'⟩,_⟩:=I.tuple h';rw[e]at J;cases J;rw[d]at d';injection d' with d1 _
 have:ae=its':=by simpa using congrArg Array.toList d1
 subst this;exact r.inj r'
end
abbrev Cx.wish(X:Cx)(E:aP):Cx:={ X with xe:=E }
abbrev Cx.p7(X:Cx):Cx:=X.wish λ_ _=>False
theorem Cx.Ok.wish{X:Cx}(ok:X.Ok)(E):(X.wish E).Ok:=
 ⟨ok.mod,ok.kind,ok.glob,ok.blt,ok.above,ok.inj,ok.has,ok.pW,ok.hd,ok.frames,ok.uF,ok.rK,ok.bs,ok.iY,ok.ib,ok.hR,ok.d0,ok.ma⟩
theorem Cx.Ok.cw{X:Cx}(ok:(X.wish E).Ok):X.Ok:=
 ⟨ok.mod,ok.kind,ok.glob,ok.blt,ok.above,ok.inj,ok.has,ok.pW,ok.hd,ok.frames,ok.uF,ok.rK,ok.bs,ok.iY,ok.ib,ok.hR,ok.d0,ok.ma⟩
section
variable {X:Cx}{pins:aG}{σ:St}{H:Hp}{s:Shared}{E:aP}
theorem Inv.wish(I:Inv X pins σ H s)(E):Inv (X.wish E) pins σ H s:=⟨I.ok.wish E,I.os,I.bare,I.base,I.loc,I.cell,I.free,I.bP,I.pin,I.av,I.len⟩
theorem Inv.cw(I:Inv (X.wish E) pins σ H s):Inv X pins σ H s:=⟨I.ok.cw,I.os,I.bare,I.base,I.loc,I.cell,I.free,I.bP,I.pin,I.av,I.len⟩
theorem SP.cw(h:SP (X.wish E) pins D f s'):SP X pins D f s':=by
 cases f with
 |next=>obtain⟨J,H',I,q⟩:=h;exact⟨J,H',I.cw,q⟩
 |brk=>obtain⟨J,H',I,q⟩:=h;exact⟨J,H',I.cw,q⟩
 |cont=>obtain⟨J,H',I,q⟩:=h;exact⟨J,H',I.cw,q⟩
 |ret u=>obtain⟨v,J,H',I,r,q⟩:=h;exact⟨v,J,H',I.cw,r,q⟩
theorem f9.p7{st:List Stmt}{t:TS}(h:f9 X.p7 st t):f9 X st t:=λpins s σ H D I J=>
 wpAny_mono (h pins s σ H D (I.wish _) J) (λ_ _ q=>q.cw) λ_ _ z=>False.elim z
end
section
variable {X:Cx}{st:Stmt}{rest:List Stmt}{t u:TS}{e:Expr}{te:TE}{pos:Pos}
def WO:TS:=λD σ H=>D.nx σ H
def MY(t u:TS):TS:=λD σ H=>t { D with nx:=u D } σ H
theorem S7:f9 X [] WO:=λ_ _ σ H _ I h=>wpAny_execs_nil ⟨σ,H,I,h⟩
theorem R4(h1:PS X st t)(h2:f9 X rest u):f9 X (st::rest) (MY t u):=by
 intro pins s σ H D I h;refine wpAny_execs_cons (aA (h1 pins s σ H { D with nx:=u D } I h) λf s1 q=>?_)
 cases f with
 |next=>
  obtain⟨J,H',W,q⟩:=q;exact h2 pins s1 J H' D W q
 |ret v=>exact q
 |brk=>exact q
 |cont=>exact q
theorem Inv.quiet{s:Shared}(I:Inv X pins σ H s):interactive X.env=false:=by simp[interactive,I.ok.kind]
def Wb(te:TE):TS:=λD σ H=>te σ H λ_ H1=>D.nx σ H1
theorem S9(J:PE X e te)(hs:swapsWith e none pos.line X.env=pure false:=by rfl):PS X (.Expr e pos) (Wb te):=by
 intro pins s σ H D I h;exact wpAny_Expr_any (aA (J pins s σ H _ I h) λv s1 ⟨x,H1,I1,r1,q1⟩=>⟨σ,H1,I1,q1⟩) I.quiet hs
def MZ(te:TE):TS:=λD σ H=>te σ H D.rt
theorem UD(J:PE X e te):PS X (.Return (some e) pos) (MZ te):=by
 intro pins s σ H D I h;exact wpAny_Return_some (aA (J pins s σ H _ I h) λv s1 ⟨x,H1,I1,r1,q1⟩=>⟨x,σ,H1,I1,r1,q1⟩)
def WL:TS:=λD _ H=>D.rt .ak H
theorem S8:PS X (.Return none pos) WL:=λ_ _ σ H _ I h=>wpAny_Return_none ⟨.ak,σ,H,I,rfl,h⟩
def MJ(c:TT)(t u:TS):TS:=λD σ H=>c σ H λb H1=>if b=true then t D σ H1 else u D σ H1
theorem WZ{c:Expr}{a b:List Stmt}{tc:TT}(hc:PT X c tc)(ha:f9 X a t)(hb:f9 X b u):PS X (.If c a b pos) (MJ tc t u):=by
 intro pins s σ H D I h;refine wpAny_If (aA (hc pins s σ H _ I h) λd s1 zz=>?_);obtain⟨H1,I1,q1⟩:=zz
 cases d with
 |true=>exact ha pins s1 σ H1 D I1 q1
 |false=>exact hb pins s1 σ H1 D I1 q1
end
abbrev TG:=V->St->Hp->(St->Hp->Prop)->Prop
abbrev lY:=LV->St->Hp->(St->Hp->Prop)->Prop
def PG(X:Cx)(I:Expr)(t:TG):Prop:=
 ∀(pins:aG) (s:Shared) (σ:St) (H:Hp) (v:V) (u:Value) (Q:St->Hp->Prop),Inv X pins σ H s->RelV v u->t v σ H Q->
  wpAny (model X.prog X.w) X.A (assign I X.env u) (λ_ s'=>∃J H',Inv X pins J H' s'/\Q J H') X.xe s
def ng(X:Cx)(J:aW)(t:lY):Prop:=
 ∀(pins:aG) (s:Shared) (σ:St) (H:Hp) (vs:LV) (us:au) (Q:St->Hp->Prop),Inv X pins σ H s->Vals vs us->t vs σ H Q->
  wpAny (model X.prog X.w) X.A (assignInOrder ((assignEach J X.env).map (·.2)) us) (λ_ s'=>∃I H',Inv X pins I H' s'/\Q I H') X.xe s
abbrev x3:=V->V->V->Hp->(Hp->Prop)->Prop
def x6(X:Cx)(t:x3):Prop:=
 ∀(pins:aG) (s:Shared) (σ:St) (H:Hp) (o i v:V) (ov iv u:Value) (Q:Hp->Prop),Inv X pins σ H s->RelV o ov->RelV i iv->RelV v u->t o i v H Q->
  wpAny (model X.prog X.w) X.A (setItem ov iv u) (λ_ s'=>∃H',Inv X pins σ H' s'/\Q H') X.xe s
section
variable {X:Cx}{pos:Pos}
def AE(i:Nat):TG:=λv σ H Q=>Q (σ.set i (some v)) H
theorem xh{i:Nat}{x:Str}(hN:X.N.Nodup)(hi:X.N[i]? =some x)(hx:Loc X.env.scope x)(W:X.fn x=true∨X.env.scope.names.lookup x=some .local:=by first|exact .inl rfl|exact .inr rfl|assumption):PG X (.Name x pos) (AE i):=by
 intro pins s σ H v u Q I r h;exact wpAny_assign_Name (wH I hN hi hx r (λs' J=>⟨_,H,J,h⟩) W)
def Ds:lY:=λvs σ H Q=>vs= []/\Q σ H
def Jh(t:TG)(u:lY):lY:=λvs σ H Q=>∃v r,vs=v::r/\t v σ H λσ' H'=>u r σ' H' Q
theorem GK:ng X [] Ds:=by
 intro pins s σ H vs us Q I r h;obtain⟨e,h⟩:=h;subst e;cases r;exact assignInOrder_nil ⟨σ,H,I,h⟩
theorem FV{e:Expr}{es:aW}{t:TG}{u:lY}(h1:PG X e t)(h2:ng X es u)
 (hs:(assignEach (e::es) X.env).map (·.2)=assign e X.env::(assignEach es X.env).map (·.2):=by rfl):ng X (e::es) (Jh t u):=by
 intro pins s σ H vs us Q I r h;obtain⟨v,vr,e1,h⟩:=h;subst e1;cases r with
 |cons r rr=>
  rw[hs];refine assignInOrder_cons (aA (h1 pins s σ H _ _ _ I r h) λ_ s1 zz=>?_);obtain⟨σ1,H1,I1,q1⟩:=zz
  exact h2 pins s1 σ1 H1 _ _ Q I1 rr q1
def Dr(K:ag)(n:Nat)(t:lY):TG:=λv σ H Q=>∃a xs,v= .ref a/\bS K H a xs/\xs.length=n/\t xs σ H Q
theorem HE{t:lY}{n:Nat}(hc:X.calm=true)(h:ng X es t)
 (hn:(assignEach es X.env).length=n:=by rfl) (hst:(assignEach es X.env).findIdx? (·.1)=none:=by rfl):PG X (.Tuple es k pos) (Dr X.K n t):=by
 intro pins s σ H v u Q I r hw;obtain⟨a,xs,e1,hq,hl,hw⟩:=hw;subst e1;cases r;obtain⟨ae,rv,ht,hz⟩:=I.tuple hq;refine assign_Tuple_tuple (I.ok.hd hc) ht (by simp[hn,<-hl,rv.length]) hst λh' hx=>?_
 have I1:Inv X pins σ H { s with heap:=h' }:=I.kept (t':=s.toks) λb o e=>hx b o (cW (bG e)) e
 exact h pins _ σ H xs _ Q I1 (by simpa using rv) hw
def Nn(to ti:TE)(t:x3):TG:=λv σ H Q=>to σ H λo H1=>ti σ H1 λi H2=>t o i v H2 λH3=>Q σ H3
theorem Uk{o i:Expr}{to ti:TE}{t:x3}(ho:PE X o to)(hi:PE X i ti)(hs:x6 X t)
 (ha:∀v,assign (.Subscript o i pos) X.env v=(do
  let ov<-holding [v] (eval o X.env)
  let iv<-holding [v,ov] (eval i X.env)
  standAt pos
  holding [v,ov,iv] (setItem ov iv v)
  release [v,ov,iv] []):=by intro _;rfl):PG X (.Subscript o i pos) (Nn to ti t):=by
 intro pins s σ H v u Q I r h;rw[ha];refine wpAny_bind (wpAny_holding (aA (ho pins s σ H _ I h) λov s1 zz=>?_));obtain⟨x,H1,I1,r1,q1⟩:=zz
 refine wpAny_bind (wpAny_holding (aA (hi pins s1 σ H1 _ I1 q1) λiv s2 zz=>?_));obtain⟨y,H2,I2,r2,q2⟩:=zz
 refine wpAny_bind (wpAny_standAt (wpAny_bind (wpAny_holding (aA (hs pins s2 σ H2 x y v ov iv u _ I2 r1 r2 r q2) λ_ s3 zz=>?_))));obtain⟨H3,I3,q3⟩:=zz
 exact wpAny_release ⟨σ,H3,I3,q3⟩
def DB(te:TE)(g:TG):TS:=λD σ H=>te σ H λx H1=>g x σ H1 D.nx
theorem Ui{tg e:Expr}{te:TE}{g:TG}(he:PE X e te)(hg:PG X tg g)(hs:swapsWithSole [tg] e pos.line X.env=pure false:=by rfl)(hw:swappedStores [tg] e X.env=pure none:=by rfl)
 (h1:(assignEach [tg] X.env).map (·.2)= [assign tg X.env]:=by rfl):PS X (.Assign [tg] e pos) (DB te g):=by
 intro pins s σ H D I h;refine wpAny_Assign_stores (aA (he pins s σ H _ I h) λv s1 zz=>?_) hs hw;obtain⟨x,H1,I1,r1,q1⟩:=zz
 rw[h1];exact aA (hg pins s1 σ H1 x v _ I1 r1 q1) λ_ s2 q=>q
theorem UC{i:Nat}{x:Str}{e:Expr}{te:TE}{pos':Pos}(hN:X.N.Nodup)(hi:X.N[i]? =some x)(hx:Loc X.env.scope x)(he:PE X e te)(hs:swapsWith e (some (.Name x pos')) pos.line X.env=pure false:=by rfl)(hf:X.fn x=true∨X.env.scope.names.lookup x=some .local:=by first|exact .inl rfl|exact .inr rfl|assumption):
 PS X (.Assign [.Name x pos'] e pos) (DB te (AE i)):=by
 intro pins s σ H D I h;refine wpAny_Assign_Name (aA (he pins s σ H _ I h) λv s1 zz=>?_) hs;obtain⟨y,H1,I1,r1,q1⟩:=zz
 exact wH I1 hN hi hx r1 (λs2 I2=>⟨_,H1,I2,q1⟩) hf
def M6(i j:Nat)(ta:TA):TS:=λD σ H=>ta σ H λvs H1=>∃v w,vs= [v,w]/\D.nx ((σ.set i (some v)).set j (some w)) H1
theorem UE{i j:Nat}{x y:Str}{a b:Expr}{ta:TA}{px py pt:Pos}{kt k2 pt2}(hc:X.calm=true)(hN:X.N.Nodup)(hi:X.N[i]? =some x)(hj:X.N[j]? =some y)(hij:i≠j)
 (hx:X.env.scope.names.lookup x=some .local) (hy:X.env.scope.names.lookup y=some .local) (ha:PA X [a,b] ta)
 (hw:swappedStores [.Tuple [.Name x px,.Name y py] kt pt] (.Tuple [a,b] k2 pt2) X.env=pure (some [x,y]))
 (hs:swapsWithSole [.Tuple [.Name x px,.Name y py] kt pt] (.Tuple [a,b] k2 pt2) pos.line X.env=pure false:=by rfl):
 PS X (.Assign [.Tuple [.Name x px,.Name y py] kt pt] (.Tuple [a,b] k2 pt2) pos) (M6 i j ta):=by
 intro pins s σ H D I h;rw[exec_Assign_arm];refine wpAny_bind (wpAny_standAt ?_);rw[hs];refine wpAny_bind (wpAny_pure ?_);rw[if_neg (by decide)]
 refine wpAny_bind (Tuple_ (aA (ha _ pins s σ H _ I h) λus s1 zz=>?_));obtain⟨vs,H1,I1,r1,q1⟩:=zz
 obtain⟨v,w,e1,q1⟩:=q1;subst e1;obtain⟨u1,u2,rfl,rv,rw'⟩:∃u1 u2,us= [u1,u2]/\RelV v u1/\RelV w u2:=by
  cases r1 with
  |cons p q=>
   cases q with
   |cons p' q'=>
    cases q';exact⟨_,_,rfl,p,p'⟩
 refine wpAny_newObj_type ?_ (by show 2<=sizeLine;decide)
 have I2:Inv X pins σ H1 { s1 with heap:=s1.heap.push { cls:=.type "tuple",data:=.seq [u1,u2].toArray } }:=I1.kept (t':=s1.toks) λb o e=>Heap.get?_push_of_some _ e
 rw[hw];refine wpAny_bind (wpAny_pure ?_);show wpAny (model X.prog X.w) X.A (do rule "assign.swapped-stores";let items<-unpackItems (.ref s1.heap.objs.size) 2 none;assignInOrder [λv=>bindName X.env y v,λv=>bindName X.env x v] items.reverse;pure Flow.next) _ _ _
 refine wpAny_bind (wpAny_rule (wpAny_bind (unpackItems_tuple (items:=#[u1,u2]) (I.ok.hd hc) (IsTup.new s1.heap _) λh' hx'=>?_)))
 have I3:=I2.kept (h':=h') (t':=s1.toks) λb o e=>hx' b o (cW (bG e)) e
 show wpAny _ _ (assignInOrder [λv=>bindName X.env y v,λv=>bindName X.env x v] [u2,u1] >>= λ_=>pure Flow.next) _ _ _
 refine wpAny_bind (assignInOrder_cons (wpAny_bindName (wH I3 hN hj (.inl hy) rw' (λs2 I4=>?_) (.inr hy))))
 refine assignInOrder_cons (wpAny_bindName (wH I4 hN hi (.inl hx) rv (λs3 I5=>assignInOrder_nil (wpAny_pure ?_)) (.inr hx)))
 rw[List.set_comm _ _ (Ne.symm hij)]at I5;exact⟨_,H1,I5,q1⟩
end
structure It where
 go:Nat->Hp->Prop
 Bf:Nat->Hp->V->Hp->Prop
 stop:Nat->Hp->Prop
def lL(X:Cx)(pins:aG)(H:Hp)(b:Addr):Prop:=
 H b=none/\b≠X.env.locals/\b∉X.fs/\(b∈X.ex∨X.s₀.heap.objs.size<=b)/\(∀x c,X.env.cells.lookup x=some c->c≠b)/\∀p∈X.pn++pins,p.1≠b
theorem Inv.fK{s:Shared}{b:Addr}(I:Inv X pins σ H s)(J:s.heap.objs.size<=b)(W:H' b=none):lL X pins H' b:=by
 refine⟨W,Nat.ne_of_gt (eF I.lt J),I.rU J,.inr (dJ I.sz J),λx c e z=>?_,λp Y z=>?_⟩
 . obtain⟨v,q⟩:=I.cell x c e
   exact absurd (eF q.lt (by rw[z];exact J)) (lW _)
 . exact absurd (eF (bG (I.pin p Y).1) (by rw[z];exact J)) (lW _)
structure Turn(P:Program)(w:World)(K:ag)(tg:Expr)(J:It)(fp:List Addr)(it:Addr)(tn:Nat->Heap->Prop):Prop where
 mem:it∈fp
 obj:∀i h,tn i h->∀b∈fp,∃o,h.get? b=some o/\∀v,o.data≠.cell v
 keep:∀i h h',tn i h->(∀b∈fp,∀o,h.get? b=some o->h'.get? b=some o)->tn i h'
 item:∀(X:Cx),X.prog=P->X.w=w->X.K=K->X.calm=true->∀(i:Nat) (pins:aG) (s:Shared) (σ:St) (H:Hp) (E:aP),Inv X pins σ H s->(∀b∈fp,lL X pins H b)->tn i s.heap->J.go i H->
  wpAny (model P w) X.A (pyNext (.ref it)) (λr s1=>∃u,r=some u/\
   wpAny (model P w) X.A (letOwnedTupleGo tg (.ref it) u) (λ_ s2=>∃x H',Inv X pins σ H' s2/\RelV x u/\J.Bf i H x H'/\tn (i+1) s2.heap/\∀b∈fp,H' b=none) E s1) E s
 done:∀(X:Cx),X.prog=P->X.w=w->X.K=K->X.calm=true->∀(i:Nat) (pins:aG) (s:Shared) (σ:St) (H:Hp) (E:aP),Inv X pins σ H s->(∀b∈fp,lL X pins H b)->tn i s.heap->J.stop i H->
  wpAny (model P w) X.A (pyNext (.ref it)) (λr s1=>r=none/\Inv X pins σ H s1) E s
 self:∀(A:Around) (i:Nat) (s:Shared) (Q:aP) (E:aP),tn i s.heap->Q (.ref it) s->wpAny (model P w) A (pyIter (.ref it)) Q E s
abbrev TI:=St->Hp->(It->Hp->Prop)->Prop
def Bh(X:Cx)(pins:aG)(σ:St)(tg:Expr)(R:It->Hp->Prop)(I:Value)(s2:Shared):Prop:=
 ∃(it:Addr) (W:List Addr) (tn:Nat->Heap->Prop) (J:It) (H':Hp),I= .ref it/\Inv X pins σ H' s2/\Turn X.prog X.w X.K tg J W it tn/\tn 0 s2.heap/\(∀b∈W,lL X pins H' b)/\R J H'
def PI(X:Cx)(tg iter:Expr)(I:TI):Prop:=
 ∀(pins:aG) (s:Shared) (σ:St) (H:Hp) (R:It->Hp->Prop),Inv X pins σ H s->I σ H R->
  wpAny (model X.prog X.w) X.A (eval iter X.env) (λv s1=>wpAny (model X.prog X.w) X.A (pyIter v) (Bh X pins σ tg R) X.xe s1) X.xe s
theorem uo{s:Shared}{n:String}{vs:Array Value}(ho:s.heap.get? it=some o)(J:o.cls= .type n)(hd:o.data= .fields vs)
 (W:["enumerate","zip","dict_itemiterator","dict_reverseitemiterator","odict_iterator","itertools.zip_longest","itertools.pairwise"].contains n=false) (I:Q () s):wpAny M A (letOwnedTupleGo tg (.ref it) u) Q E s:=by
 unfold letOwnedTupleGo;cases tg<;>first
  |exact wpAny_pure I
  |(cases u<;>first
   |exact wpAny_pure I
   |(refine wpAny_bind (wpAny_load ho ?_)
     rw[J,hd];show wpAny M A (if(["enumerate","zip","dict_itemiterator","dict_reverseitemiterator","odict_iterator","itertools.zip_longest","itertools.pairwise"].contains n&&vs[0]? ==some (rawInt _))=true then _ else _) Q E s
     rw[if_neg (by intro h;rw[W,Bool.false_and]at h;cases h)]
     exact wpAny_pure I))
def uR(K:ag)(a:Addr):It:=
 ⟨λi H=>∃xs x,cB K H a xs/\xs[i]? =some x,λi H x H'=>H'=H/\∀xs,cB K H a xs->xs[i]? =some x,λi H=>∃xs,cB K H a xs/\xs.length<=i⟩
def Bg(K:ag)(a:Addr):It:=
 ⟨λi H=>∃xs x,bS K H a xs/\xs[i]? =some x,λi H x H'=>H'=H/\∀xs,bS K H a xs->xs[i]? =some x,λi H=>∃xs,bS K H a xs/\xs.length<=i⟩
def uU(lo:Int)(n:Nat):It:=⟨λi _=>i<n,λi H x H'=>H'=H/\x= .int (lo+i),λi _=>n<=i⟩
theorem Qw{P:Program}{w:World}{K:ag}(a it:Addr):Turn P w K tg (uR K a) [it] it (λi h=>h.IsListIter it a i) where
 mem:=by simp
 obj:=λi h st b hb=>by
  have e:b=it:=by simpa using hb
  subst e;obtain⟨o,e,c,d⟩:=st;exact⟨o,e,λv z=>by rw[d]at z;cases z⟩
 keep:=λi h h' st k=>st.at λo e=>k it (by simp) o e
 item:=by
  intro X hP hw hK hc i pins s σ H E I hf st hg;subst hP hw hK;obtain⟨xs,x,hq,hx⟩:=hg;obtain⟨ae,rv,p,hz⟩:=I.list hq;obtain⟨u,hu,ru⟩:=rv.get hx;obtain⟨f0,f1,f2,f3,f4,f5⟩:=hf it (by simp)
  refine wpAny_pyNext_list_item st p.isList (x:=u) (by simpa using hu) λh' st' sb=>?_
  have I1:Inv X pins σ H { s with heap:=h' }:=I.turned (t':=s.toks) (λb o hb e=>(sb.2 b hb).trans e) f0 f1 f3 f4 f5
  obtain⟨o,e,c,d⟩:=id st';exact⟨u,rfl,uo (s:={ s with heap:=h' }) e c d (by decide) ⟨x,H,I1,ru,⟨rfl,λys hy=>by rw[I.i3 hy hq];exact hx⟩,st',λb hb=>(hf b hb).1⟩⟩
 done:=by
  intro X hP hw hK hc i pins s σ H E I hf st hg;subst hP hw hK;obtain⟨xs,hq,hx⟩:=hg;obtain⟨ae,rv,p,hz⟩:=I.list hq;obtain⟨f0,f1,f2,f3,f4,f5⟩:=hf it (by simp)
  have hl:=rv.length;exact wpAny_pyNext_list_end (I.ok.hd hc) st p.isList (by simp;omega) λh' eb=>⟨rfl,I.turned (t':=s.toks) (λb o hb e=>eb b o hb e) f0 f1 f3 f4 f5⟩
 self:=λ_ _ _ _ _ st h=>wpAny_pyIter_listiter st h
theorem EB{P:Program}{w:World}{K:ag}(a it):Turn P w K tg (Bg K a) [it] it (λi h=>h.IsTupleIter it a i) where
 mem:=by simp
 obj:=λi h st b J=>by
  have e:b=it:=by simpa using J
  subst e;obtain⟨o,e,c,d⟩:=st;exact⟨o,e,λv z=>by rw[d]at z;cases z⟩
 keep:=λi h h' st k=>st.at λo e=>k it (by simp) o e
 item:=by
  intro X hP hw hK hc i pins s σ H E I Y st hg;subst hP hw hK;obtain⟨xs,x,Z,hx⟩:=hg;obtain⟨ae,rv,p,hz⟩:=I.tuple Z;obtain⟨u,hu,ru⟩:=rv.get hx;obtain⟨f0,f1,f2,f3,f4,f5⟩:=Y it (by simp)
  refine wpAny_pyNext_tuple_item st (show s.heap.IsTuple a ae.toArray from p) (x:=u) (by simpa using hu) λh' W sb=>?_
  have I1:Inv X pins σ H { s with heap:=h' }:=I.turned (t':=s.toks) (λb o J e=>(sb.2 b J).trans e) f0 f1 f3 f4 f5
  obtain⟨o,e,c,d⟩:=id W;exact⟨u,rfl,uo (s:={ s with heap:=h' }) e c d (by decide) ⟨x,H,I1,ru,⟨rfl,λys hy=>by rw[I.iB hy Z];exact hx⟩,W,λb J=>(Y b J).1⟩⟩
 done:=by
  intro X hP hw hK hc i pins s σ H E I Y st hg;subst hP hw hK;obtain⟨xs,Z,hx⟩:=hg;obtain⟨ae,rv,p,hz⟩:=I.tuple Z;obtain⟨f0,f1,f2,f3,f4,f5⟩:=Y it (by simp)
  have hl:=rv.length;exact wpAny_pyNext_tuple_end (I.ok.hd hc) st (show s.heap.IsTuple a ae.toArray from p) (by simp;omega) λh' eb=>⟨rfl,I.turned (t':=s.toks) (λb o J e=>eb b o J e) f0 f1 f3 f4 f5⟩
 self:=λ_ _ _ _ _ st h=>wpAny_pyIter_tupleiter st h
theorem PY{P:Program}{w:World}{K:ag}(it:Addr)(lo:Int)(n:Nat):Turn P w K tg (uU lo n) [it] it (λi h=>IsRangeIter h it (lo+(i:Nat)*1) ((n:Int)-(i:Nat)) 1) where
 mem:=by simp
 obj:=λi h st b hb=>by
  have e:b=it:=by simpa using hb
  subst e;exact⟨_,st,λv z=>by
   have z':Data.fields _=Data.cell v:=z;cases z'⟩
 keep:=λi h h' st k=>k it (by simp) _ st
 item:=by
  intro X hP hw hK hc i pins s σ H E I hf st hg;subst hP hw hK;obtain⟨f0,f1,f2,f3,f4,f5⟩:=hf it (by simp)
  have W:=Walks.range (prog:=X.prog) (w:=X.w) (I.ok.hd hc) it lo 1 n;refine W.item i s _ _ hg st λv h' tk hv st' kk=>?_
  obtain⟨t,rfl⟩:=hv;have I1:Inv X pins σ H { s with heap:=h',toks:=tk }:=I.turned (λb o hb e=>kk b o (by simpa using hb) e) f0 f1 f3 f4 f5
  refine⟨_,rfl,uo (s:={ s with heap:=h',toks:=tk }) (n:="range_iterator") st' rfl rfl (by decide) ⟨.int (lo+i),H,I1,⟨t,?_⟩,⟨rfl,rfl⟩,st',λb hb=>(hf b hb).1⟩⟩
  rw[Int.mul_one]
 done:=by
  intro X hP hw hK hc i pins s σ H E I hf st hg;subst hP hw hK;obtain⟨f0,f1,f2,f3,f4,f5⟩:=hf it (by simp)
  exact wpAny_pyNext_range_end (I.ok.hd hc) st (by have:n<=i:=hg;omega) λh' eb=>⟨rfl,I.turned (t':=s.toks) (λb o hb e=>eb b o hb e) f0 f1 f3 f4 f5⟩
 self:=λ_ _ _ _ _ st h=>wpAny_pyIter_rangeiter st h
section
variable {X:Cx}{tg:Expr}
theorem RY{s:Shared}{lo hi:Int}{t u v:Tok}{tk:Nat}(I:Inv X pins σ H s)(h1:-(2 ^ 62)<=lo)(h2:lo<2 ^ 62)(Y:-(2 ^ 62)<=hi)(Z:hi<2 ^ 62)
 (q:R (uU lo (hi-lo).toNat) H):wpAny (model X.prog X.w) X.A (pyIter (.ref s.heap.objs.size)) (Bh X pins σ tg R) E { s with heap:=s.heap.push { cls:=.type "range",data:=.fields #[.int lo t,.int hi u,.int 1 v] },toks:=tk }:=by
 refine wpAny_pyIter_range (IsRange.new ..) (small_one h1 h2 Y Z) ?_;have J:Inv X pins σ H { s with heap:=s.heap.push { cls:=.type "range",data:=.fields #[.int lo t,.int hi u,.int 1 v] },toks:=tk }:=I.kept λb o e=>Heap.get?_push_of_some _ e
 refine⟨(s.heap.push { cls:=.type "range",data:=.fields #[.int lo t,.int hi u,.int 1 v] }).objs.size,[(s.heap.push { cls:=.type "range",data:=.fields #[.int lo t,.int hi u,.int 1 v] }).objs.size],_,_,H,rfl,
  J.kept (t':=tk) λb o e=>Heap.get?_push_of_some _ e,PY _ lo (hi-lo).toNat,?_,λb hb=>?_,q⟩
 . have e1:lo+((0:Nat):Int)*1=lo:=by simp
   have W:(((hi-lo).toNat:Nat):Int)-((0:Nat):Int)=Builtin.Range.rangeSize lo hi 1:=by rw[rangeSize_one];split<;>omega
   show IsRangeIter _ _ (lo+((0:Nat):Int)*1) ((((hi-lo).toNat:Nat):Int)-((0:Nat):Int)) 1;rw[e1,W];exact Heap.get?_push_size _ rfl
 . have e:b=(s.heap.push { cls:=.type "range",data:=.fields #[.int lo t,.int hi u,.int 1 v] }).objs.size:=by simpa using hb
   subst e;exact J.fK (aU _) (J.av.fresh (aU _))
def XW(ta:TA):TI:=λσ H R=>ta σ H λvs H1=>∃j:Int,vs= [.int j]/\-(2 ^ 62)<=j/\j<2 ^ 62/\R (uU 0 j.toNat) H1
theorem QM{a:Expr}{ta:TA}{p pos:Pos}(hg:Gl X "range")(hm:X.mg "range" =none)(ha:PA X [a] ta)(hs:starEach [a] X.env= [(false,eval a X.env)]:=by rfl):PI X tg (.Call (.Name "range" p) [a] [] pos) (XW ta):=by
 intro pins s σ H R I h;refine Call_ (mB I hg hm boot_range (uK (aA (ha pos pins s σ H _ I h) λus s1 zz=>?_) hs rfl));obtain⟨vs,H1,I1,r1,q1⟩:=zz
 obtain⟨j,e,q1,q2,q⟩:=q1;subst e;cases r1 with
 |cons r rr=>
  cases rr;obtain⟨t,rfl⟩:=r;exact call_range_1 (RY I1 (by omega) (by omega) q1 q2 (by simpa using q))
def MK(Z:TI)(g:TG)(tb:TS):TS:=λD σ H=>Z σ H λJ H1=>∃W:Nat->Nat->St->Hp->Prop,(∃m,W 0 m σ H1)/\∀i m σ H,W i m σ H->
 (J.stop i H/\D.nx σ H)∨(J.go i H/\∃N:St->Hp->Prop,(∀I H',N I H'->∃Y,Y<m/\W (i+1) Y I H')/\∀x H',J.Bf i H x H'->g x σ H' λσ2 H2=>tb { D with nx:=N,ct:=N,bk:=D.nx } σ2 H2)
def mz(I:List Addr)(h:Heap):aG:=I.filterMap λb=>(h.get? b).map λo=>(b,o)
theorem zb{h:Heap}{b:Addr}(I:b∈fp)(e:h.get? b=some o):(b,o)∈mz fp h:=uM.mpr ⟨b,I,by rw[e];rfl⟩
theorem E2{p:Addr×Obj}(W:p∈mz fp h):p.1∈fp/\h.get? p.1=some p.2:=by
 obtain⟨b,J,e⟩:=uM.mp W;cases q:h.get? b with
 |none=>rw[q]at e;cases e
 |some o=>
  rw[q]at e;have I:(b,o)=p:=Option.some.inj e;subst I;exact⟨J,q⟩
theorem Inv.pinned{s:Shared}(I:Inv X pins σ H s)(hf:∀b∈W,lL X pins H b)(ho:∀b∈W,∃o,s.heap.get? b=some o/\∀v,o.data≠.cell v):Inv X (pins++mz W s.heap) σ H s:=
 I.eV λp hp=>(eZ.mp hp).elim (λz=>I.pin p (iD _ z)) λz=>by
  obtain⟨Y,e⟩:=E2 z;obtain⟨Z,f1,f2,_⟩:=hf p.1 Y;obtain⟨o,J,d⟩:=ho p.1 Y;rw[e]at J;cases J;exact⟨e,Z,f1,f2,d⟩
theorem Inv.dj{pins pl:aG}{s:Shared}(I:Inv X (pins++pl) σ H s):Inv X pins σ H s:=I.eV λp J=>I.pin p (iD _ (yn _ J))
theorem Ug{iter:Expr}{body:List Stmt}{wi:TI}{g:TG}{tb:TS}{pos:Pos}(hp:PassesOwn (model X.prog X.w) X.A X.env X.xe)(hc:X.calm=true)(hi:PI X tg iter wi)(hg:PG X tg g)(hb:f9 X body tb)
 (hs:∀x,foldedSetIterable iter X.env x=pure x:=by intro _;rfl):PS X (.For tg iter body [] pos) (MK wi g tb):=by
 intro pins s σ H D I h;refine wpAny_For (aA (hi pins s σ H _ I h) λv s1 h1=>aA h1 λitv s2 h2=>?_) hs
 obtain⟨it,fp,tn,J,H2,e,I2,T,st2,f2,W,⟨m0,w0⟩,turn⟩:=h2;subst e;have stat:∀{H':Hp},(∀b∈fp,H' b=none)->∀b∈fp,lL X pins H' b:=λhn b hb=>⟨hn b hb,(f2 b hb).2⟩
 refine codeAny_forLoop_any (λn s'=>∃i σ' H',Inv X pins σ' H' s'/\tn i s'.heap/\(∀b∈fp,H' b=none)/\W i n σ' H') ?_ m0 ⟨0,σ,H2,I2,st2,λb hb=>(f2 b hb).1,w0⟩
 rintro n s3 ⟨i,σ3,H3,I3,st3,fr3,w3⟩;rcases turn i n σ3 H3 w3 with⟨stop,qn⟩|⟨go,N,hN,step⟩
 . refine wpAny_passesOwn hp (aA (T.done X rfl rfl rfl hc i pins s3 σ3 H3 X.xe I3 (stat fr3) st3 stop) λr s4 zz=>?_);obtain⟨hr,I4⟩:=zz
   subst hr;exact wpAny_execs_nil ⟨σ3,H3,I4,qn⟩
 . refine wpAny_passesOwn hp (aA (T.item X rfl rfl rfl hc i pins s3 σ3 H3 X.xe I3 (stat fr3) st3 go) λr s4 zz=>?_);obtain⟨u,hr,h4⟩:=zz
   subst hr;refine wpAny_passesOwn hp (aA h4 λ_ s5 zz=>?_);obtain⟨x,H5,I5,r5,y5,st5,fr5⟩:=zz
   have I5':=I5.pinned (stat fr5) (T.obj _ _ st5);refine wpAny_passesOwn hp (aA (hg _ s5 σ3 H5 x u _ I5' r5 (step x H5 y5)) λ_ s6 zz=>?_);obtain⟨σ6,H6,I6,q6⟩:=zz
   refine wpAny_passesOwn hp (aA (hb _ s6 σ6 H6 _ I6 q6) λf s7 q7=>?_)
   have again:∀{σ7:St} {H7:Hp},Inv X (pins++mz fp s5.heap) σ7 H7 s7->N σ7 H7->∃m,m<n/\∃i σ' H',Inv X pins σ' H' s7/\tn i s7.heap/\(∀b∈fp,H' b=none)/\W i m σ' H':=λ{σ7 H7} I7 n7=>by
    obtain⟨m',hm,w7⟩:=hN σ7 H7 n7;refine⟨m',hm,i+1,σ7,H7,I7.dj,T.keep _ _ _ st5 λb hb o e=>(I7.pin (b,o) (iD _ (iD _ (zb hb e)))).1,λb hb=>?_,w7⟩
    obtain⟨o,e,d⟩:=T.obj _ _ st5 b hb;exact(I7.pin (b,o) (iD _ (iD _ (zb hb e)))).2.1
   cases f with
   |next=>obtain⟨σ7,H7,I7,n7⟩:=q7;exact again I7 n7
   |cont=>obtain⟨σ7,H7,I7,n7⟩:=q7;exact again I7 n7
   |brk=>obtain⟨σ7,H7,I7,q7⟩:=q7;exact⟨σ7,H7,I7.dj,q7⟩
   |ret v=>obtain⟨x7,σ7,H7,I7,r7,q7⟩:=q7;exact⟨x7,σ7,H7,I7.dj,r7,q7⟩
end
abbrev R2:=V->V->Hp->VK->Prop
def dP(X:Cx)(f:Value->Value->Sem Value)(r:R2):Prop:=
 ∀pins s σ H x y v u Q,Inv X pins σ H s->RelV x v->RelV y u->r x y H Q->
  wpAny (model X.prog X.w) X.A (f v u) (EP X pins σ Q) X.xe s
def Bo(X:Cx)(f:Value->Sem Value)(r:V->Hp->VK->Prop):Prop:=
 ∀pins s σ H x v Q,Inv X pins σ H s->RelV x v->r x H Q->
  wpAny (model X.prog X.w) X.A (f v) (EP X pins σ Q) X.xe s
def dw(X:Cx)(f:Value)(r:LV->Hp->VK->Prop):Prop:=
 ∀pins s σ H xs us Q,Inv X pins σ H s->Vals xs us->r xs H Q->
  wpAny (model X.prog X.w) X.A (call f us) (EP X pins σ Q) X.xe s
def qV(r:R2)(ta tb:TE):TE:=λσ H Q=>ta σ H λx H1=>tb σ H1 λy H2=>r x y H2 Q
def Le(r:V->Hp->VK->Prop)(ta:TE):TE:=λσ H Q=>ta σ H λx H1=>r x H1 Q
def rI(C:Int->Int->Prop)(g:Int->Int->V):R2:=λx y H Q=>∃i j,x= .int i/\y= .int j/\C i j/\Q (g i j) H
def mR(g:Int->Int->V):R2:=λx y H Q=>∃i j,x= .int i/\y= .int j/\Q (g i j) H
section
variable {X:Cx}{a b c:Expr}{ta tb tc:TE}{pos:Pos}
theorem AZ(ha:PE X a ta)(hb:PE X b tb){pins:aG}{s:Shared}{σ:St}{H:Hp}{R:V->V->Hp->Prop}(I:Inv X pins σ H s)
 (h:ta σ H λx H1=>tb σ H1 λy H2=>R x y H2) {Q:aP} {f:Value->Value->Sem Value}
 (hf:∀v u s2 x y H2,Inv X pins σ H2 s2->RelV x v->RelV y u->R x y H2->wpAny (model X.prog X.w) X.A (f v u) Q X.xe s2):
 wpAny (model X.prog X.w) X.A (eval a X.env) (λv s₁=>wpAny (model X.prog X.w) X.A (eval b X.env) (λu s₂=>wpAny (model X.prog X.w) X.A (f v u) Q X.xe s₂) X.xe s₁) X.xe s:=by
 refine aA (ha pins s σ H _ I h) λv s1 zz=>?_;obtain⟨x,H1,I1,r1,q1⟩:=zz
 refine aA (hb pins s1 σ H1 _ I1 q1) λu s2 zz=>?_;obtain⟨y,H2,I2,r2,q2⟩:=zz
 exact hf v u s2 x y H2 I2 r1 r2 q2
theorem W6{op:Operator}(ho:dP X (binaryOp op) r)(ha:PE X a ta)(hb:PE X b tb):PE X (.BinOp a op b pos) (qV r ta tb):=by
 intro pins s σ H Q I h;exact wpAny_BinOp (AZ ha hb I h λv u s2 x y H2 I2 rx ry q=>ho pins s2 σ H2 x y v u Q I2 rx ry q)
theorem W4{op:UnaryOp}(ho:Bo X (unaryOp op) r)(J:PE X a ta):PE X (.UnaryOp op a pos) (Le r ta):=by
 intro pins s σ H Q I h;exact UnaryOp_ (aA (J pins s σ H _ I h) λv s1 ⟨x,H1,I1,r1,q1⟩=>ho pins s1 σ H1 x v Q I1 r1 q1)
theorem vC{g:Int->Int->Int}
 (J:∀i j t u s Q E,C i j->Q (.int (g i j) s.toks) { s with toks:=s.toks+1 }->wpAny (model X.prog X.w) X.A (f (.int i t) (.int j u)) Q E s):
 dP X f (rI C λi j=>.int (g i j)):=by
 intro pins s σ H x y v u Q I Y Z h;obtain⟨i,j,rfl,rfl,W,q⟩:=h;obtain⟨t,rfl⟩:=Y;obtain⟨t',rfl⟩:=Z;exact J i j t t' s _ _ W ⟨.int (g i j),H,I.tok _,⟨_,rfl⟩,q⟩
theorem Dk{g:Int->Int->Int}
 (J:∀i j t u s Q E,Q (.int (g i j) s.toks) { s with toks:=s.toks+1 }->wpAny (model X.prog X.w) X.A (f (.int i t) (.int j u)) Q E s):
 dP X f (mR λi j=>.int (g i j)):=by
 intro pins s σ H x y v u Q I W Y h;obtain⟨i,j,rfl,rfl,q⟩:=h;obtain⟨t,rfl⟩:=W;obtain⟨t',rfl⟩:=Y;exact J i j t t' s _ _ ⟨.int (g i j),H,I.tok _,⟨_,rfl⟩,q⟩
theorem xW{g:Int->Int->Bool}
 (J:∀i j t u s Q E,Q (.bool (g i j)) s->wpAny (model X.prog X.w) X.A (f (.int i t) (.int j u)) Q E s):
 dP X f (mR λi j=>.bl (g i j)):=by
 intro pins s σ H x y v u Q I W Y h;obtain⟨i,j,rfl,rfl,q⟩:=h;obtain⟨t,rfl⟩:=W;obtain⟨t',rfl⟩:=Y;exact J i j t t' s _ _ ⟨.bl (g i j),H,I,rfl,q⟩
def N7(i j:Int):Prop:=0<j/\j<1073741824
def N6(i j:Int):Prop:=0<=j/\j<=1000000/\i.natAbs<2 ^ 64
def hB(i j:Int):Prop:=(-(2 ^ 64)<i/\i<2 ^ 64)∨(-(2 ^ 64)<j/\j<2 ^ 64)
theorem hB.ok{i j:Int}(h:hB i j):IntMulOk i j:=by
 rcases h with⟨h1,h2⟩|⟨h1,h2⟩
 . exact .of_left (intBits_le_64 h1 h2)
 . exact .of_right (intBits_le_64 h1 h2)
theorem Vy:dP X (binaryOp .Add) (mR λi j=>.int (i+j)):=Dk λ_ _ _ _ _ _ _ q=>add_int q
theorem Vs:dP X (binaryOp .Sub) (mR λi j=>.int (i-j)):=Dk λ_ _ _ _ _ _ _ q=>sub_int q
theorem Vv:dP X (binaryOp .Mult) (rI hB λi j=>.int (i*j)):=vC λ_ _ _ _ _ _ _ I q=>mul_int q I.ok
theorem TJ:dP X (binaryOp .FloorDiv) (rI N7 λi j=>.int (i / j)):=vC λi j _ _ _ _ _ I q=>by
 have h1:(0:Int)<j:=I.1;have h2:j<1073741824:=I.2;exact floordiv_int (by omega) (by rw[Int.fdiv_eq_ediv_of_nonneg i (by omega)];exact q) (.inl (PyProof.noPylong_small (by omega)))
theorem Vw:dP X (binaryOp .Mod) (rI (λ_ j=>0<j) λi j=>.int (i % j)):=vC λi j _ _ _ _ _ I q=>by
 have h1:(0:Int)<j:=I;exact mod_int' (by omega) (by rw[Int.fmod_eq_emod_of_nonneg i (by omega)];exact q)
theorem Vu:dP X (binaryOp .Pow) (rI N6 λi j=>.int (i ^ j.toNat)):=vC λ_ _ _ _ _ _ _ I q=>pow_int_small I.1 I.2.1 I.2.2 q
theorem Hw{s:Shared}(I:Inv X pins σ H s)(q:Q (.bl k) H)(e:k=k'):EP X pins σ Q (.bool k') s:=by
 subst e;exact⟨.bl k,H,I,rfl,q⟩
theorem Xb:dP X (compareOp .Lt) (mR λi j=>.bl (decide (i<j))):=xW λ_ _ _ _ _ _ _ q=>lt_int q
theorem Xc:dP X (compareOp .LtE) (mR λi j=>.bl (decide (i<=j))):=xW λ_ _ _ _ _ _ _ q=>le_int q
theorem Xd:dP X (compareOp .Gt) (mR λi j=>.bl (decide (j<i))):=xW λ_ _ _ _ _ _ _ q=>gt_int q
theorem Xe:dP X (compareOp .GtE) (mR λi j=>.bl (decide (j<=i))):=xW λ_ _ _ _ _ _ _ q=>ge_int q
theorem Vx:dP X (compareOp .Is) (λx y H Q=>y= .ak/\Q (.bl (decide (x= .ak))) H):=by
 intro pins s σ H x y v u Q I J W h;obtain⟨rfl,q⟩:=h;cases W;refine is_none_gen (Hw I q ?_);cases x<;>first
  |(cases J;rfl)
  |(obtain⟨t,rfl⟩:=J;rfl)
theorem TH:dP X (compareOp .IsNot) (λx y H Q=>y= .ak/\Q (.bl (!decide (x= .ak))) H):=by
 intro pins s σ H x y v u Q I J W h;obtain⟨rfl,q⟩:=h;cases W;refine isnot_none_gen (Hw I q ?_);cases x<;>first
  |(cases J;rfl)
  |(obtain⟨t,rfl⟩:=J;rfl)
theorem HI(b:Expr){op:CmpOp}(h:op≠.In:=by decide)(h2:op≠.NotIn:=by decide):behindInMarks op b=false:=by
 have e1:(op==CmpOp.In)=false:=by cases op<;>first|rfl|exact absurd rfl h
 have I:(op==CmpOp.NotIn)=false:=by cases op<;>first|rfl|exact absurd rfl h2
 cases b<;>simp[behindInMarks,e1,I]
theorem GN{op:CmpOp}(ho:dP X (compareOp op) r)(ha:PE X a ta)(hb:PE X b tb)(hm:behindInMarks op b=false):PE X (.Compare a [op] [b] pos) (qV r ta tb):=by
 intro pins s σ H Q I h;exact wpAny_Compare1 (AZ ha hb I h λv u s2 x y H2 I2 rx ry q=>ho pins s2 σ H2 x y v u Q I2 rx ry q) hm
def Iz(t:TE):TT:=λσ H Q=>t σ H λx H'=>∃k,x= .bl k/\Q k H'
theorem Gj{op:CmpOp}(ho:dP X (compareOp op) r)(J:PE X a ta)(W:PE X b tb)(Y:behindInMarks op b=false):PT X (.Compare a [op] [b] pos) (Iz (qV r ta tb)):=by
 intro pins s σ H Q I h;refine wpAny_isTrue_Compare1 (aA (J pins s σ H _ I h) λv s1 ⟨x,H1,I1,r1,q1⟩=>aA (W pins s1 σ H1 _ I1 q1) λu s2 ⟨y,H2,I2,r2,q2⟩=>
  aA (ho pins s2 σ H2 x y v u _ I2 r1 r2 q2) λc s3 ⟨z,H3,I3,r3,k,e,q3⟩=>?_) Y
 subst e;cases r3;exact wpAny_truthy_bool ⟨H3,I3,q3⟩
def zW(r r':R2)(ta tb tc:TE):TE:=λσ H Q=>ta σ H λx H1=>tb σ H1 λy H2=>r x y H2 λz H3=>∃k,z= .bl k/\
 (if k=true then tc σ H3 λw' H4=>r' y w' H4 Q else Q (.bl false) H3)
theorem Sg{op J:CmpOp}(ho:dP X (compareOp op) r)(W:dP X (compareOp J) r')(Y:PE X a ta)(Z:PE X b tb)(hc:PE X c tc)
 (hm:lastMarks [op,J] [b,c]=false:=by with_unfolding_all rfl):PE X (.Compare a [op,J] [b,c] pos) (zW r r' ta tb tc):=by
 intro pins s σ H Q I h;refine Compare_chain (aA (Y pins s σ H _ I h) λv s1 ⟨x,H1,I1,r1,q1⟩=>chain_link (aA (Z pins s1 σ H1 _ I1 q1) λu s2 ⟨y,H2,I2,r2,q2⟩=>
  aA (ho pins s2 σ H2 x y v u _ I2 r1 r2 q2) λd s3 ⟨z,H3,I3,r3,k,e,q3⟩=>?_)) hm
 subst e;cases r3;refine wpAny_truthy_bool ?_;cases k with
 |false=>exact ite_ff ⟨.bl false,H3,I3,rfl,q3⟩
 |true=>exact ite_tt (chain_last (aA (hc pins s3 σ H3 _ I3 q3) λw' s4 ⟨z',H4,I4,r4,q4⟩=>W pins s4 σ H4 y z' u w' Q I4 r2 r4 q4))
theorem R3{op op':CmpOp}{r r':R2}(ho:dP X (compareOp op) r)(ho':dP X (compareOp op') r')(ha:PE X a ta)(hb:PE X b tb)(hc:PE X c tc)
 (hm:lastMarks [op,op'] [b,c]=false:=by with_unfolding_all rfl):PT X (.Compare a [op,op'] [b,c] pos) (Iz (zW r r' ta tb tc)):=by
 intro pins s σ H Q I h;refine isTrue_chain (aA (ha pins s σ H _ I h) λv s1 ⟨x,H1,I1,r1,q1⟩=>test_link (aA (hb pins s1 σ H1 _ I1 q1) λu s2 ⟨y,H2,I2,r2,q2⟩=>
  aA (ho pins s2 σ H2 x y v u _ I2 r1 r2 q2) λd s3 ⟨z,H3,I3,r3,k,e,q3⟩=>?_)) hm
 subst e;cases r3;refine wpAny_truthy_bool ?_;cases k with
 |false=>
  obtain⟨k',e',q'⟩:=q3;cases e';exact ite_ff ⟨H3,I3,q'⟩
 |true=>
  refine ite_tt (test_last (aA (hc pins s3 σ H3 _ I3 q3) λw' s4 ⟨z',H4,I4,r4,q4⟩=>aA (ho' pins s4 σ H4 y z' u w' _ I4 r2 r4 q4) λd' s5 zz=>?_));obtain⟨z2,H5,I5,r5,k2,e2,q5⟩:=zz
  subst e2;cases r5;exact wpAny_truthy_bool ⟨H5,I5,q5⟩
theorem qB:(sizeLine:Nat)<2 ^ 63:=by rw[sizeLine_eq];decide
theorem PJ:dP X (binaryOp .Add) (λx y H Q=>∃i j,x= .str i/\y= .str j/\i.length+j.length<=sizeLine/\Q (.str (i++j)) H):=by
 intro pins s σ H x y v u Q I J W h;obtain⟨i,j,rfl,rfl,hz,q⟩:=h;obtain⟨t,rfl⟩:=J;obtain⟨t',rfl⟩:=W;exact add_str (λt' tk=>⟨.str (i++j),H,I.tok _,⟨_,rfl⟩,q⟩) hz
theorem vals1{x:V}{us:au}(r:Vals [x] us):∃u,us= [u]/\RelV x u:=by
 cases r with
 |cons r1 r2=>cases r2;exact⟨_,rfl,r1⟩
theorem vals2{x y:V}{us:au}(r:Vals [x,y] us):∃u I,us= [u,I]/\RelV x u/\RelV y I:=by
 cases r with
 |cons r1 r2=>
  cases r2 with
  |cons r3 r4=>cases r4;exact⟨_,_,rfl,r1,r3⟩
theorem Sq:dw X (.builtin "ord") (λxs H Q=>∃x,xs= [.str x]/\x.length=1/\Q (.int (x.cps.getD 0 0:Nat)) H):=by
 intro pins s σ H xs us Q I r h;obtain⟨x,rfl,hz,q⟩:=h;obtain⟨u,rfl,t,rfl⟩:=vals1 r;exact ord_of_one hz ⟨.int _,H,I.tok _,⟨_,rfl⟩,q⟩
end
structure dM(h:Heap)(x dx C:Addr)(mA:bq):Prop where
 obj:h.get? x=some (m8 C dx)
 ns:h.Ns1 dx mA
 ne:dx≠x
theorem QW{h:Heap}(n:h.Ns1 dx mA):∃J,h.get? dx=some J/\∀name,PySem.W.lookIn name J=some (mA name):=by
 obtain⟨o,es,ep,ho,hd,hk,_,Z⟩:=n;refine⟨o,ho,λname=>?_⟩
 have e:=Z name;unfold nsFind findBy at e;rw[<-Array.find?_toList]at e;unfold PySem.W.lookIn;rw[hd];dsimp only;split
 . rename_i y q
   rw[q]at e;exact congrArg some e
 . rename_i q
   rw[q]at e;have a:es.toList.any (·.refKey)=false:=by
    rw[List.any_eq_false];intro y hy;obtain⟨z,t,I⟩:=hk y (Array.mem_toList_iff.mp hy);simp[DictEntry.refKey,I]
   have Y:¬es.toList.any (·.refKey)=true:=by rw[a];exact iE
   rw[if_neg Y];exact congrArg some e
theorem dM.look{x dx C:Addr}(I:dM h x dx C mA):∃J,PySem.W.InstAt h x (m8 C dx) C (some J)/\∀name,PySem.W.lookIn name J=some (mA name):=
 let⟨J,ho,hl⟩:=QW I.ns
 ⟨J,⟨I.obj,rfl,rfl,ho⟩,hl⟩
section
variable {prog:Program}{w:World}{A:Around}{E:aP}{s:Shared}{K:ag}{x dx C f:Addr}{mA:bq}{name:Str}{v:Value}
theorem get_map(X:K.In s.heap)(I:dM s.heap x dx C mA)(hg:uO K C name=true)(hh:yp K C=true)
 (Z:PySem.W.findIn K (.ref C) name=some none) (hv:mA name=some v) (Y:PySem.W.handedIn v=true) (h:Q v { s with toks:=s.toks+1 }):
 wpAny (model prog w) A (getAttr (.ref x) name expr) Q E s:=by
 obtain⟨od,J,hl⟩:=I.look;exact PySem.W.get_value X J (PySem.W.plainGet_of hg).1 (PySem.W.findObj_own hh Z rfl (by rw[hl,hv])) Y h
theorem RP{pl:Sem Bool}(X:K.In s.heap)(I:dM s.heap x dx C mA)(Y:uO K C name=true)
 (Z:PySem.W.findIn K (.ref C) name=some (some (.ref f))) (ht:PySem.W.isFn K (.ref f)=true) (hv:mA name=none) (h:Q (.ref f,[.ref x]) s):
 wpAny (model prog w) A (getMethod (.ref x) name pl) Q E s:=by
 obtain⟨od,J,hl⟩:=I.look;exact PySem.W.method_fn X J (PySem.W.plainGet_of Y).1 (PySem.W.plainGet_of Y).2 Z (beq_iff_eq.mp ht) (by show(PySem.W.lookIn name od).map (·.isSome)=some false;rw[hl,hv];rfl) h
theorem Tp{ns:az}(X:K.In s.heap)(I:dM s.heap x dx C mA)
 (hs:PySem.W.findIn K (.ref C) "__setattr__" =some (some (.builtin "object.__setattr__"))) (hp:PySem.W.plainOver K C=true) (ht:PySem.W.takerIn K C name=some none) (hh:yp K C=true)
 (hw:PySem.Within mA ns) (hsz:ns.length<=sizeLine)
 (h:∀h',dM h' x dx C (λy=>if y=name then some v else mA y)->Heap.SameBut dx s.heap h'->Q () { s with heap:=h',toks:=s.toks+2 }):
 wpAny (model prog w) A (setAttr (.ref x) name v) Q E s:=by
 obtain⟨od,J,hl⟩:=I.look;refine PySem.W.set_plain X J hs (PySem.W.osa_open (s:={ s with toks:=s.toks+1 }) (r:=none) X J hp ht λb=>?_)
 obtain⟨cd,hc,hd'⟩:=PySem.W.any_some hh;have hx:s.heap.get? x=some ⟨.ref C,some dx,.plain,#[]⟩:=I.obj;refine wpAny_bind (wpAny_pure (wpAny_bind (wpAny_bind (wpAny_loadPart hx (wpAny_bind (PySem.W.Looks.here (s:={ s with toks:=s.toks+1 }) (PySem.W.looks_clsIn X hc) ?_))))))
 rw[hd'];refine wpAny_pure (a:=some dx) (wpAny_bind (wpAny_pure (wpAny_bind ?_)));refine wpAny_nsSet1 (s:={ s with toks:=s.toks+1 }) I.ns λh' Y Z=>?_
 obtain⟨oD,esD,epD,hoD,hdD,hcD⟩:=Y.count (PySem.Within.cons name v hw);refine wpAny_bind (wpAny_lookBehind hoD (by rw[hdD];exact pastItsLine_dict (dJ hcD (by rw[eG];omega))) ?_)
 exact wpAny_pure (h _ ⟨(Z.2 _ (Ne.symm I.ne)).trans I.obj,Y,I.ne⟩ Z)
theorem Rx{vs:au}(X:K.In s.heap)(J:PySem.W.makesIn K C=true)
 (hi:PySem.W.findIn K (.ref C) "__init__" =some (some (.ref f))) (I:PySem.W.typeIn K (.ref f)=some (.type "function"))
 (h:codeAny (model prog w) (A.under (.builtin "type.__call__" ⟨.ref C::vs,kw⟩)) (.call (.ref f) ⟨.ref (s.heap.objs.size+1)::vs,kw⟩) (PySem.W.InitBack (s.heap.objs.size+1) R)
  { s with heap:=(s.heap.push lN).push (m8 C s.heap.objs.size) }):
 codeAny (model prog w) A (.call (.ref C) ⟨vs,kw⟩) R s:=by
 obtain⟨Y,g,d,t,os⟩:=s;exact PySem.W.make_core (PySem.W.makes_of X J) (PySem.W.looks_findIn X hi) (λself=>PySem.W.bind_fn X self I) (.inl rfl) h
end
def fA(f:Str)(v:V):List (Str×V)->List (Str×V)
 | []=>[(f,v)]
 |(g,x)::r=>if g=f then(g,v)::r else(g,x)::fA f v r
theorem Es(f g:Str)(v):∀fs:List (Str×V),(fA f v fs).lookup g=if g=f then some v else fs.lookup g
 | []=>by
  show List.lookup g [(f,v)]=_
  by_cases h:g=f
  . have I:(g==f)=true:=beq_iff_eq.mpr h
    simp only[List.lookup,I,if_pos h]
  . have I:(g==f)=false:=beq_eq_false_iff_ne.mpr h
    simp only[List.lookup,I,if_neg h]
 |(k,x)::r=>by
  have J:=Es f g v r;rw[show fA f v ((k,x)::r)=(if k=f then(k,v)::r else(k,x)::fA f v r)from rfl]
  by_cases hk:k=f
  . rw[if_pos hk]
    by_cases h:g=k
    . have I:(g==k)=true:=beq_iff_eq.mpr h
      simp only[List.lookup,I,if_pos (h.trans hk)]
    . have I:(g==k)=false:=beq_eq_false_iff_ne.mpr h
      simp only[List.lookup,I,if_neg (λe:g=f=>h (e.trans hk.symm))]
  . rw[if_neg hk]
    by_cases h:g=k
    . have I:(g==k)=true:=beq_iff_eq.mpr h
      simp only[List.lookup,I,if_neg (λe:g=f=>hk (h.symm.trans e))]
    . have I:(g==k)=false:=beq_eq_false_iff_ne.mpr h
      simp only[List.lookup,I];exact J
theorem zc(f)(v):∀fs:List (Str×V),f∈(fA f v fs).map (·.1)/\∀g,g∈fs.map (·.1)->g∈(fA f v fs).map (·.1)
 | []=>⟨by simp[fA],λg h=>by simp at h⟩
 |(k,x)::r=>by
  obtain⟨i1,i2⟩:=zc f v r;rw[show fA f v ((k,x)::r)=(if k=f then(k,v)::r else(k,x)::fA f v r)from rfl]
  by_cases hk:k=f
  . rw[if_pos hk]
    subst hk;exact⟨by simp,λg h=>by simpa using h⟩
  . rw[if_neg hk]
    refine⟨?_,λg h=>?_⟩
    . rw[bT]
      exact gA _ i1
    . rw[bT]at h ⊢
      rcases cj.mp h with e|e
      . exact cj.mpr (.inl e)
      . exact gA _ (i2 g e)
theorem Eu(f)(v):∀fs:List (Str×V),(fA f v fs).length<=fs.length+1
 | []=>by simp[fA]
 |(k,x)::r=>by
  have I:=Eu f v r;rw[show fA f v ((k,x)::r)=(if k=f then(k,v)::r else(k,x)::fA f v r)from rfl]
  by_cases hk:k=f
  . rw[if_pos hk,eG,eG];omega
  . rw[if_neg hk,eG,eG];omega
theorem bN.some_of{v:V}(r:bN (some v) o):∃u,o=some u/\RelV v u:=by
 cases o with
 |none=>exact(show False from r).elim
 |some u=>exact⟨u,rfl,r⟩
theorem bN.none_of(r:bN none o):o=none:=by
 cases o with
 |none=>rfl
 |some u=>exact(show False from r).elim
theorem Ra{v:V}(r:RelV v u):PySem.W.handedIn u=true:=by
 cases v with
 |ak=>cases(show u=Value.none from r);rfl
 |bl b=>cases(show u=Value.bool b from r);rfl
 |int i=>obtain⟨t,e⟩:=(show ∃t,u=Value.int i t from r);cases e;rfl
 |str x=>obtain⟨t,e⟩:=(show ∃t,u=Value.str x t from r);cases e;rfl
 |va b=>obtain⟨t,e⟩:=(show ∃t,u=Value.bytes b t from r);cases e;rfl
 |kU b=>obtain⟨t,e⟩:=(show ∃t,u=Value.float b t from r);cases e;rfl
 |ref a=>cases(show u=Value.ref a from r);rfl
 |ty n=>cases(show u=Value.type n from r);rfl
section
variable {P:Program}{w:World}{H H':Hp}{h h':Heap}{a C dx:Addr}{fs fs':List (Str×V)}
theorem wW(av:cJ P w H h)(e:H a=some (.ins C dx fs)):∃mA,dM h a dx C mA/\(∀f,bN (fs.lookup f) (mA f))/\PySem.Within mA (fs.map (·.1))/\fs.length<=1000/\H dx=some (.own a):=by
 obtain⟨d,z,ne,ob,mA,n,r,q⟩:=(show aD P w H h a (.ins C dx fs)from av a _ e)
 exact⟨mA,⟨ob,n,ne⟩,r,q,z,d⟩
end
structure cI(K:ag)(C:Addr):Prop where
 pg:uO K C Str.empty=true
 hd:yp K C=true
 po:PySem.W.plainOver K C=true
 sa:PySem.W.findIn K (.ref C) "__setattr__" =some (some (.builtin "object.__setattr__"))
theorem cI.get{K:ag}(c:cI K C)(f:Str):uO K C f=true:=c.pg
def aR(K:ag)(C:Addr)(f:Str):Prop:=PySem.W.findIn K (.ref C) f=some none
theorem aR.uH{K:ag}(n:aR K C f):PySem.W.takerIn K C f=some none:=by
 unfold PySem.W.takerIn;rw[show PySem.W.findIn K (.ref C) f=some none from n]
 rfl
structure Con(K:ag)(C:Addr)(f:Str)(v:V)(u:Value):Prop where
 at_:PySem.W.findIn K (.ref C) f=some (some u)
 rel:RelV v u
 get:PySem.W.specialIn K u "__get__" =some none
 cp:PySem.W.copiedNames.contains f=false
structure Meth(K:ag)(C:Addr)(m:Str)(f:Addr):Prop where
 at_:PySem.W.findIn K (.ref C) m=some (some (.ref f))
 fn:PySem.W.isFn K (.ref f)=true
 kp:PySem.W.keepIn K (.ref f)=true
section
variable {X:Cx}{pins:aG}{σ:St}{H:Hp}{s:Shared}{a C dx:Addr}{fs:List (Str×V)}{f:Str}{v:V}{A:Around}{E:aP}
theorem EK{b:Bool}(I:Inv X pins σ H s)(e:H a=some (.ins C dx fs))(c:cI X.K C)(n:aR X.K C f)(l:fs.lookup f=some v)
 (h:∀u s',Inv X pins σ H s'->RelV v u->Q u s'):wpAny (model X.prog X.w) A (getAttr (.ref a) f b) Q E s:=by
 obtain⟨mA,O,r,_,_,_⟩:=wW I.av e;obtain⟨u,J,ru⟩:=bN.some_of (v:=v) (o:=mA f) (by rw[<-l];exact r f)
 exact get_map I.et O (c.get f) c.hd n J (Ra ru) (h u _ (I.tok _) ru)
theorem EJ{g:Addr}{pl:Sem Bool}(I:Inv X pins σ H s)(e:H a=some (.ins C dx fs))(c:cI X.K C)(k:Meth X.K C m g)(l:fs.lookup m=none)
 (h:Q (.ref g,[.ref a]) s):wpAny (model X.prog X.w) A (getMethod (.ref a) m pl) Q E s:=by
 obtain⟨mA,O,r,_,_,_⟩:=wW I.av e;have J:mA m=none:=bN.none_of (by rw[<-l];exact r m)
 exact RP I.et O (c.get m) k.at_ k.fn J h
theorem ED(I:Inv X pins σ H s)(e:H a=some (.ins C dx fs))(c:cI X.K C)(n:aR X.K C f)(hl:fs.length<1000)(ry:RelV y u)
 (h:∀s',Inv X pins σ (upd H a (.ins C dx (fA f y fs))) s'->Q () s'):wpAny (model X.prog X.w) A (setAttr (.ref a) f u) Q E s:=by
 obtain⟨mA,O,r,W,_,ho⟩:=wW I.av e;have hz:(fs.map (·.1)).length<=sizeLine:=by rw[br,sizeLine_eq];omega
 refine Tp I.et O c.sa c.po n.uH c.hd W hz λh' J sb=>h _ ?_
 have hd:∃o,h'.get? dx=some o:=let⟨o,_,_,e',_⟩:=J.ns;⟨o,e'⟩;refine I.write (x:=a) (e:=dx) (by rw[e];exact True.intro) (.inr ho) (λb q Y z=>(sb.2 b Y).trans z) hd ?_
 refine⟨by rw[aq O.ne];exact ho,?_,O.ne,J.obj,_,J.ns,λg=>?_,λg Z=>?_⟩
 . have:=Eu f y fs;omega
 . show bN ((fA f y fs).lookup g) (if g=f then some u else mA g)
   rw[Es]
   by_cases q:g=f
   . rw[if_pos q,if_pos q];exact ry
   . rw[if_neg q,if_neg q];exact r g
 . by_cases q:g=f
   . rw[q];exact(zc f y fs).1
   . refine(zc f y fs).2 g (W g λz=>Z ?_)
     show(if g=f then some u else mA g)=none
     rw[if_neg q];exact z
theorem Inv.made(I:Inv X pins σ H s):Inv X pins σ (upd (upd H s.heap.objs.size (.own (s.heap.objs.size+1))) (s.heap.objs.size+1) (.ins C s.heap.objs.size []))
 { s with heap:=(s.heap.push lN).push (m8 C s.heap.objs.size) }:=by
 have e1:(s.heap.push lN).get? s.heap.objs.size=some lN:=Heap.get?_push_size s.heap rfl;have W:((s.heap.push lN).push (m8 C s.heap.objs.size)).get? (s.heap.objs.size+1)=some (m8 C s.heap.objs.size):=by
  have:=Heap.get?_push_size (s.heap.push lN) (o:=m8 C s.heap.objs.size) rfl
  rwa [Heap.size_push]at this
 have Y:(s.heap.push lN).Ns s.heap.objs.size (λ_=>none):=⟨lN,#[],_,e1,rfl,(λe Z=>absurd Z (by simp)),λ_=>rfl⟩
 have J:=I.laid (a:=s.heap.objs.size) (o:=.own (s.heap.objs.size+1)) (h':=s.heap.push lN) (t':=s.toks) (λb u q=>Heap.get?_push_of_some _ q) (aU _) ⟨_,e1⟩
 refine J.laid (a:=s.heap.objs.size+1) (o:=.ins C s.heap.objs.size []) (t':=s.toks) (λb u q=>Heap.get?_push_of_some _ q) (Nat.le_of_eq (Heap.size_push _ _)) ?_
 have ne:s.heap.objs.size≠s.heap.objs.size+1:=cW (q8 _);refine⟨by rw[aq ne,bQ],Nat.zero_le _,ne,W,λ_=>none,(Heap.Ns1.of_empty Y).at λo q=>Heap.get?_push_of_some _ q,λ_=>True.intro,λy hy=>absurd rfl hy⟩
theorem Ha{w:World}{env:Env}{e:Expr}{s:Shared}(J:attributeBase e f env (eval e env)=eval e env)
 (h:wpAny (model prog w) A (eval e env) (λo I=>wpAny (model prog w) A (getAttr o f true) Q E I) E s):wpAny (model prog w) A (eval (.Attribute e f pos) env) Q E s:=
 Attribute_any_ h (by rw[arm_eval_Attribute,J])
end
def ML(K:ag)(ta:TE)(f:Str):TE:=λσ H Q=>ta σ H λx H1=>∃a C dx fs v,x= .ref a/\H1 a=some (.ins C dx fs)/\cI K C/\aR K C f/\fs.lookup f=some v/\Q v H1
def MV(K:ag)(ta tv:TE)(f:Str):TS:=λD σ H=>tv σ H λy H1=>ta σ H1 λx H2=>∃a C dx fs,x= .ref a/\H2 a=some (.ins C dx fs)/\cI K C/\aR K C f/\fs.length<1000/\
 D.nx σ (upd H2 a (.ins C dx (fA f y fs)))
def D2(X:Cx)(op:Operator)(rd:V->V->Hp->VK->Prop):Prop:=
 ∀pins s σ H x y u v Q,Inv X pins σ H s->RelV x u->RelV y v->rd x y H Q->wpAny (model X.prog X.w) X.A (inplaceOp op u v) (EP X pins σ Q) X.xe s
def SM(K:ag)(ta tv:TE)(rd:V->V->Hp->VK->Prop)(f:Str):TS:=λD σ H=>ta σ H λx H1=>∃a C dx fs v,x= .ref a/\H1 a=some (.ins C dx fs)/\cI K C/\aR K C f/\fs.lookup f=some v/\
 tv σ H1 λy H2=>rd v y H2 λz J=>∃I fs',J a=some (.ins C I fs')/\fs'.length<1000/\D.nx σ (upd J a (.ins C I (fA f z fs')))
section
variable {X:Cx}{o e value:Expr}{f:Str}{pos pos' tpos:Pos}{ta tv:TE}
theorem Vo(he:PE X e ta)(hb:attributeBase e f X.env (eval e X.env)=eval e X.env):PE X (.Attribute e f pos) (ML X.K ta f):=by
 intro pins s σ H Q I h;refine Ha hb (aA (he pins s σ H _ I h) λu s1 zz=>?_);obtain⟨x,H1,I1,rx,a,C,dx,fs,v,ex,ea,c,n,l,q⟩:=zz
 subst ex;obtain rfl:u=Value.ref a:=rx;exact EK I1 ea c n l λu' s2 I2 ru=>⟨v,H1,I2,ru,q⟩
theorem Uh(ha:PE X o ta)(hv:PE X value tv)(hs:swapsWith value (some (.Attribute o f pos')) pos.line X.env=pure false):PS X (.Assign [.Attribute o f pos'] value pos) (MV X.K ta tv f):=by
 intro pins s σ H D I h;refine plainObj_wpAny_Assign_Attribute (aA (hv pins s σ H _ I h) λu s1 ⟨y,H1,I1,ry,q⟩=>aA (ha pins s1 σ H1 _ I1 q) λov s2 zz=>?_) hs;obtain⟨x,H2,I2,rx,a,C,dx,fs,ex,ea,c,n,l,q2⟩:=zz
 subst ex;obtain rfl:ov=Value.ref a:=rx;exact ED I2 ea c n l ry λs3 I3=>⟨σ,_,I3,q2⟩
theorem QK{op:Operator}{rd:V->V->Hp->VK->Prop}(ha:PE X o ta)(hv:PE X value tv)(hop:D2 X op rd):PS X (.AugAssign (.Attribute o f tpos) op value pos) (SM X.K ta tv rd f):=by
 intro pins s σ H D I h;refine wpAny_AugAssign_AttributeAny (aA (ha pins s σ H _ I h) λov s1 zz=>?_);obtain⟨x,H1,I1,rx,a,C,dx,fs,v,ex,ea,c,n,l,q⟩:=zz
 subst ex;obtain rfl:ov=Value.ref a:=rx;refine EK I1 ea c n l λu s2 I2 ru=>aA (hv pins s2 σ H1 _ I2 q) λw3 s3 ⟨y,H2,I3,ry,q3⟩=>aA (hop pins s3 σ H2 v y u w3 _ I3 ru ry q3) λw4 s4 zz=>?_;obtain⟨z,H3,I4,rz,dx',fs',ea',l',q4⟩:=zz
 exact ED I4 ea' c n l' rz λs5 I5=>⟨σ,_,I5,q4⟩
def xT:V->V->Hp->VK->Prop:=λx y H Q=>∃i j,x= .int i/\y= .int j/\Q (.int (i+j)) H
theorem U3:D2 X .Add xT:=by
 rintro pins s σ H x y u v Q I J W ⟨i,j,rfl,rfl,q⟩;obtain⟨t,rfl⟩:=(show ∃t,u=Value.int i t from J)
 obtain⟨t',rfl⟩:=(show ∃t',v=Value.int j t' from W)
 exact PyProof.Rows.iadd_int ⟨.int (i+j),H,I.tok _,⟨_,rfl⟩,q⟩
end
section
variable {X:Cx}{pins:aG}{σ:St}{H:Hp}{s:Shared}{A:Around}{E:aP}{Q:aP}{c:Value}{b:Bool}
inductive jl(K:ag)(H:Hp):V->Value->Prop where
 |ak:jl K H .ak (.type "NoneType")
 |bl (x:Bool):jl K H (.bl x) (.type "bool")
 |int (i:Int):jl K H (.int i) (.type "int")
 |str (x:Str):jl K H (.str x) (.type "str")
 |kU (x:UInt64):jl K H (.kU x) (.type "float")
 |lst {a:Addr} {xs:LV} (e:H a=some (.lst xs)):jl K H (.ref a) (.type "list")
 |aV {a:Addr} {o:Obj} {xs:LV} (e:H a=some (.aV o (.lst xs))):jl K H (.ref a) (.type "list")
 |tup {a:Addr} {xs:LV} (e:H a=some (.tup xs)):jl K H (.ref a) (.type "tuple")
 |dK {a:Addr} {kvs:List (Key×V)} (e:H a=some (.dK kvs)):jl K H (.ref a) (.type "dict")
 |dT {a:Addr} {kvs:List (List bM×V)} (e:H a=some (.dT kvs)):jl K H (.ref a) (.type "dict")
 |ins {a C dx:Addr} {fs:List (Str×V)} (e:H a=some (.ins C dx fs)) (cl:cI K C) (ha:PySem.W.findIn K (.ref C) "__class__" =some (some (.builtin "object.__class__")))
  (hn:PySem.W.specialIn K (.builtin "object.__class__") "__get__" =some (some (.builtin "getset_descriptor.__get__"))) (htk:PySem.W.takesIn K (.builtin "object.__class__")=some true)
  (hm:PySem.W.mroIn K C (.type "object")=some true):jl K H (.ref a) (.ref C)
end
structure aH(k:Nat)(A:Around):Prop where
 hd:A.handled=none
 dp:A.depth+3*k+5<recursionLimit
 un:A.units+16*k+200<cLine
theorem aH.mono(r:aH k A)(h:j<=k):aH j A:=⟨r.hd,by have:=r.dp;omega,by have:=r.un;omega⟩
theorem aH.deeper(r:aH (k+1) A)(env):aH k (A.deeper env):=
 ⟨r.hd,by have:=r.dp;show A.depth+1+3*k+5<_;omega,by have:=r.un;show A.units+3+16*k+200<_;omega⟩
theorem PM{A:Around}{us:au}:(A.under (.builtin "type.__call__" ⟨.ref C::us,kw⟩)).depth=A.depth+1:=by
 first|rfl|simp[Around.under,Code.weight,Code.isCreation,Code.isGuard,Code.isCaller,Code.frames,Code.isFrame,guardIds]
theorem PL{A:Around}{us:au}:(A.under (.builtin "type.__call__" ⟨.ref C::us,kw⟩)).units=A.units+1:=by
 first|rfl|simp[Around.under,Code.cUnits,Code.frames,Code.isFrame]
theorem aH.make(r:aH (k+1) A)(C)(us)(I:List (Str×Value)):aH k (A.under (.builtin "type.__call__" ⟨.ref C::us,I⟩)):=
 ⟨r.hd,by have:=r.dp;rw[PM];omega,by have:=r.un;rw[PL];omega⟩
theorem aH.depth(r:aH k A):A.depth<recursionLimit:=by have:=r.dp;omega
theorem aH.units(r:aH k A):A.units+64<cLine:=by have:=r.un;omega
def xV:TA:=λ_ H Q=>Q [] H
def Wf(ta:TE)(tr:TA):TA:=λσ H Q=>ta σ H λx H1=>tr σ H1 λxs H2=>Q (x::xs) H2
section
variable {X:Cx}{e:Expr}{es:aW}{te:TE}{t:TA}{pos:Pos}
theorem Vq:PA X [] xV:=λ_ _ _ _ H Q I h=>Calls.spliced_nil ⟨[],H,I,.nil,h⟩
theorem SG(ha:PE X e te)(hr:PA X es t)(hs:starEach (e::es) X.env=(false,eval e X.env)::starEach es X.env:=by rfl):PA X (e::es) (Wf te t):=by
 intro pos pins s σ H Q I h;rw[hs];show wpAny _ _ (spliced ((false,eval e X.env)::backTo pos (starEach es X.env))) _ _ s;refine Calls.spliced_cons (aA (ha pins s σ H _ I h) λu s1 zz=>?_);obtain⟨x,H1,I1,r1,q1⟩:=zz
 exact aA (hr pos pins s1 σ H1 _ I1 q1) λus s2 ⟨xs,H2,I2,r2,q2⟩=>⟨x::xs,H2,I2,.cons r1 r2,q2⟩
def MX(t:TA):TE:=λσ H Q=>t σ H λxs H1=>xs.length<=sizeLine/\∀p,H1 p=none->Q (.ref p) (upd H1 p (.tup xs))
def MI(t:TA):TE:=λσ H Q=>t σ H λxs H1=>xs.length<=sizeLine/\∀p,H1 p=none->Q (.ref p) (upd H1 p (.lst xs))
theorem Um{x1}(h:PA X es t):PE X (.Tuple es x1 pos) (MX t):=by
 intro pins s σ H Q I W;refine wpAny_Tuple_spliced (aA (h pos pins s σ H _ I W) λus s1 ⟨xs,H1,I1,r,z,q⟩=>⟨by rw[<-r.length];exact z,?_⟩)
 have J:H1 s1.heap.objs.size=none:=I1.av.fresh (aU _);refine⟨.ref s1.heap.objs.size,upd H1 s1.heap.objs.size (.tup xs),I1.laid (t':=s1.toks) (λb u e=>Heap.get?_push_of_some _ e) (aU _) ?_,rfl,q _ J⟩
 exact⟨z,us,r,⟨_,Heap.get?_push_size _ rfl,rfl,_,rfl⟩⟩
theorem HF(h:PA X es t):PE X (.List es pos) (MI t):=by
 intro pins s σ H Q I W;refine wpAny_List_spliced (aA (h pos pins s σ H _ I W) λus s1 ⟨xs,H1,I1,r,z,q⟩=>⟨by rw[<-r.length];exact z,?_⟩)
 have J:H1 s1.heap.objs.size=none:=I1.av.fresh (aU _);refine⟨.ref s1.heap.objs.size,upd H1 s1.heap.objs.size (.lst xs),I1.laid (t':=s1.toks) (λb u e=>Heap.get?_push_of_some _ e) (aU _) ?_,rfl,q _ J⟩
 exact⟨z,us,0,r,Heap.get?_push_size _ rfl⟩
end
abbrev Sp:=LV->Hp->VK->XK->Prop
abbrev iW:=List Env->Hp->Shared->XK->aP
structure f7(P:Program)(w:World)(K:ag)(mg:bq)(base:Heap)(A:Around)(outer:List Env)(s:Shared)(H:Hp):Prop where
 frames:A.frames=some outer
 mod:Mod K mg base
 bs:∀b o,base.get? b=some o->s.heap.get? b=some o/\H b=none
 iY:base.objs.size<=s.heap.objs.size
 d0:s.heap.FunFrames base outer
 ma:∀b∈hW outer,H b=none
 av:cJ P w H s.heap
 bare:AllBare s.gens
def CE(outer:List Env)(P:Program)(w:World)(H:Hp)(s:Shared)(Q:VK)(u:Value)(s':Shared):Prop:=
 ∃v H',s'.os=s.os/\AllBare s'.gens/\Un (hW outer) [] H H' s.heap s'.heap/\cJ P w H' s'.heap/\RelV v u/\Q v H'
def CR(CX:iW)(outer:List Env)(P:Program)(w:World)(H:Hp)(s:Shared)(Q:VK)(E:XK)(r:Result)(s':Shared):Prop:=
 match r with
 | .ok (.ret u)=>CE outer P w H s Q u s'
 | .ok _=>False
 | .error e=>CX outer H s E e s'
structure dz(P:Program)(w:World)(K:ag)(mg:bq)(base:Heap)(CX:iW)(k:Nat)(f:Addr)(fd:FuncData)(ps:az)(sp:Sp):Prop where
 len:∀vs H Q E,sp vs H Q E->vs.length=ps.length
 run:∀(A:Around) (outer:List Env) (s:Shared) (H:Hp) (args:Args) (us:au) (vs:LV) (Q:VK) (E:XK),aH k A->f7 P w K mg base A outer s H->BindsTo s fd args (ps.zip us)->Vals vs us->sp vs H Q E->
  codeAny (model P w) A (.call (.ref f) args) (CR CX outer P w H s Q E) s
theorem f7.make{P:Program}{w:World}{K:ag}{s:Shared}(e:f7 P w K mg base A outer s H)(C)(us)(I:List (Str×Value)):
 f7 P w K mg base (A.under (.builtin "type.__call__" ⟨.ref C::us,I⟩)) outer s H:=⟨by first|exact e.frames|(simpa[Around.under,Code.envs,Code.isFrame,pushEnvs]using e.frames),e.mod,e.bs,e.iY,e.d0,e.ma,e.av,e.bare⟩
section
variable {X:Cx}{pins:aG}{σ:St}{H:Hp}{s s':Shared}
theorem Inv.rJ(I:Inv X pins σ H s):f7 X.prog X.w X.K X.mg X.base X.A X.stack s H:=
 ⟨I.ok.frames,I.ok.mod,I.bs,dJ I.ok.iY I.sz,I.stack,I.fT,I.av,I.bare⟩
theorem Inv.after(I:Inv X pins σ H s)(h:CE X.stack X.prog X.w H s Q u s'):EP X pins σ Q u s':=by
 obtain⟨v,H',os,bare,un,av,r,q⟩:=h;obtain⟨W,g,d,t,J⟩:=s';obtain rfl:J=s.os:=os;exact⟨v,H',I.call (h':=W) (g':=g) (d':=d) (t':=t) (ch:=[]) un av bare (λb z=>absurd z (by simp)),r,q⟩
end
def I0(sp:Sp)(dvs:LV)(E:XK)(t:TA):TE:=λσ H Q=>t σ H λvs H1=>sp (vs++dvs) H1 Q E
def Aq(C:Addr)(m:Str)(sp:Sp)(dvs:LV)(E:XK)(ta:TE)(t:TA):TE:=λσ H Q=>ta σ H λx H1=>∃a dx fs,x= .ref a/\H1 a=some (.ins C dx fs)/\fs.lookup m=none/\
 t σ H1 λvs H2=>sp (x::(vs++dvs)) H2 Q E
def IB(C:Addr)(sp:Sp)(dvs:LV)(E:XK)(t:TA):TE:=λσ H Q=>t σ H λvs H1=>∀x dx,H1 x=none->H1 dx=none->dx≠x->
 sp (.ref x::(vs++dvs)) (upd (upd H1 dx (.own x)) x (.ins C dx [])) (λv H2=>v= .ak/\Q (.ref x) H2) E
def Binds(K:ag)(fd:FuncData)(ps:az)(ds:au):Prop:=
 ∀s us,K.In s.heap->(us++ds).length=ps.length->BindsTo s fd ⟨us,[]⟩ (ps.zip (us++ds))
theorem Binds.all{K:ag}{ps:az}(h:∀us:au,us.length=ps.length->bindArgs fd ⟨us,[]⟩=pure (ps.zip us)):Binds K fd ps []:=λs us _ I=>by
 rw[m9]at I ⊢;exact .of_eq (h us I)
def Passes(CX:iW)(X:Cx)(E:XK):Prop:=∀pins σ H s e s',Inv X pins σ H s->CX X.stack H s E e s'->X.xe e s'
section
variable {X:Cx}{CX:iW}{k:Nat}{f C:Addr}{fd:FuncData}{ps:az}{sp:Sp}{dvs:LV}{ds:au}{E:XK}{x m:Str}{p pos apos:Pos}{e o:Expr}{es:aW}{ta:TE}{t:TA}
theorem tY{s:Shared}{us:au}{vs:LV}(F:dz X.prog X.w X.K X.mg X.base CX k f fd ps sp)(hr:aH k X.A)(Y:Binds X.K fd ps ds)(hd:Vals dvs ds)(hx:Passes CX X E)
 (I:Inv X pins σ H s) (r:Vals vs us) (h:sp (vs++dvs) H Q E):wpAny (model X.prog X.w) X.A (call (.ref f) us) (EP X pins σ Q) X.xe s:=by
 have W:Vals (vs++dvs) (us++ds):=r.append hd;have Z:(us++ds).length=ps.length:=by rw[<-W.length];exact F.len _ _ _ _ h
 refine wpAny_call (codeAny_mono (F.run X.A X.stack s H ⟨us,[]⟩ (us++ds) (vs++dvs) Q E hr I.rJ (Y s us I.et Z) W h) λr s' J=>?_)
 cases r with
 |error e=>exact hx pins σ H s e s' I J
 |ok fl=>
  cases fl with
  |ret u=>exact I.after J
  |next=>exact False.elim J
  |brk=>exact False.elim J
  |cont=>exact False.elim J
theorem SE(F:dz X.prog X.w X.K X.mg X.base CX k f fd ps sp)(hr:aH k X.A)(hg:Gl X x)(hm:X.mg x=some (.ref f))(hk:PySem.W.keepIn X.K (.ref f)=true)(hb:Binds X.K fd ps ds)(hd:Vals dvs ds)(hx:Passes CX X E)
 (Z:PA X (e::es) t) (J:(x==("__debug__":Str))=false:=by decide) (he:starEach (e::es) X.env=(false,eval e X.env)::starEach es X.env:=by rfl) (Y:(backTo pos (starEach es X.env)).any (·.1)=false:=by rfl):
 PE X (.Call (.Name x p) (e::es) [] pos) (I0 sp dvs E t):=by
 intro pins s σ H Q I h;refine wpAny_Call_Name_kw (oM I hg hm ?_ J);refine yo (h₀:=X.base) I.ok.mod.js hk (aA (Z pos pins s σ H _ I h) λus s1 ⟨vs,H1,I1,r,q⟩=>⟨I1.et,?_⟩) he Y
 exact tY F hr hb hd hx I1 r q
theorem Si(F:dz X.prog X.w X.K X.mg X.base CX k f fd ps sp)(hr:aH k X.A)(Z:Gl X x)(hm:X.mg x=some (.ref f))(hk:PySem.W.keepIn X.K (.ref f)=true)(Y:Binds X.K fd ps ds)(hd:Vals dvs ds)(hx:Passes CX X E)
 (J:(x==("__debug__":Str))=false:=by decide):PE X (.Call (.Name x p) [] [] pos) (I0 sp dvs E xV):=by
 intro pins s σ H Q I h;refine wpAny_Call_Name_kw (oM I Z hm ?_ J);exact PySem.W.callWith_K0 I.et hk (tY (us:=[]) F hr Y hd hx I .nil h)
theorem Sz{pl:Sem Bool}(he:PE X o ta)(c:cI X.K C)(hm:Meth X.K C m f)(F:dz X.prog X.w X.K X.mg X.base CX k f fd ps sp)(hr:aH k X.A)(hb:Binds X.K fd ps ds)(hd:Vals dvs ds)(hx:Passes CX X E)(ha:PA X (e::es) t)
 (hst:starEach (e::es) X.env=(false,eval e X.env)::starEach es X.env:=by rfl) (hpl:(backTo pos (starEach es X.env)).any (·.1)=false:=by rfl)
 (ht:eval (.Call (.Attribute o m apos) (e::es) [] pos) X.env=(do
  let ov<-eval o X.env
  standAt apos.atName
  let(f,first) <-holding [ov] (getMethod ov m pl)
  callWith pos f first (backTo pos (starEach (e::es) X.env)) (backToKw pos (keywordEach [] X.env))):=by rfl):
 PE X (.Call (.Attribute o m apos) (e::es) [] pos) (Aq C m sp dvs E ta t):=by
 intro pins s σ H Q I h;refine PySem.W.methodCall_KW (pl:=pl) (aA (he pins s σ H _ I h) λu s1 zz=>?_) ht;obtain⟨x,H1,I1,rx,a,dx,fs,ex,ea,l,q⟩:=zz
 subst ex;obtain rfl:u=Value.ref a:=rx;refine EJ I1 ea c hm l ?_;refine yo (first:=[.ref a]) (h₀:=X.base) I.ok.mod.js hm.kp (aA (ha pos pins s1 σ H1 _ I1 q) λus s2 ⟨vs,H2,I2,r,q2⟩=>⟨I2.et,?_⟩) hst hpl
 exact tY (us:=.ref a::us) (vs:=.ref a::vs) F hr hb hd hx I2 (.cons rfl r) q2
theorem R7{pl:Sem Bool}(he:PE X o ta)(c:cI X.K C)(hm:Meth X.K C m f)(F:dz X.prog X.w X.K X.mg X.base CX k f fd ps sp)(hr:aH k X.A)(hb:Binds X.K fd ps ds)(hd:Vals dvs ds)(hx:Passes CX X E)
 (ht:eval (.Call (.Attribute o m apos) [] [] pos) X.env=(do
  let ov<-eval o X.env
  standAt apos.atName
  let(f,first) <-holding [ov] (getMethod ov m pl)
  callWith pos f first (backTo pos (starEach [] X.env)) (backToKw pos (keywordEach [] X.env))):=by rfl):
 PE X (.Call (.Attribute o m apos) [] [] pos) (Aq C m sp dvs E ta xV):=by
 intro pins s σ H Q I h;refine PySem.W.methodCall_KW (pl:=pl) (aA (he pins s σ H _ I h) λu s1 zz=>?_) ht;obtain⟨x,H1,I1,rx,a,dx,fs,ex,ea,l,q⟩:=zz
 subst ex;obtain rfl:u=Value.ref a:=rx;refine EJ I1 ea c hm l ?_;exact PySem.W.callWith_K0 (first:=[.ref a]) I1.et hm.kp (tY (us:=[.ref a]) (vs:=[.ref a]) F hr hb hd hx I1 (.cons rfl .nil) q)
structure Mk(K:ag)(C f:Addr):Prop where
 makes:PySem.W.makesIn K C=true
 init:PySem.W.findIn K (.ref C) "__init__" =some (some (.ref f))
 fn:PySem.W.isFn K (.ref f)=true
 kp:PySem.W.keepIn K (.ref C)=true
theorem FP{s:Shared}{us:au}{vs:LV}(M:Mk X.K C f)(F:dz X.prog X.w X.K X.mg X.base CX k f fd ps sp)(hr:aH (k+1) X.A)(hb:Binds X.K fd ps ds)(hd:Vals dvs ds)
 (hx:Passes CX X E) (I:Inv X pins σ H s) (r:Vals vs us)
 (h:∀x dx,H x=none->H dx=none->dx≠x->sp (.ref x::(vs++dvs)) (upd (upd H dx (.own x)) x (.ins C dx [])) (λv H2=>v= .ak/\Q (.ref x) H2) E):
 wpAny (model X.prog X.w) X.A (call (.ref C) us) (EP X pins σ Q) X.xe s:=by
 have Y:=h (s.heap.objs.size+1) s.heap.objs.size (I.av.fresh (Nat.le_succ _)) (I.av.fresh (aU _)) (cW (q8 _));have W:=Inv.made (C:=C) I;have Z:Vals (V.ref (s.heap.objs.size+1)::(vs++dvs)) (Value.ref (s.heap.objs.size+1)::(us++ds)):=.cons rfl (r.append hd);have hl:(Value.ref (s.heap.objs.size+1)::us++ds).length=ps.length:=by
  have e:=Z.length;rw[F.len _ _ _ _ Y]at e;exact e.symm
 refine wpAny_call (Rx (f:=f) I.et M.makes M.init (beq_iff_eq.mp M.fn) (codeAny_mono (F.run _ X.stack _ _ ⟨Value.ref (s.heap.objs.size+1)::us,[]⟩ (Value.ref (s.heap.objs.size+1)::(us++ds)) _ _ E (hr.make C us [])
  (W.rJ.make C us []) (hb _ (Value.ref (s.heap.objs.size+1)::us) W.et hl) Z Y) λr s' J=>?_))
 cases r with
 |error e=>exact hx pins σ _ _ e s' W J
 |ok fl=>
  cases fl with
  |ret u=>
   obtain⟨v,H',I3,rv,ev,q3⟩:=W.after J;subst ev;exact⟨rv,⟨V.ref (s.heap.objs.size+1),H',I3,rfl,q3⟩⟩
  |next=>exact False.elim J
  |brk=>exact False.elim J
  |cont=>exact False.elim J
theorem SA(M:Mk X.K C f)(F:dz X.prog X.w X.K X.mg X.base CX k f fd ps sp)(hr:aH (k+1) X.A)(hg:Gl X x)(hm:X.mg x=some (.ref C))(Z:Binds X.K fd ps ds)(hd:Vals dvs ds)(hx:Passes CX X E)
 (Y:PA X (e::es) t) (J:(x==("__debug__":Str))=false:=by decide) (he:starEach (e::es) X.env=(false,eval e X.env)::starEach es X.env:=by rfl) (W:(backTo pos (starEach es X.env)).any (·.1)=false:=by rfl):
 PE X (.Call (.Name x p) (e::es) [] pos) (IB C sp dvs E t):=by
 intro pins s σ H Q I h;refine wpAny_Call_Name_kw (oM I hg hm ?_ J);refine yo (h₀:=X.base) I.ok.mod.js M.kp (aA (Y pos pins s σ H _ I h) λus s1 ⟨vs,H1,I1,r,q⟩=>⟨I1.et,?_⟩) he W
 exact FP M F hr Z hd hx I1 r q
theorem R8(M:Mk X.K C f)(F:dz X.prog X.w X.K X.mg X.base CX k f fd ps sp)(hr:aH (k+1) X.A)(Z:Gl X x)(hm:X.mg x=some (.ref C))(Y:Binds X.K fd ps ds)(hd:Vals dvs ds)(hx:Passes CX X E)
 (J:(x==("__debug__":Str))=false:=by decide):PE X (.Call (.Name x p) [] [] pos) (IB C sp dvs E xV):=by
 intro pins s σ H Q I h;refine wpAny_Call_Name_kw (oM I Z hm ?_ J);exact PySem.W.callWith_K0 I.et M.kp (FP (us:=[]) M F hr Y hd hx I .nil h)
end
section
variable {X:Cx}{CX:iW}{k:Nat}{f C:Addr}{fd:FuncData}{ps ks:az}{sp:Sp}{E:XK}{x m:Str}{p pos apos kpos:Pos}{e o:Expr}{es:aW}{kws:List Keyword}{te ta:TE}{t tk:TA}{nm:Option Str}
structure qCg(K:ag)(fd:FuncData)(ps ks:az)(g:au->au->au)(gV:LV->LV->LV):Prop where
 to:∀(s:Shared) (us ws:au),K.In s.heap->(g us ws).length=ps.length->BindsTo s fd ⟨us,ks.zip ws⟩ (ps.zip (g us ws))
 rel:∀{vs:LV} {us:au} {zs:LV} {ws:au},Vals vs us->Vals zs ws->Vals (gV vs zs) (g us ws)
variable {g:au->au->au}{gV:LV->LV->LV}
end
structure qk(N P:az)(sc:Scope):Prop where
 kind:sc.kind= .function
 co:sc.isCoroutine=false
 gen:sc.isGenerator=false
 nd:N.Nodup
 pre:N.take P.length=P
 par:∀x∈P,sc.names.lookup x=some .local∨sc.names.lookup x=some .cell
 oz:∀y∈sc.names,y.2≠.free
theorem Fs{J:Str->Option NameKind}{x:Str}:∀{I:List (Str×Value)} {m:bq},(∀v,(x,v)∉I)->bindL J I m x=m x
 | [],_,_=>rfl
 |(n,v)::r,m,h=>by
  unfold bindL;rw[Fs λw W=>h w (gA _ W)]
  split
  . have:x≠n:=by rintro rfl;exact h v iC
    simp[this]
  . rfl
theorem Fu{J:Str->Option NameKind}{x:Str}:∀{I:List (Str×Value)} {m:bq},(∀v,(x,v)∉I)->bindC J I m x=m x
 | [],_,_=>rfl
 |(n,v)::r,m,h=>by
  unfold bindC;rw[Fu λw W=>h w (gA _ W)]
  split
  . rfl
  . have:x≠n:=by rintro rfl;exact h v iC
    simp[this]
theorem Ft{I:Str->Option NameKind}{x:Str}{v:Value}:∀{P:az} {vs:au} {i:Nat} {m:bq},P.Nodup->P[i]? =some x->vs[i]? =some v->I x=some .local->
 bindL I (P.zip vs) m x=some v
 | [],_,_,_,_,h,_,_=>by simp at h
 |_::_,[],_,_,_,_,h,_=>by simp at h
 |p::P,w::vs,0,m,nd,h1,h2,hk=>by
  simp at h1 h2;subst h1;subst h2;show bindL I ((p,w)::P.zip vs) m p=_;unfold bindL;rw[Fs λv J=>(gU.mp nd).1 (List.of_mem_zip J).1,if_pos hk]
  simp
 |p::P,w::vs,i+1,m,nd,h1,h2,hk=>by
  show bindL I ((p,w)::P.zip vs) m x=_;unfold bindL;exact Ft (i:=i) (gU.mp nd).2 (by simpa using h1) (by simpa using h2) hk
theorem Fv{I:Str->Option NameKind}{x:Str}{v:Value}:∀{P:az} {vs:au} {i:Nat} {m:bq},P.Nodup->P[i]? =some x->vs[i]? =some v->I x≠some .local->
 bindC I (P.zip vs) m x=some v
 | [],_,_,_,_,h,_,_=>by simp at h
 |_::_,[],_,_,_,_,h,_=>by simp at h
 |p::P,w::vs,0,m,nd,h1,h2,hk=>by
  simp at h1 h2;subst h1;subst h2;show bindC I ((p,w)::P.zip vs) m p=_;unfold bindC;rw[Fu λv J=>(gU.mp nd).1 (List.of_mem_zip J).1,if_neg hk]
  simp
 |p::P,w::vs,i+1,m,nd,h1,h2,hk=>by
  show bindC I ((p,w)::P.zip vs) m x=_;unfold bindC;exact Fv (i:=i) (gU.mp nd).2 (by simpa using h1) (by simpa using h2) hk
def start(N:az)(vs:LV):St:=vs.map some++List.replicate (N.length-vs.length) none
noncomputable def mN (CX:iW)(P:Program)(w:World)(K:ag)(mg:bq)(base:Heap)(N:az)(qual:Str)(scope:Scope)(f:Addr)(cd:Value)(A:Around)(outer:List Env)(s:Shared)(H:Hp)(E:XK):Cx where
 prog:=P
 w:=w
 K:=K
 mg:=mg
 base:=base
 A:=A.deeper (envOfC qual scope s.heap.objs.size f cd)
 N:=N
 s₀:=s
 H₀:=H
 env:=envOfC qual scope s.heap.objs.size f cd
 outer:=outer
 stack:=envOfC qual scope s.heap.objs.size f cd::outer
 ex:=[]
 calm:=true
 fn:=λ_=>true
 pn:=[]
 xe:=λe s'=>wpAny (model P w) (A.deeper (envOfC qual scope s.heap.objs.size f cd)) (leaving (envOfC qual scope s.heap.objs.size f cd) e) (λ_ s''=>CX outer H s E e s'') (λe' s''=>CX outer H s E e' s'') s'
theorem Gf{sc:Scope}{n:Nat}{x:Str}(h:sc.names.lookup x=some .cell):∃c,(cellsFrom n sc.names []).lookup x=some c:=by
 have q:=PySem.W.cellsFrom_some sc.names n [] (.inl h);exact uL.mp q
theorem QJ{P:Program}{w:World}{K:ag}{cd:Value}{A:Around}{s s1:Shared}{us:au}{vs:LV}
 (S:qk N ps scope) (hd:A.handled=none) (e0:f7 P w K mg base A outer s H) (hl:vs.length=ps.length) (r:Vals vs us)
 (x:InCallC s s.heap.objs.size (bindL (envOfC qual scope s.heap.objs.size f cd).kindOf (ps.zip us) λ_=>none) (cellsFrom (s.heap.objs.size+1) scope.names []) (bindC (envOfC qual scope s.heap.objs.size f cd).kindOf (ps.zip us) λ_=>none) s1):
 Inv (mN CX P w K mg base N qual scope f cd A outer s H E) [] (start N vs) H s1:=by
 have hpl:ps.length<=N.length:=by have:=congrArg List.length S.pre;rw[List.length_take]at this;omega
 obtain⟨h1,tk,rfl,hk⟩:=x.done;have J:∀b:Addr,b∉(mN CX P w K mg base N qual scope f cd A outer s H E).ex:=λb z=>absurd (show b∈([]:List Addr)from z) (by simp)
 refine⟨⟨e0.mod,S.kind,rfl,rfl,aU _,λy z c h1 h2=>?_,λy I=>?_,λy c _ h=>?_,λ_=>hd,Around.frames_deeper e0.frames,.inr ⟨rfl,rfl⟩,λb z=>absurd z (J b),e0.bs,e0.iY,λb _ _=>J b,λb z=>absurd z (J b),e0.d0,e0.ma⟩,
  rfl,e0.bare,Un.kept hk,⟨_,x.toInCall.ns,λi y v h1 h2 h3=>?_⟩,λy c h=>⟨_,x.cell y c h⟩,e0.av.fresh (aU _),λy c h=>?_,λp W=>absurd (show p∈([]:aG)from W) (by simp),e0.av.kept hk,?_⟩
 . exact name_of_addr x.apart (PySem.mem_of_lookup h1) (PySem.mem_of_lookup h2)
 . have I:scope.names.lookup y=some .cell∨scope.names.lookup y=some .free:=I
   rcases I with I|I
   . exact Gf I
   . exact absurd rfl (S.oz _ (PySem.mem_of_lookup I))
 . exact Nat.le_of_lt (x.above y c (PySem.mem_of_lookup h))
 . have hi:i<vs.length:=by
    unfold start at h2
    by_cases hi:i<vs.length
    . exact hi
    . rw[List.getElem?_append_right (by simpa using hi)]at h2
      rw[List.getElem?_replicate]at h2;split at h2<;>cases h2
   have ha:vs[i]? =some v:=by
    unfold start at h2;rw[List.getElem?_append_left (by simpa using hi),List.getElem?_map]at h2
    cases e:vs[i]? with
    |none=>rw[e]at h2;cases h2
    |some a=>rw[e]at h2;cases h2;rfl
   obtain⟨u,Z,rv⟩:=r.get ha;have W:ps[i]? =some y:=by
    rw[<-S.pre,List.getElem?_take_of_lt (by omega)];exact h1
   have Y:ps.Nodup:=by rw[<-S.pre];exact S.nd.sublist (List.take_sublist _ _)
   refine⟨u,rv,?_⟩;rcases S.par y (List.mem_of_getElem? W)with k|k
   . exact .inl ⟨k,Ft Y W Z k⟩
   . obtain⟨c,e⟩:=Gf (n:=s.heap.objs.size+1) k
     refine .inr ⟨.inl k,c,e,?_⟩;have q:=x.cell y c e;rw[Fv Y W Z (by show scope.names.lookup y≠_;rw[k];decide)]at q
     exact q
 . exact e0.av.fresh (Nat.le_of_lt (x.above y c (PySem.mem_of_lookup h)))
 . unfold start
   show _=N.length;rw[dH,br,ym];omega
theorem X3{P:Program}{w:World}{K:ag}{f:Addr}{body:List Stmt}{dV kV doc pm Y ct oc:Value}{an od:Option Addr} {sp:Sp} (lk:K.lookup f=some ⟨oc,od,.func (PySem.W.fnOf name qual params body scope dV kV doc pm an Y ct),osl⟩) (hcd:PySem.W.codeIn K Y qual=true) (S:qk N ps scope)
 (len:∀vs H Q E,sp vs H Q E->vs.length=ps.length)
 (hbody:∀(A:Around) (outer:List Env) (s:Shared) (H:Hp) (vs:LV) (Q:VK) (E:XK),aH k (A.deeper (envOfC qual scope s.heap.objs.size f Y))->sp vs H Q E->
  ∃t,f9 (mN CX P w K mg base N qual scope f Y A outer s H E) body t/\t { nx:=λ_ H'=>Q .ak H',rt:=Q } (start N vs) H):
 dz P w K mg base CX (k+1) f (PySem.W.fnOf name qual params body scope dV kV doc pm an Y ct) ps sp:=by
 refine⟨len,λA outer s H args us vs Q E hr e0 hb r hsp=>?_⟩
 have hl:=len _ _ _ _ hsp;have KX:K.In s.heap:=e0.mod.js.keeps λb o e=>(e0.bs b o e).1
 have lim:s.heap.NoLimit:=e0.mod.nolimit.keeps λb o e=>(e0.bs b o e).1
 have bI:∀y∈ps.zip us,scope.names.lookup y.1=some .local∨(scope.names.lookup y.1=some .cell/\((cellsFrom (s.heap.objs.size+1) scope.names []).lookup y.1).isSome=true):=λ⟨n,v⟩ hy=>by
  rcases S.par n (List.of_mem_zip hy).1 with q|q
  . exact .inl q
  . exact .inr ⟨q,PySem.W.cellsFrom_some _ _ _ (.inl q)⟩
 refine codeAny_call_function hr.depth (KX _ _ lk) rfl S.co S.gen rfl (PySem.W.codeRec_of KX hcd) (hb _ _ _ _ ?_);refine wpAny_newFunctionEnv_cells S.kind bI λenv he s1 x=>?_
 subst he;refine⟨lim.keeps x.toInCall.keep,codeAny_func ?_⟩;obtain⟨t,ht,hq⟩:=hbody A outer s H vs Q E (hr.deeper _) hsp;have I:Inv (mN CX P w K mg base N qual scope f Y A outer s H E) [] (start N vs) H s1:=QJ S hr.hd e0 hl r x;refine wpAny_mono (ht [] s1 (start N vs) H _ I hq) (λfl s' hs=>?_) λe s' hs=>hs
 have fin:∀{Z:St} {H':Hp} {v:V} {u:Value},Inv (mN CX P w K mg base N qual scope f Y A outer s H E) [] Z H' s'->RelV v u->Q v H'->CE outer P w H s Q u s':=
  λ{Z H' v u} J rv q=>⟨v,H',J.os,J.bare,J.base,J.av,rv,q⟩
 cases fl with
 |ret u=>
  obtain⟨v,Z,H',J,rv,q⟩:=hs;exact fin J rv q
 |next=>
  obtain⟨Z,H',J,q⟩:=hs;exact fin (v:=V.ak) (u:=Value.none) J rfl q
 |brk=>
  obtain⟨_,_,_,q⟩:=hs;exact False.elim q
 |cont=>
  obtain⟨_,_,_,q⟩:=hs;exact False.elim q
section
variable {X:Cx}{x:Str}{p pos:Pos}{e:Expr}{es:aW}{t:TA}{id T:String}{r:LV->Hp->VK->Prop}
def A6(r:LV->Hp->VK->Prop)(t:TA):TE:=λσ H Q=>t σ H λvs H1=>r vs H1 Q
theorem Sh(Z:dw X (.builtin id) r)(hg:Gl X x)(hm:X.mg x=none)(hv:bootBuiltins x=some (.builtin id))(Y:PA X (e::es) t)(hn:x≠"__name__":=by decide)(J:(x==("__debug__":Str))=false:=by decide)
 (he:starEach (e::es) X.env=(false,eval e X.env)::starEach es X.env:=by rfl) (W:(backTo pos (starEach es X.env)).any (·.1)=false:=by rfl):PE X (.Call (.Name x p) (e::es) [] pos) (A6 r t):=by
 intro pins s σ H Q I h;refine wpAny_Call_Name_kw (mB I hg hm hv ?_ hn J);exact PyProof.Rows.callWith_builtin1 (aA (Y pos pins s σ H _ I h) λus s1 ⟨vs,H1,I1,r1,q1⟩=>Z pins s1 σ H1 vs us Q I1 r1 q1) he W
theorem QN(Z:dw X (.type T) r)(hg:Gl X x)(hm:X.mg x=none)(hv:bootBuiltins x=some (.type T))(Y:PA X (e::es) t)(hn:x≠"__name__":=by decide)(J:(x==("__debug__":Str))=false:=by decide)
 (he:starEach (e::es) X.env=(false,eval e X.env)::starEach es X.env:=by rfl) (W:(backTo pos (starEach es X.env)).any (·.1)=false:=by rfl):PE X (.Call (.Name x p) (e::es) [] pos) (A6 r t):=by
 intro pins s σ H Q I h;refine wpAny_Call_Name_kw (mB I hg hm hv ?_ hn J);exact uK (aA (Y pos pins s σ H _ I h) λus s1 ⟨vs,H1,I1,r1,q1⟩=>Z pins s1 σ H1 vs us Q I1 r1 q1) he W
end
end L2
namespace HT
open PySem PyProof.Rows
section
variable {prog:Program}{w:World}{A:Around}{E:aP}{s:Shared}
theorem jF{t b:Addr}{vs ws:au}{Q:aP}(ht:IsTup s.heap t vs.toArray)(hb:IsTup s.heap b ws.toArray)(hv:vs≠[])
 (h1:ws= []->Q (.ref t) s) (h2:ws≠[]->Q (.ref s.heap.objs.size) { s with heap:=s.heap.push { cls:=.type "tuple",data:=.seq (vs++ws).toArray } })
 (hsz:vs.length+ws.length<=sizeLine):wpAny (model prog w) A (binaryOp .Add (.ref t) (.ref b)) Q E s:=by
 obtain⟨⟨cls,dd,data,sl⟩,ho,hc,n,hd⟩:=id ht;obtain⟨⟨cls2,dd2,data2,sl2⟩,ho2,hc2,n2,hd2⟩:=id hb;simp only at hc hd hc2 hd2;subst hc hd hc2 hd2;have e:vs.toArray++ws.toArray=(vs++ws).toArray:=by simp
 by_cases hw:ws= []
 . exact concat_meets ⟨_,ho,rfl⟩ ⟨_,ho2,rfl⟩ noFill_tuple_add seq_tuple_add PySem.F.slot_tuple_add PySem.F.entry_tuple_add (PySem.F.args_tuple_add_2 _ _)
    (tuple_addW1 t b vs.toArray ws.toArray n n2 dd dd2 sl sl2 (by simpa using hv) (by simp[hw])) ⟨ho,ho2,h1 hw⟩
 . refine concat_meets ⟨_,ho,rfl⟩ ⟨_,ho2,rfl⟩ noFill_tuple_add seq_tuple_add PySem.F.slot_tuple_add PySem.F.entry_tuple_add (PySem.F.args_tuple_add_2 _ _)
    (tuple_addW2 t b vs.toArray ws.toArray n n2 dd dd2 sl sl2 (by simpa using hv) (by simpa using hw) (by rw[eQ,eQ];exact hsz)) ⟨ho,ho2,?_⟩
   rw[e];exact h2 hw
def aQ(n d:Nat):Option Int->Nat
 |none=>d
 |some v=>if v<0 then(v+(n:Int)).toNat else min v.toNat n
theorem jm(n d):aQ n d none=d:=rfl
theorem lM(n d k:Nat):aQ n d (some (k:Int))=min k n:=by
 show(if(k:Int)<0 then((k:Int)+(n:Int)).toNat else min (k:Int).toNat n)=min k n
 rw[if_neg (by omega),Int.toNat_natCast]
theorem UO(n d:Nat)(hd:d<=n)(o:Option Int):aQ n d o<=n:=by
 cases o with
 |none=>exact hd
 |some v=>
  show(if v<0 then(v+(n:Int)).toNat else min v.toNat n)<=n
  by_cases I:v<0
  . rw[if_pos I];omega
  . rw[if_neg I];exact Nat.min_le_right _ _
theorem GY(v:Int)(n d:Nat):(if v<0 then max (v+(n:Int)) 0 else min v (n:Int))=((aQ n d (some v):Nat):Int):=by
 show(if v<0 then max (v+(n:Int)) 0 else min v (n:Int))=(((if v<0 then(v+(n:Int)).toNat else min v.toNat n):Nat):Int)
 by_cases I:v<0
 . simp only[if_pos I];omega
 . simp only[if_neg I];omega
theorem Qs(lo hi:Option Int)(n:Nat):Builtin.Slice.sliceAdjust lo hi 1 (n:Int)=(((aQ n 0 lo:Nat):Int),((aQ n n hi:Nat):Int)):=by
 have h1:¬((1:Int)<0):=by omega
 unfold Builtin.Slice.sliceAdjust;simp only[h1,if_false];refine Prod.ext ?_ ?_
 . cases lo with
   |none=>rfl
   |some v=>exact GY v n 0
 . cases hi with
   |none=>rfl
   |some v=>exact GY v n n
theorem PH(i j:Nat):Builtin.Slice.slicePlaces (i:Int) (j:Int) 1=j-i:=by
 unfold Builtin.Slice.slicePlaces;have h1:(1:Int) > 0:=by omega
 simp only[h1,if_true,Int.ediv_one];split<;>omega
theorem EC{v:Value}(p:IsPart v o)(h:Q o s):wpAny (model prog w) A (Builtin.Slice.slicePartIndex v) Q E s:=by
 cases p with
 |none=>exact slicePart_none h
 |int i t=>exact slicePart_int h
theorem Ed{sl:Addr}{lo hi:Option Int}{n:Nat}(hs:s.heap.IsSliceOf sl vl vu .none)(pl:IsPart vl lo)(pu:IsPart vu hi)
 (h:Q (((aQ n 0 lo:Nat):Int),1,aQ n n hi-aQ n 0 lo) s):wpAny (model prog w) A (Builtin.Slice.sliceApplied (.ref sl) (pure (n:Int))) Q E s:=by
 obtain⟨os,J,W,I⟩:=id hs;unfold Builtin.Slice.sliceApplied Builtin.Slice.sliceFields;refine wpAny_bind (wpAny_bind (wpAny_field J I (x:=vl) rfl (wpAny_bind (wpAny_field J I (x:=vu) rfl (wpAny_bind (wpAny_field J I (x:=.none) rfl (wpAny_pure ?_)))))));refine wpAny_bind (slicePart_none ?_);show wpAny _ _ (if((1:Int)==0)=true then _ else _) _ _ s
 rw[if_neg (by decide)]
 refine wpAny_bind (EC pl (wpAny_bind (EC pu (wpAny_bind (wpAny_pure ?_)))));show wpAny _ _ (match Builtin.Slice.sliceAdjust lo hi 1 (n:Int)with|(lo,hi)=>pure (lo,(1:Int),Builtin.Slice.slicePlaces lo hi 1)) _ _ s
 rw[Qs lo hi n];show wpAny _ _ (pure (((aQ n 0 lo:Nat):Int),(1:Int),Builtin.Slice.slicePlaces ((aQ n 0 lo:Nat):Int) ((aQ n n hi:Nat):Int) 1)) _ _ s;rw[PH];exact wpAny_pure h
theorem R5(xs:Array Value)(i k:Nat):((List.range k).filterMap λ(m:Nat)=>xs[((i:Int)+(m:Int)*1).toNat]?).toArray=((xs.toList.drop i).take k).toArray:=by
 have e:(λ(m:Nat)=>xs[((i:Int)+(m:Int)*1).toNat]?)=λm=>xs[i+m]?:=by
  funext m;have:((i:Int)+(m:Int)*1).toNat=i+m:=by omega
  rw[this]
 rw[e];have:=pick_run xs i k;rw[List.filterMap_map]at this;have I:((λx=>xs[x]?) ∘ λx=>i+x)=λm=>xs[i+m]?:=rfl
 rw[I]at this;rw[this]
theorem c9{t sl:Addr}{lo hi:Option Int}(ht:IsTup s.heap t items)(hs:s.heap.IsSliceOf sl vl vu .none)(pl:IsPart vl lo)(pu:IsPart vu hi)
 (hw:¬(aQ items.size 0 lo=0/\aQ items.size items.size hi=items.size))
 (h:Q (.ref s.heap.objs.size) { s with heap:=s.heap.push { cls:=.type "tuple",data:=.seq ((items.toList.drop (aQ items.size 0 lo)).take (aQ items.size items.size hi-aQ items.size 0 lo)).toArray } })
 (hsz:items.size<=sizeLine):wpAny (model prog w) A (getItem (.ref t) (.ref sl)) Q E s:=by
 have htake:sizeOk (.seq ((items.toList.drop (aQ items.size 0 lo)).take (aQ items.size items.size hi-aQ items.size 0 lo)).toArray):=by
  show((items.toList.drop (aQ items.size 0 lo)).take (aQ items.size items.size hi-aQ items.size 0 lo)).toArray.size<=sizeLine;rw[eQ,List.length_take,List.length_drop,Array.length_toList];omega
 have hj:aQ items.size items.size hi<=items.size:=UO _ _ (aU _) hi;obtain⟨os,hos,hcs,hds⟩:=id hs;have hTs:s.TypeIs (.ref sl) "slice":=⟨os,hos,hcs⟩;unfold getItem
 try with_reducible refine wpAny_holding ?_
 first|refine wpAny_bind (wpAny_pure ?_)|skip
 refine wpAny_bind (wpAny_sequenceKey ht.typeIs (by decide) ?_)
 refine wpAny_bind (wpAny_callSpecial?_slot (name:=Str.ofString "__getitem__") ht.typeIs yk
  (wpAny_call_entry yk ht.typeIs entry_tuple_getitem ?_ (args_tuple_getitem _ _)))
 show wpAny _ _ (Builtin.Tuple.tupleItemsOf (.ref t) >>= _) _ _ s;refine wpAny_bind (tupleItemsOf_ ht ?_);refine wpAny_bind (wpAny_typeOf hTs ?_);rw[if_pos (by decide)]
 refine wpAny_bind (Ed hs pl pu ?_);have hno:¬((((aQ items.size 0 lo:Nat):Int)==0&&(1:Int)==1&&(aQ items.size items.size hi-aQ items.size 0 lo)==items.size)=true):=by
  intro q;rw[bj,bj]at q;have q1:((aQ items.size 0 lo:Nat):Int)=0:=eq_of_beq q.1.1;have q2:aQ items.size items.size hi-aQ items.size 0 lo=items.size:=eq_of_beq q.2;exact hw ⟨by omega,by omega⟩
 show wpAny _ _ (if(((aQ items.size 0 lo:Nat):Int)==0&&(1:Int)==1&&(aQ items.size items.size hi-aQ items.size 0 lo)==items.size)=true then _ else _) _ _ s
 rw[if_neg hno,R5]
 first
  |exact wpAny_bind (m:=Builtin.Tuple.tupleExact _) (wpAny_newObj_type (wpAny_pure ⟨_,rfl,wpAny_pure h⟩) htake)
  |exact wpAny_bind (m:=Builtin.Tuple.tupleExact _) (wpAny_newObj_type (wpAny_bind (wpAny_pure (wpAny_pure ⟨_,rfl,wpAny_pure h⟩))) htake)
  |exact wpAny_bind (wpAny_bind (m:=Builtin.Tuple.tupleExact _) (wpAny_newObj_type (wpAny_pure (wpAny_pure ⟨_,rfl,wpAny_pure h⟩)) htake))
  |exact wpAny_bind (wpAny_bind (m:=Builtin.Tuple.tupleExact _) (wpAny_newObj_type (wpAny_pure ⟨_,rfl,wpAny_pure h⟩) htake))
end
end HT
namespace L2
open PySem PySem.Spec PyProof.Rows
abbrev TO:=St->Hp->(Option Int->Hp->Prop)->Prop
def PO(X:Cx)(e:Option Expr)(t:TO):Prop:=
 ∀(pins:aG) (s:Shared) (σ:St) (H:Hp) (Q:Option Int->Hp->Prop),Inv X pins σ H s->t σ H Q->
  wpAny (model X.prog X.w) X.A (evalPart e X.env) (λu s'=>∃o H',Inv X pins σ H' s'/\IsPart u o/\Q o H') X.xe s
def Ti:TO:=λ_ H Q=>Q none H
def WM(t:TE):TO:=λσ H Q=>t σ H λx H1=>∃i,x= .int i/\Q (some i) H1
section
variable {X:Cx}{e:Expr}{te:TE}{lo hi:Option Expr}{tl th:TO}{pos p2:Pos}
theorem Sx:PO X none Ti:=by
 intro pins s σ H Q I h;rw[evalPart_none];exact wpAny_pure ⟨none,H,I,.none,h⟩
theorem Sw(h:PE X e te):PO X (some e) (WM te):=by
 intro pins s σ H Q I hw;rw[evalPart_some];refine aA (h pins s σ H _ I hw) λu s1 zz=>?_;obtain⟨x,H1,I1,r1,q1⟩:=zz
 obtain⟨i,rfl,q⟩:=q1;obtain⟨t,rfl⟩:=r1;exact⟨some i,H1,I1,.int i t,q⟩
def uX(X:Cx)(r:V->Option Int->Option Int->Hp->VK->Prop):Prop:=
 ∀(pins:aG) (s:Shared) (σ:St) (H:Hp) (x:V) (v vl vu:Value) (lo hi:Option Int) (sl:Addr) (Q:VK),Inv X pins σ H s->RelV x v->s.heap.IsSliceOf sl vl vu .none->IsPart vl lo->IsPart vu hi->r x lo hi H Q->
  ∃T id,typeLookup (.type T) "__getitem__" =pure (some (.builtin id))/\s.TypeIs v T/\wpAny (model X.prog X.w) X.A (getItem v (.ref sl)) (EP X pins σ Q) X.xe s
def Yn(r:V->Option Int->Option Int->Hp->VK->Prop)(te:TE)(tl th:TO):TE:=λσ H Q=>te σ H λx H1=>tl σ H1 λl H2=>th σ H2 λu I=>r x l u I Q
theorem R6{r:V->Option Int->Option Int->Hp->VK->Prop}(hr:uX X r)(he:PE X e te)(hl:PO X lo tl)(hu:PO X hi th):PE X (.Subscript e (.Slice lo hi none p2) pos) (Yn r te tl th):=by
 intro pins s σ H Q I h;refine Subscript_ (aA (he pins s σ H _ I h) λv s1 zz=>?_);obtain⟨x,H1,I1,r1,q1⟩:=zz
 refine wpAny_Slice (aA (hl pins s1 σ H1 _ I1 q1) λvl s2 ⟨l,H2,I2,pl,q2⟩=>aA (hu pins s2 σ H2 _ I2 q2) λvu s3 zz=>?_);obtain⟨u,H3,I3,pu,q3⟩:=zz
 rw[evalPart_none];refine wpAny_pure ?_;have I4:Inv X pins σ H3 { s3 with heap:=s3.heap.push { cls:=.type "slice",data:=.fields #[vl,vu,.none] } }:=I3.kept (t':=s3.toks) λb ob q=>Heap.get?_push_of_some _ q
 obtain⟨T,id,hT,ht,hg⟩:=hr pins { s3 with heap:=s3.heap.push { cls:=.type "slice",data:=.fields #[vl,vu,.none] } } σ H3 x v vl vu l u s3.heap.objs.size Q I4 r1 (Heap.IsSliceOf.new ..) pl pu q3
 show wpAny (model X.prog X.w) X.A (subscriptTail e (.Slice lo hi none p2) v (.ref s3.heap.objs.size)) (EP X pins σ Q) X.xe { s3 with heap:=s3.heap.push { cls:=.type "slice",data:=.fields #[vl,vu,.none] } }
 exact tail_any (ops:=[.ref s3.heap.objs.size,v]) ht hT hg (by with_unfolding_all rfl)
def mP(xs:LV)(lo hi:Option Int):LV:=(xs.drop (HT.aQ xs.length 0 lo)).take (HT.aQ xs.length xs.length hi-HT.aQ xs.length 0 lo)
theorem EO(xs)(lo hi:Option Int):(mP xs lo hi).length<=xs.length:=by
 unfold mP;rw[List.length_take,List.length_drop];omega
def ND(K:ag):V->Option Int->Option Int->Hp->VK->Prop:=λx lo hi H Q=>∃a xs,x= .ref a/\bS K H a xs/\
 ¬(HT.aQ xs.length 0 lo=0/\HT.aQ xs.length xs.length hi=xs.length)/\∀p,H p=none->Q (.ref p) (upd H p (.tup (mP xs lo hi)))
theorem UH:uX X (ND X.K):=by
 intro pins s σ H x v vl vu lo hi sl Q I Z hs pl pu h;obtain⟨a,xs,rfl,hx,Y,q⟩:=h;cases Z;obtain⟨ae,r,W,hz⟩:=I.tuple hx;have J:ae.toArray.size=xs.length:=by rw[eQ];exact r.length.symm
 refine⟨"tuple",_,PyProof.Rows.slot_tuple_getitem.lookup,W.typeIs,?_⟩;refine HT.c9 W hs pl pu (by rw[J];exact Y) ?_ (by rw[J];exact hz)
 rw[J];refine⟨.ref s.heap.objs.size,_,I.laid (t':=s.toks) (o:=.tup (mP xs lo hi)) (λb ob q=>Heap.get?_push_of_some _ q) (aU _) ?_,rfl,q _ (I.av.fresh (aU _))⟩
 exact⟨dJ (EO xs lo hi) hz,_,(r.drop (HT.aQ xs.length 0 lo)).take (HT.aQ xs.length xs.length hi-HT.aQ xs.length 0 lo),IsTup.new _ _⟩
def Xw(K:ag):R2:=λx y H Q=>∃a b xs ys,x= .ref a/\y= .ref b/\bS K H a xs/\bS K H b ys/\xs≠[]/\xs.length+ys.length<=sizeLine/\
 (ys= []->Q (.ref a) H)/\(ys≠[]->∀p,H p=none->Q (.ref p) (upd H p (.tup (xs++ys))))
theorem Vals.fP{us:au}(r:Vals xs us):us= []↔xs= []:=by
 cases r with
 |nil=>simp
 |cons _ _=>simp
theorem TL:dP X (binaryOp .Add) (Xw X.K):=by
 intro pins s σ H x y v u Q I rx ry h;obtain⟨a,b,xs,ys,rfl,rfl,ha,hb,hx,hz,q1,q2⟩:=h;cases rx;cases ry;obtain⟨ae,r1,p1,_⟩:=I.tuple ha;obtain⟨its2,r2,p2,_⟩:=I.tuple hb;refine HT.jF p1 p2 (λz=>hx (r1.fP.mp z)) (λz=>⟨.ref a,H,I,rfl,q1 (r2.fP.mp z)⟩) (λz=>?_) (by rw[<-r1.length,<-r2.length];exact hz)
 refine⟨.ref s.heap.objs.size,_,I.laid (t':=s.toks) (o:=.tup (xs++ys)) (λb ob q=>Heap.get?_push_of_some _ q) (aU _) ?_,rfl,q2 (λw=>z (r2.fP.mpr w)) _ (I.av.fresh (aU _))⟩
 exact⟨by rw[dH];exact hz,_,r1.append r2,IsTup.new _ _⟩
end
def fM(n:Nat)(i:Int):Option Nat:=if 0<=i then(if i<n then some i.toNat else none)else if -(n:Int)<=i then some (i+n).toNat else none
def bL(xs:List α)(i:Int):Option α:=(fM xs.length i).bind λj=>xs[j]?
theorem GD{n:Nat}{i:Int}(h:fM n i=some j):seqIndex? i n=some j/\j<n/\-(n:Int)<=i/\i<n:=by
 unfold fM at h
 by_cases h0:0<=i
 . rw[if_pos h0]at h
   by_cases h1:i<n
   . rw[if_pos h1]at h
     have e:i.toNat=j:=Option.some.inj h;exact⟨by rw[seqIndex_of h0 h1,e],by omega,by omega,h1⟩
   . rw[if_neg h1]at h;cases h
 . rw[if_neg h0]at h
   by_cases h1:-(n:Int)<=i
   . rw[if_pos h1]at h
     have e:(i+n).toNat=j:=Option.some.inj h;exact⟨by rw[seqIndex_neg (by omega) h1,e],by omega,h1,by omega⟩
   . rw[if_neg h1]at h;cases h
theorem zP{i:Int}{v:α}(h:bL xs i=some v):∃j,seqIndex? i xs.length=some j/\xs[j]? =some v/\j<xs.length/\-(xs.length:Int)<=i/\i<xs.length:=by
 unfold bL at h;cases e:fM xs.length i with
 |none=>rw[e]at h;cases h
 |some j=>
  rw[e]at h;obtain⟨h1,h2,I,J⟩:=GD e;exact⟨j,h1,h,h2,I,J⟩
def Hc(b:Expr):Prop:=∀o i,subscripted b false o i=operate [o,i] (getItem o i)
def rj(X:Cx)(r:R2):Prop:=
 ∀value I pins s σ H x y v u Q,Inv X pins σ H s->RelV x v->RelV y u->r x y H Q->
  subscripted I false v u=operate [v,u] (getItem v u)->wpAny (model X.prog X.w) X.A (subscriptTail value I v u) (EP X pins σ Q) X.xe s
def Lp(X:Cx)(id:String)(r:V->LV->Hp->VK->Prop):Prop:=
 ∀pins s σ H x xs v us Q,Inv X pins σ H s->RelV x v->Vals xs us->r x xs H Q->
  wpAny (model X.prog X.w) X.A (call (.builtin id) (v::us)) (EP X pins σ Q) X.xe s
section
variable {X:Cx}{a b:Expr}{ta tb:TE}{pos:Pos}
theorem W7(Z:rj X r)(W:PE X a ta)(Y:PE X b tb)(hs:Hc b):PE X (.Subscript a b pos) (qV r ta tb):=by
 intro pins s σ H Q I h;exact Subscript_ (AZ W Y I h λv u s2 x y H2 J rx ry q=>Z a b pins s2 σ H2 x y v u Q J rx ry q (hs _ _))
def NJ(K:ag):R2:=λx y H Q=>∃p xs i v,x= .ref p/\y= .int i/\cB K H p xs/\bL xs i=some v/\Q v H
def NH(K:ag):R2:=λx y H Q=>∃p xs i v,x= .ref p/\y= .int i/\bS K H p xs/\bL xs i=some v/\Q v H
def NI:R2:=λx y H Q=>∃z i c,x= .str z/\y= .int i/\z.length<=sizeLine/\bL z.cps.toList i=some c/\Q (.str ⟨#[c]⟩) H
theorem GC:rj X (NJ X.K):=by
 intro value Y pins s σ H x y v u Q I rx ry h hs;obtain⟨p,xs,i,z,rfl,rfl,hq,he,q⟩:=h;cases rx;obtain⟨t,rfl⟩:=ry;obtain⟨ae,r,pl,hz⟩:=I.list hq;obtain⟨j,h1,h2,h3,h4,h5⟩:=zP he;obtain⟨w,Z,W⟩:=r.get h2;have hl:=r.length;have hn:=qB;have fin:EP X pins σ Q w s:=⟨z,H,I,W,q⟩
 by_cases h0:0<=i
 . have J:i.toNat=j:=by
    rw[seqIndex_of h0 h5]at h1;exact Option.some.inj h1
   exact item_listR pl.isList h0 (by omega) (by rw[J];simpa using Z) fin hs
 . have J:(i+(ae.toArray.size:Int)).toNat=j:=by
    rw[seqIndex_neg (by omega) h4]at h1
    rw[eQ,<-hl];exact Option.some.inj h1
   exact subscriptTail_builtinR (x:=w) pl.isList.typeIs slot_list_getitem.lookup
    (wpAny_getItem_list_neg (Q:=λr s'=>r=w/\EP X pins σ Q r s') pl.isList (by omega) (by rw[eQ]<;>omega) (by omega) (by rw[J];simpa using Z) ⟨rfl,fin⟩) hs
theorem Ve:rj X (NH X.K):=by
 intro value W pins s σ H x y v u Q I rx ry h hs;obtain⟨p,xs,i,z,rfl,rfl,hq,Z,q⟩:=h;cases rx;obtain⟨t,rfl⟩:=ry;obtain⟨ae,r,pl,hz⟩:=I.tuple hq;obtain⟨j,h1,h2,h3,h4,h5⟩:=zP Z;obtain⟨w,Y,J⟩:=r.get h2;have hl:=r.length;have hn:=qB;have fin:EP X pins σ Q w s:=⟨z,H,I,J,q⟩;exact subscriptTail_builtinR (x:=w) pl.typeIs slot_tuple_getitem.lookup
  (getItem_tuple (j:=j) (Q:=λr s'=>r=w/\EP X pins σ Q r s') pl (by omega) (by omega) (by rw[eQ,<-hl];exact h1) (by simpa using Y) ⟨rfl,fin⟩) hs
theorem Vf:rj X NI:=by
 intro value J pins s σ H x y v u Q I rx ry h hs;obtain⟨z,i,c,rfl,rfl,hz,he,q⟩:=h;obtain⟨t,rfl⟩:=rx;obtain⟨t',rfl⟩:=ry;obtain⟨j,h1,h2,h3,Y,Z⟩:=zP he;have hl:z.cps.toList.length=z.length:=by simp[Str.length]
 rw[hl]at h1 Y Z;have hn:=qB;exact tail_any (typeIs_str s z t) slot_str_getitem.lookup (getItem_str (c:=c) (by
  have e1:decide (i< -(2 ^ 63:Int))=false:=decide_eq_false (by omega)
  have W:decide (i ≥ 2 ^ 63)=false:=decide_eq_false (by omega)
  rw[e1,W,Bool.or_false]) (by rw[h1];simpa using h2) ⟨.str ⟨#[c]⟩,H,I.tok _,⟨_,rfl⟩,q⟩) hs
theorem PK(ae:au)(n j)(u):Obj.mapSeq (·.setIfInBounds j u) { cls:=.type "list",data:=.seq ae.toArray n }= { cls:=.type "list",data:=.seq (ae.set j u).toArray n }:=by
 simp[Obj.mapSeq]
theorem Inv.lst{s:Shared}{p:Addr}(I:Inv X pins σ H s)(h:H p=some (.lst xs)):
 ∃(ae:au) (n:Nat),Vals xs ae/\s.heap.get? p=some { cls:=.type "list",data:=.seq ae.toArray n }/\xs.length<=sizeLine:=by
 obtain⟨z,ae,n,r,e⟩:=I.av p _ h;exact⟨ae,n,r,e,z⟩
theorem Inv.ot{s:Shared}{p:Addr}{ae its':au}{n J:Nat}(I:Inv X pins σ H s)(h:H p=some (.lst xs))
 (ho:s.heap.get? p=some { cls:=.type "list",data:=.seq ae.toArray n }) (W:f { cls:=.type "list",data:=.seq ae.toArray n }= { cls:=.type "list",data:=.seq its'.toArray J }) (r:Vals ys its') (hz:ys.length<=sizeLine) (t:Nat):
 Inv X pins σ (upd H p (.lst ys)) { s with heap:=s.heap.update p f,toks:=t }:=by
 have e:(s.heap.update p f).get? p=some { cls:=.type "list",data:=.seq its'.toArray J }:=by
  rw[Heap.get?_update_self f ho (by rw[W]<;>rfl),W]
 refine I.write (x:=p) (e:=p) (by rw[h];trivial) (.inl rfl) (λb u Y q=>(Heap.get?_update_other _ _ (Ne.symm Y)).trans q) ⟨_,e⟩ ?_
 exact⟨hz,its',J,r,e⟩
def oX:V->V->V->Hp->(Hp->Prop)->Prop:=λo i v H Q=>∃p xs k j,o= .ref p/\i= .int k/\H p=some (.lst xs)/\fM xs.length k=some j/\Q (upd H p (.lst (xs.set j v)))
theorem set_list:x6 X oX:=by
 intro pins s σ H o i v ov iv u Q I ro ri rv h;obtain⟨p,xs,k,j,rfl,rfl,hp,hj,q⟩:=h;cases ro;obtain⟨t,rfl⟩:=ri;obtain⟨ae,n,r,ho,hz⟩:=I.lst hp;obtain⟨h1,h2,Z,h4⟩:=GD hj;have J:=r.length;have hn:=qB;have Y:Inv X pins σ (upd H p (.lst (xs.set j v))) { s with heap:=s.heap.update p (Obj.mapSeq (·.setIfInBounds j u)) }:=
  I.ot hp ho (PK ae n j u) (r.set rv j) (by rw[List.length_set];exact hz) s.toks
 by_cases h0:0<=k
 . have hk:k.toNat=j:=by
    rw[seqIndex_of h0 h4]at h1;exact Option.some.inj h1
   exact PySem.W.ki_setAt ho h0 (by omega) (by rw[eQ,<-J];exact h4) (by rw[hk];exact⟨_,Y,q⟩)
 . have hk:(k+(ae.toArray.size:Int)).toNat=j:=by
    rw[seqIndex_neg (by omega) Z]at h1
    rw[eQ,<-J];exact Option.some.inj h1
   exact PySem.W.ki_setBack ho (by omega) (by rw[eQ,<-J];exact Z) (by omega) (by rw[hk];exact⟨_,Y,q⟩)
theorem OO(lo hi:Option Int)(n):(sliceBounds lo hi none n).1=((HT.aQ n 0 lo:Nat):Int)/\(sliceBounds lo hi none n).2.1=((HT.aQ n n hi:Nat):Int)/\(sliceBounds lo hi none n).2.2=1:=by
 refine⟨?_,?_,rfl⟩
 . cases lo with
   |none=>simp[sliceBounds,HT.aQ]
   |some i=>
    simp only[sliceBounds,HT.aQ,Option.getD_none,show(1:Int) > 0 by decide,if_true]
    by_cases h:i<0
    . simp only[h,if_true]<;>omega
    . simp only[h,if_false]<;>omega
 . cases hi with
   |none=>simp[sliceBounds,HT.aQ]
   |some i=>
    simp only[sliceBounds,HT.aQ,Option.getD_none,show(1:Int) > 0 by decide,if_true]
    by_cases h:i<0
    . simp only[h,if_true]<;>omega
    . simp only[h,if_false]<;>omega
theorem Ot(ae:au)(lo hi:Option Int):slicePick ae.toArray lo hi none=((ae.drop (HT.aQ ae.length 0 lo)).take (HT.aQ ae.length ae.length hi-HT.aQ ae.length 0 lo)).toArray:=by
 obtain⟨h1,h2,I⟩:=OO lo hi ae.toArray.size;unfold slicePick;rw[h1,h2,I];simp only[sliceRange_one,pick_run,eQ]<;>rfl
def NF(K:ag):V->Option Int->Option Int->Hp->VK->Prop:=λx lo hi H Q=>∃a xs,x= .ref a/\cB K H a xs/\∀p,H p=none->Q (.ref p) (upd H p (.lst (mP xs lo hi)))
theorem Tn:uX X (NF X.K):=by
 intro pins s σ H x v Z vu lo hi sl Q I Y hs pl pu h;obtain⟨a,xs,rfl,hx,q⟩:=h;cases Y;obtain⟨ae,r,W,hz⟩:=I.list hx;have J:=r.length;refine⟨"list",_,slot_list_getitem.lookup,W.isList.typeIs,?_⟩;refine wpAny_getItem_list_slice W.isList hs pl pu .none (by simp) ?_ (by rw[eQ]<;>omega)
 rw[Ot,<-J];refine⟨.ref s.heap.objs.size,_,I.laid (t':=s.toks) (o:=.lst (mP xs lo hi)) (λb ob q=>Heap.get?_push_of_some _ q) (aU _) ?_,rfl,q _ (I.av.fresh (aU _))⟩
 exact⟨dJ (EO xs lo hi) hz,_,0,(r.drop (HT.aQ xs.length 0 lo)).take (HT.aQ xs.length xs.length hi-HT.aQ xs.length 0 lo),Heap.get?_push_size _ rfl⟩
theorem y7:dw X (.builtin "len") (λxs H Q=>∃p ys,xs= [.ref p]/\(cB X.K H p ys∨bS X.K H p ys)/\Q (.int ys.length) H):=by
 intro pins s σ H xs us Q I r h;obtain⟨p,ys,rfl,W,q⟩:=h;obtain⟨u,rfl,Y⟩:=vals1 r;cases Y;have Z:=qB;rcases W with W|W
 . obtain⟨ae,r',pl,hz⟩:=I.list W
   have J:=r'.length;exact Calls.call_len_list pl.isList (by simp only[eQ]<;>omega) ⟨.int ys.length,H,I.tok _,⟨s.toks+1,by rw[eQ,J]⟩,q⟩
 . obtain⟨ae,r',pl,hz⟩:=I.tuple W
   have J:=r'.length;exact len_tuple pl (by simp only[eQ]<;>omega) ⟨.int ys.length,H,I.tok _,⟨s.toks+1,by rw[eQ,J]⟩,q⟩
theorem O7:dw X (.builtin "len") (λxs H Q=>∃z,xs= [.str z]/\z.length<=sizeLine/\Q (.int z.length) H):=by
 intro pins s σ H xs us Q I r h;obtain⟨z,rfl,hz,q⟩:=h;obtain⟨u,rfl,t,rfl⟩:=vals1 r;have J:=qB;exact len_str (by omega) ⟨.int z.length,H,I.tok _,⟨_,rfl⟩,q⟩
theorem O6:dw X (.type "list") (λxs H Q=>∃p ys,xs= [.ref p]/\(cB X.K H p ys∨bS X.K H p ys)/\∀l,H l=none->Q (.ref l) (upd H l (.lst ys))):=by
 intro pins s σ H xs us Q I r h;obtain⟨p,ys,rfl,W,q⟩:=h;obtain⟨u,rfl,Z⟩:=vals1 r;cases Z;have fin:∀ae,Vals ys ae->ys.length<=sizeLine->∀h' c',(∀b o',s.heap.get? b=some o'->h'.get? b=some o')->
  h'.get? s.heap.objs.size=some { cls:=.type "list",dict:=none,data:=.seq ae.toArray c',slots:=#[] }->EP X pins σ Q (.ref s.heap.objs.size) { s with heap:=h' }:=λae r' hz h' c' kp e=>
  ⟨.ref s.heap.objs.size,_,I.laid (t':=s.toks) kp (aU _) (show aD X.prog X.w _ h' _ (.lst ys)from⟨hz,ae,c',r',e⟩),rfl,q _ (I.av.fresh (aU _))⟩
 rcases W with W|W
 . obtain⟨ae,r',pl,hz⟩:=I.list W
   have J:=r'.length;obtain⟨o,ho,Y,n,hd⟩:=pl.isList;exact call_list_seq p (.inl rfl) ho Y hd (λh' c' kp e=>fin ae r' hz h' c' kp e) (by simp only[eQ]<;>omega)
 . obtain⟨ae,r',pl,hz⟩:=I.tuple W
   have J:=r'.length;obtain⟨o,ho,Y,n,hd⟩:=pl;exact call_list_seq p (.inr rfl) ho Y hd (λh' c' kp e=>fin ae r' hz h' c' kp e) (by simp only[eQ]<;>omega)
theorem yX:dw X (.type "tuple") (λxs H Q=>∃p ys,xs= [.ref p]/\((cB X.K H p ys/\∀l,H l=none->Q (.ref l) (upd H l (.tup ys)))∨(bS X.K H p ys/\Q (.ref p) H))):=by
 intro pins s σ H xs us Q I r h;obtain⟨p,ys,rfl,h⟩:=h;obtain⟨u,rfl,rx⟩:=vals1 r;cases rx;rcases h with⟨hq,q⟩|⟨hq,q⟩
 . obtain⟨ae,r',pl,hz⟩:=I.list hq
   have hlen:=r'.length;refine call_tuple_list pl.isList (λh' kp=>?_) (by simp only[eQ]<;>omega)
   have I1:Inv X pins σ H { s with heap:=h' }:=I.kept (t':=s.toks) kp
   have I2:Inv X pins σ (upd H h'.objs.size (.tup ys)) { s with heap:=h'.push { cls:=.type "tuple",data:=.seq ae.toArray } }:=
    I1.laid (t':=s.toks) (λb o e=>Heap.get?_push_of_some _ e) (aU _) (show aD X.prog X.w _ _ _ (.tup ys)from⟨hz,ae,r',IsTup.new _ _⟩)
   exact⟨.ref h'.objs.size,_,I2,rfl,q _ (I1.av.fresh (aU _))⟩
 . obtain⟨ae,r',pl,hz⟩:=I.tuple hq
   exact call_tuple_same pl ⟨.ref p,H,I,rfl,q⟩
def Lf(K:ag)(T:String)(x:V)(H:Hp):Prop:=match x with
 | .str _=>T= "str"
 | .int _=>T= "int"
 | .ref p=>(T= "list"/\∃xs,cB K H p xs)∨(T= "tuple"/\∃o,K.lookup p=some o/\o.cls= .type "tuple"/\o.dict=none)∨
  (T= "dict"/\((∃kvs,H p=some (.dK kvs))∨∃kvs,H p=some (.dT kvs)))∨(T= "set"/\∃S n,H p=some (.set S n))
 |_=>False
theorem T8{s:Shared}{T:String}{x:V}{v:Value}(I:Inv X pins σ H s)(r:RelV x v)(ty:Lf X.K T x H):
 s.TypeIs v T/\∀a,v= .ref a->∃ob,s.heap.get? a=some ob/\ob.dict=none:=by
 cases x with
 |str z=>
  obtain⟨t,rfl⟩:=r;cases(show T= "str" from ty)
  exact⟨typeIs_str s z t,λ_ e=>nomatch e⟩
 |int i=>
  obtain⟨t,rfl⟩:=r;cases(show T= "int" from ty)
  exact⟨typeIs_int s i t,λ_ e=>nomatch e⟩
 |ref p=>
  cases r;rcases ty with⟨rfl,xs,Y⟩|⟨rfl,o,hk,W,hd⟩|⟨rfl,hk⟩|⟨rfl,S,n,hk⟩
  . obtain⟨ae,_,pl,_⟩:=I.list Y
    refine⟨pl.isList.typeIs,λa e=>?_⟩
    cases e;obtain⟨o,n,e,c,hd,_⟩:=pl;exact⟨o,e,hd⟩
  . refine⟨⟨o,I.et p o hk,W⟩,λa e=>?_⟩
    cases e;exact⟨o,I.et _ o hk,hd⟩
  . have z:∃o,s.heap.get? p=some o/\o.ExactDict:=by
     rcases hk with⟨kvs,hk⟩|⟨kvs,hk⟩
     . obtain⟨_,_,_,_,o,_,_,e,ex,_⟩:=I.av p _ hk
       exact⟨o,e,ex⟩
     . obtain⟨_,_,_,_,o,_,_,e,ex,_⟩:=I.av p _ hk
       exact⟨o,e,ex⟩
    obtain⟨o,e,ex⟩:=z;refine⟨⟨o,e,ex.1⟩,λa J=>?_⟩
    cases J;exact⟨o,e,ex.2.1⟩
  . obtain⟨o,_,_,_,e,ex,_⟩:=I.av p _ hk
    refine⟨⟨o,e,ex.1⟩,λa J=>?_⟩
    cases J;exact⟨o,e,ex.2.1⟩
 |_=>exact False.elim ty
def Yk(K:ag)(T:String)(r:V->LV->Hp->VK->Prop)(to:TE)(t:TA):TE:=λσ H Q=>to σ H λx H1=>Lf K T x H1/\t σ H1 λxs H2=>r x xs H2 Q
variable {o e:Expr}{es:aW}{to:TE}{t:TA}{name:Str}{apos cpos:Pos}{T id:String}{r:V->LV->Hp->VK->Prop}
theorem W8(pa:PlainAttrs T)(slot:Slot T name id)(hty:typeOf (.builtin id)=pure (.type "method_descriptor"))(hm:Lp X id r)(ho:PE X o to)(ha:PA X (e::es) t)
 (hbase:attributeBase o name X.env (eval o X.env)=eval o X.env:=by rfl)
 (hfew:((backTo cpos (starEach (e::es) X.env)).all (λx=>!x.1)&&(backToKw cpos (keywordEach [] X.env)).all (λx=>x.1.isSome)
  &&decide ((e::es).length+([]:List Keyword).length+(if([]:List Keyword).isEmpty then 0 else 1)<30))=true:=by rfl)
 (hline:(apos.endLine==cpos.line)=true:=by rfl) (hs:starEach (e::es) X.env=(false,eval e X.env)::starEach es X.env:=by rfl) (hplain:(backTo cpos (starEach es X.env)).any (·.1)=false:=by rfl):
 PE X (.Call (.Attribute o name apos) (e::es) [] cpos) (Yk X.K T r to t):=by
 intro pins s σ H Q I h;refine wpAny_Call_method_late hbase hfew hline rfl (aA (ho pins s σ H _ I h) λv s1 zz=>?_);obtain⟨x,H1,I1,r1,ty,q1⟩:=zz
 obtain⟨h1,h2⟩:=T8 I1 r1 ty;refine⟨T,id,pa,slot,hty,h1,h2,?_⟩;have hA:=ha cpos pins s1 σ H1 _ I1 q1;rw[hs]at hA ⊢;refine Calls.callWith_builtin (by show(false||(backTo cpos (starEach es X.env)).any (·.1))=false;rw[hplain]<;>rfl) (Calls.evalArgs_plain ?_)
 exact aA hA λus s2 ⟨vs,H2,I2,r2,q2⟩=>hm pins s2 σ H2 x vs v us Q I2 r1 r2 q2
end
def Lo(X:Cx)(id:String)(r:V->LV->Hp->VK->Prop):Prop:=
 ∀pins s σ H x xs v us Q,Inv X pins σ H s->RelV x v->Vals xs us->r x xs H Q->
  wpAny (model X.prog X.w) X.A (call (.builtin id) (v::us)) (EP X pins σ Q) X.xe s
theorem Vals.one:∀{x:V} {us:au},Vals [x] us->∃u,us= [u]/\RelV x u
 |_,_,.cons r .nil=>⟨_,rfl,r⟩
theorem Vals.rep{us:au}(h:Vals xs us):∀k:Nat,Vals (List.replicate k xs).flatten (List.replicate k us).flatten
 |0=>.nil
 |k+1=>by
  rw[pQ,pQ,qY,qY];exact Vals.append h (Vals.rep h k)
theorem foldl_rep(ae:au):∀(k:Nat) (acc:au),
 List.foldl (λx1 x2=>x1++x2) acc.toArray (List.replicate k ae.toArray)=(acc++(List.replicate k ae).flatten).toArray
 |0,acc=>by simp
 |k+1,acc=>by
  have e:acc.toArray++ae.toArray=(acc++ae).toArray:=by simp
  have e2:(acc++ae)++(List.replicate k ae).flatten=acc++(List.replicate (k+1) ae).flatten:=by
   rw[pQ,qY,uN]
  rw[<-e2,<-foldl_rep ae k (acc++ae),<-e,pQ,List.foldl_cons]
section
variable {X:Cx}{pins:aG}{σ:St}{H:Hp}{s:Shared}{l b:Addr}{xs ys zs:LV}
theorem Inv.yR{ae its':au}{n:Nat}(I:Inv X pins σ H s)(J:H l=some (.lst xs))
 (e:s.heap.get? l=some { cls:=.type "list",data:=.seq ae.toArray n }) (Y:f ae.toArray=its'.toArray) (hv:Vals ys its') (hz:ys.length<=sizeLine):
 Inv X pins σ (upd H l (.lst ys)) { s with heap:=s.heap.update l (Obj.mapSeq f),toks:=t' }:=by
 have q:=PySem.IsL.update e f;rw[Y]at q;refine I.write (x:=l) (e:=l) (by rw[J];exact trivial) (.inl rfl) (λb' u W Z=>(Heap.get?_update_other s.heap (Obj.mapSeq f) (Ne.symm W)).trans Z) ⟨_,q⟩ ?_
 exact⟨hz,its',_,hv,q⟩
theorem Inv.yQ{ae:au}(I:Inv X pins σ H s)(J:Vals ys ae)(hz:ys.length<=sizeLine):
 Inv X pins σ (upd H s.heap.objs.size (.lst ys)) { s with heap:=s.heap.push { cls:=.type "list",data:=.seq ae.toArray },toks:=t' }:=
 I.laid (λ_ _ q=>Heap.get?_push_of_some _ q) (aU _) ⟨hz,ae,0,J,Heap.get?_push_size _ rfl⟩
theorem Inv.fresh(I:Inv X pins σ H s):H s.heap.objs.size=none:=I.av.fresh (aU _)
theorem Inv.rT(I:Inv X pins σ H s)(J:H l=some (.lst xs)):xs.length<=sizeLine/\∃(ae:au) (n:Nat),Vals xs ae/\xs.length=ae.length/\s.heap.get? l=some { cls:=.type "list",data:=.seq ae.toArray n }:=by
 obtain⟨z,ae,n,r,e⟩:=I.av l _ J;exact⟨z,ae,n,r,r.length,e⟩
theorem Ru{n:Nat}(h:n<=sizeLine):Builtin.List.listTooLong n=false:=by
 unfold Builtin.List.listTooLong;exact decide_eq_false (by omega)
end
section
variable {X:Cx}
def S5:V->LV->Hp->VK->Prop:=λx vs H Q=>∃l xs y,x= .ref l/\vs= [y]/\H l=some (.lst xs)/\xs.length<sizeLine/\Q .ak (upd H l (.lst (xs++ [y])))
theorem QU:Lo X "list.append" S5:=by
 intro pins s σ H x vs v us Q I W rv h;obtain⟨l,xs,y,rfl,rfl,J,hz,q⟩:=h;cases W;obtain⟨u,rfl,ru⟩:=rv.one;obtain⟨z,ae,n,r,Y,e⟩:=I.rT J;refine call_meets F.slot_list_append ⟨_,e,rfl⟩ F.entry_list_append (F.args_list_append_2 _ _) (PySem.list_append l ae.toArray n u (by rw[eQ];omega)) ⟨e,?_⟩
 refine⟨.ak,_,I.yR (its':=ae++ [u]) J e (by simp) (r.append (.cons ru .nil)) ?_,rfl,q⟩
 rw[dH,List.length_singleton];omega
def NG:R2:=λx y H Q=>∃l k xs,x= .ref l/\y= .int k/\H l=some (.lst xs)/\-(2 ^ 63)<=k/\k<2 ^ 63/\xs.length*k.toNat<=sizeLine/\
 ∀p,H p=none->Q (.ref p) (upd H p (.lst (List.replicate k.toNat xs).flatten))
theorem len_rep(xs:List α)(k):(List.replicate k xs).flatten.length=k*xs.length:=by
 induction k with
 |zero=>simp
 |succ k ih=>rw[pQ,qY,dH,ih,Nat.succ_mul,Nat.add_comm]
theorem Vt:dP X (binaryOp .Mult) NG:=by
 intro pins s σ H x y v u Q I rx ry h;obtain⟨l,k,xs,rfl,rfl,hH,h1,h2,hz,q⟩:=h;cases rx;obtain⟨t,rfl⟩:=ry;obtain⟨z,ae,n,r,hl,e⟩:=I.rT hH;have Z:ae.toArray.size*k.toNat<=sizeLine:=by rw[eQ,<-hl];exact hz
 have W:¬ae.toArray.size*k.toNat > (2 ^ 63-1) / 8:=by
  have:(sizeLine:Nat)<=(2 ^ 63-1) / 8:=by decide
  omega
 have Y:¬(!Builtin.List.listFitsIndex k)=true:=by
  rw[fitsIndex_both h1 h2];exact iE
 have J:¬Builtin.List.listTooLong (ae.toArray.size*k.toNat)=true:=by
  rw[Ru Z];exact iE
 have hnew:List.foldl (λx1 x2=>x1++x2) #[] (List.replicate (if ae.toArray.isEmpty=true then 0 else k.toNat) ae.toArray)=(List.replicate k.toNat ae).flatten.toArray:=by
  have f0:∀m:Nat,List.foldl (λx1 x2=>x1++x2) #[] (List.replicate m ae.toArray)=(List.replicate m ae).flatten.toArray:=λm=>by
   have:=foldl_rep ae m [];rw[mZ]at this;exact this
  rw[f0];cases ae with
  |nil=>simp
  |cons a r'=>rw[if_neg (by simp)]
 refine wpAny_binaryOp_repeat_ref (T:="list") (U:="int") (by decide) ⟨_,e,rfl⟩ (λs'=>typeIs_int s' k t) noFill_list_mul F.fills_int_mul F.slot_int_rmul repeat_list F.slot_int_index.lookup
  (call_meets F.slot_int_rmul (typeIs_int s k t) F.entry_int_rmul (F.args_int_rmul_2 _ _) (int___rmul___int_list k t l ae.toArray n)
   ⟨e,rfl,⟨_,e,rfl⟩,call_meets F.slot_list_mul ⟨_,e,rfl⟩ F.entry_list_mul (F.args_list_mul_2 _ _) (AutoListH.list___mul___list_int_3 l ae.toArray n k t Y W J) ⟨e,?_⟩⟩)
 rw[hnew];exact⟨.ref _,_,I.yQ (t':=s.toks) (r.rep k.toNat) (by rw[len_rep,Nat.mul_comm];exact hz),rfl,q _ I.fresh⟩
end
section
variable {κ:Type}[DecidableEq κ]
def fX(kvs:List (κ×V))(k:κ):Option V:=(kvs.find? λkv=>decide (kv.1=k)).map (·.2)
def putK(kvs:List (κ×V))(k:κ)(v:V):List (κ×V):=
 if(kvs.any λkv=>decide (kv.1=k))=true then kvs.map (λkv=>if kv.1=k then(kv.1,v)else kv)else kvs++ [(k,v)]
def ji(kvs:List (κ×V))(k:κ):List (κ×V):=kvs.filter λkv=>decide (kv.1≠k)
theorem tj{p:κ×V}(e:p.1=k):fX (p::r) k=some p.2:=by simp[fX,List.find?_cons,e]
theorem oI{p:κ×V}(e:¬p.1=k):fX (p::r) k=fX r k:=by simp[fX,List.find?_cons,e]
theorem FJ(k:κ):∀kvs:List (κ×V),(kvs.any λkv=>decide (kv.1=k))=(fX kvs k).isSome
 | []=>rfl
 |p::r=>by
  rw[jE]
  by_cases e:p.1=k
  . simp only[tj e,decide_eq_true e,Bool.true_or,Bc]
  . rw[oI e,decide_eq_false e,Bool.false_or];exact FJ k r
theorem Et(kvs:List (κ×V))(k:κ)(v):(putK kvs k v).length<=kvs.length+1:=by
 unfold putK;split
 . rw[br];omega
 . rw[dH,eG,List.length_nil];omega
theorem bN.bb(r:bN o u):o.isSome=u.isSome:=by
 cases o with
 |none=>cases u with
  |none=>rfl
  |some _=>exact(show False from r).elim
 |some _=>cases u with
  |none=>exact(show False from r).elim
  |some _=>rfl
theorem bN.getD(r:bN o u)(rd:RelV d d'):RelV (o.getD d) (u.getD d'):=by
 cases o with
 |none=>cases u with
  |none=>exact rd
  |some _=>exact(show False from r).elim
 |some _=>cases u with
  |none=>exact(show False from r).elim
  |some _=>exact r
theorem KV.val{vs:List (κ×Value)}(r:KV kvs vs)(k:κ):bN (fX kvs k) (valueAt vs k):=by
 unfold KV at r
 induction r with
 |nil=>exact True.intro
 | @cons p q ps qs h t ih=>
  obtain⟨h1,h2⟩:=h
  by_cases e:p.1=k
  . have I:q.1=k:=h1.symm.trans e
    have b:valueAt (q::qs) k=some q.2:=by simp[valueAt,List.find?_cons,I]
    rw[tj e,b];exact h2
  . have I:¬q.1=k:=λz=>e (h1.trans z)
    have b:valueAt (q::qs) k=valueAt qs k:=by simp[valueAt,List.find?_cons,I]
    rw[oI e,b];exact ih
theorem KV.any{vs:List (κ×Value)}(r:KV kvs vs)(k:κ):(kvs.any λkv=>decide (kv.1=k))=vs.any λkv=>decide (kv.1=k):=by
 unfold KV at r
 induction r with
 |nil=>rfl
 |cons h t ih=>rw[jE,jE,ih,h.1]
theorem KV.pI{vs:List (κ×Value)}(r:KV kvs vs)(k:κ)(I:RelV y u):
 KV (kvs.map λkv=>if kv.1=k then(kv.1,y)else kv) (vs.map λkv=>if kv.1=k then(kv.1,u)else kv):=by
 unfold KV at r ⊢
 induction r with
 |nil=>exact .nil
 | @cons p q ps qs h t ih=>
  rw[bT,bT];refine .cons ?_ ih;obtain⟨h1,h2⟩:=h
  by_cases e:p.1=k
  . rw[if_pos e,if_pos (h1.symm.trans e)];exact⟨h1,I⟩
  . rw[if_neg e,if_neg (λz=>e (h1.trans z))];exact⟨h1,h2⟩
theorem KV.put{vs:List (κ×Value)}(r:KV kvs vs)(k:κ)(I:RelV y u):KV (putK kvs k y) (stored vs k u):=by
 unfold putK stored;rw[r.any k]
 by_cases e:(vs.any λkv=>decide (kv.1=k))=true
 . rw[if_pos e,if_pos e];exact r.pI k I
 . rw[if_neg e,if_neg e];exact Paired.snoc r ⟨rfl,I⟩
theorem KV.drop{vs:List (κ×Value)}(r:KV kvs vs)(k:κ):KV (ji kvs k) (without vs k):=by
 unfold KV at r ⊢;unfold ji without
 induction r with
 |nil=>exact .nil
 | @cons p q ps qs h t ih=>
  obtain⟨h1,h2⟩:=h;rw[lS,lS]
  by_cases e:p.1=k
  . have a:¬decide (p.1≠k)=true:=by simp[e]
    have b:¬decide (q.1≠k)=true:=by simp[h1.symm.trans e]
    rw[if_neg a,if_neg b];exact ih
  . have I:¬q.1=k:=λz=>e (h1.trans z)
    have a:decide (p.1≠k)=true:=by simp[e]
    have b:decide (q.1≠k)=true:=by simp[I]
    rw[if_pos a,if_pos b];exact .cons ⟨h1,h2⟩ ih
theorem KV.length{vs:List (κ×Value)}(r:KV kvs vs):kvs.length=vs.length:=Paired.length r
theorem Rm(kvs:List (κ×V))(k:κ):(ji kvs k).length<=kvs.length:=gY _ _
end
theorem lD{P:Program}{w:World}(r:RelV (kV k) u):(eM P w).is k u=true:=by
 cases k with
 |inl i=>obtain⟨t,e⟩:=(show ∃t,u=Value.int i t from r);subst e;exact OW P w i t
 |inr x=>obtain⟨t,e⟩:=(show ∃t,u=Value.str x t from r);subst e;exact Er P w x t
theorem Xf{P:Program}{w:World}(r:RelV (oV k) u):(optKind P w).is k u=true:=by
 cases k with
 |none=>cases(show u=Value.none from r);rfl
 |some j=>exact lD (P:=P) (w:=w) r
theorem EW{P:Program}{w:World}:∀{ks:List bM} {us:au},Vals (ks.map oV) us->ItemsAre (optKind P w) ks us
 | [],_,r=>by rw[pS]at r;cases r;exact .nil
 |k::ks,_,r=>by
  rw[bT]at r;cases r with
  |cons h t=>exact .cons (Xf h) (EW t)
abbrev KT(H:Hp):List (List bM×V)->List (List bM×Addr×Value)->Prop:=Paired λp q=>p.1=q.1/\H q.2.1=some (.tup (p.1.map oV))/\RelV p.2 q.2.2
theorem KT.val(r:KT H kvs xs)(k:List bM):bN (fX kvs k) ((atKey xs k).map (·.2)):=by
 induction r with
 |nil=>exact True.intro
 | @cons p q ps qs h t ih=>
  obtain⟨h1,_,h2⟩:=h
  by_cases e:p.1=k
  . have I:q.1=k:=h1.symm.trans e
    have b:atKey (q::qs) k=some q.2:=by simp[atKey,List.find?_cons,I]
    rw[tj e,b];exact h2
  . have I:¬q.1=k:=λz=>e (h1.trans z)
    have b:atKey (q::qs) k=atKey qs k:=by simp[atKey,List.find?_cons,I]
    rw[oI e,b];exact ih
theorem KT.pI(r:KT H kvs xs)(k:List bM)(J:RelV y u):
 KT H (kvs.map λkv=>if kv.1=k then(kv.1,y)else kv) (xs.map (putAt k u)):=by
 induction r with
 |nil=>exact .nil
 | @cons p q ps qs h t ih=>
  rw[bT,bT];refine .cons ?_ ih;obtain⟨h1,h2,I⟩:=h;unfold putAt
  by_cases e:p.1=k
  . rw[if_pos e,if_pos (h1.symm.trans e)];exact⟨h1,h2,J⟩
  . rw[if_neg e,if_neg (λz=>e (h1.trans z))];exact⟨h1,h2,I⟩
theorem KT.put(r:KT H kvs xs)(k:List bM){b:Addr}(J:H b=some (.tup (k.map oV)))(I:RelV y u):
 KT H (putK kvs k y) (storedH xs k b u):=by
 have e:(kvs.any λkv=>decide (kv.1=k))=(atKey xs k).isSome:=by
  rw[FJ,(r.val k).bb,mY]
 unfold putK storedH;rw[e]
 by_cases q:(atKey xs k).isSome=true
 . rw[if_pos q,if_pos q];exact r.pI k I
 . rw[if_neg q,if_neg q];exact Paired.snoc r ⟨rfl,J,I⟩
theorem KT.keeps(r:KT H kvs xs)(I:∀b ys,H b=some (.tup ys)->H' b=some (.tup ys)):KT H' kvs xs:=
 Paired.ou r λ_ _ z=>⟨z.1,I _ _ z.2.1,z.2.2⟩
section
variable {P:Program}{w:World}{H:Hp}{h:Heap}{a:Addr}
theorem Jf(ok:cJ P w H h)(e:Rd H a u):aD P w H h a u:=e.ok ok
theorem mH(ok:cJ P w H h)(e:Rd H a (.dK kvs)):kvs.length<=sizeLine/\(a==sysModules)=false/\∃vs,KV kvs vs/\h.DictOf (eM P w) a vs:=
 show aD P w H h a (.dK kvs)from Jf ok e
theorem JB(ok:cJ P w H h)(e:H a=some (.dK kvs)):kvs.length<=sizeLine/\(a==sysModules)=false/\∃vs,KV kvs vs/\h.DictOf (eM P w) a vs:=mH ok (.inl e)
theorem oT{ks:List bM}(ok:cJ P w H h)(e:H a=some (.tup (ks.map oV))):(tupleKind (optKind P w)).is h ks a:=by
 obtain⟨_,ae,r,o,h1,h2,n,I⟩:=(show aD P w H h a (.tup (ks.map oV))from ok a _ e)
 exact⟨o,ae.toArray,n,h1,h2,I,by simpa using EW r⟩
theorem o7(ok:cJ P w H h)(e:Rd H a (.dT kvs)):kvs.length<=sizeLine/\(a==sysModules)=false/\
 ∃xs,KT H kvs xs/\h.DictOfH (tupleKind (optKind P w)) a xs:=by
 obtain⟨z,y,xs,r,o,es,ep,h1,h2,J,W,Y⟩:=(show aD P w H h a (.dT kvs)from Jf ok e)
 refine⟨z,y,xs,r,o,es,ep,h1,h2,J,W,λx hx=>?_,Y⟩
 have I:∀{l:List (List bM×V)} {m:List (List bM×Addr×Value)},KT H l m->∀x∈m,(tupleKind (optKind P w)).is h x.1 x.2.1:=by
  intro l m q
  induction q with
  |nil=>intro x hx;exact nomatch hx
  | @cons p q ps qs hq t ih=>
   intro x hx;rcases cj.mp hx with e|hx
   . subst e
     exact oT ok (by rw[<-hq.1];exact hq.2.1)
   . exact ih x hx
 exact I r x hx
theorem Av(ok:cJ P w H h)(e:H a=some (.dT kvs)):kvs.length<=sizeLine/\(a==sysModules)=false/\
 ∃xs,KT H kvs xs/\h.DictOfH (tupleKind (optKind P w)) a xs:=o7 ok (.inl e)
end
def bY(H:Hp)(a:Addr)(y:V)(r:Option V):Prop:=
 (∃kvs k,Rd H a (.dK kvs)/\y=kV k/\r=fX kvs k)∨∃kvs k b,Rd H a (.dT kvs)/\y= .ref b/\H b=some (.tup (k.map oV))/\r=fX kvs k
def fI(H:Hp)(a:Addr)(y v:V)(H':Hp):Prop:=
 (∃kvs k,H a=some (.dK kvs)/\y=kV k/\kvs.length<sizeLine/\H'=upd H a (.dK (putK kvs k v)))∨
 ∃kvs k b,H a=some (.dT kvs)/\y= .ref b/\H b=some (.tup (k.map oV))/\kvs.length<sizeLine/\H'=upd H a (.dT (putK kvs k v))
theorem bY.k{H:Hp}{a:Addr}{kvs:List (Key×V)}{k:Key}(e:H a=some (.dK kvs)):bY H a (kV k) (fX kvs k):=.inl ⟨kvs,k,.inl e,rfl,rfl⟩
theorem bY.t{a b:Addr}{k:List bM}(e:H a=some (.dT kvs))(I:H b=some (.tup (k.map oV))):bY H a (.ref b) (fX kvs k):=.inr ⟨kvs,k,b,.inl e,rfl,I,rfl⟩
theorem fI.k{H:Hp}{a:Addr}{kvs:List (Key×V)}{k:Key}{v:V}(e:H a=some (.dK kvs))(I:kvs.length<sizeLine):fI H a (kV k) v (upd H a (.dK (putK kvs k v))):=.inl ⟨kvs,k,e,rfl,I,rfl⟩
theorem fI.t{a b:Addr}{k:List bM}{v:V}(e:H a=some (.dT kvs))(I:H b=some (.tup (k.map oV)))(J:kvs.length<sizeLine):
 fI H a (.ref b) v (upd H a (.dT (putK kvs k v))):=.inr ⟨kvs,k,b,e,rfl,I,J,rfl⟩
section
variable {X:Cx}{pins:aG}{σ:St}{H:Hp}{s:Shared}{a:Addr}{y v:V}{u r:Value}{o:Option V}{A:Around}{E:aP}
theorem Inv.big(I:Inv X pins σ H s):sysModules<s.heap.objs.size:=by
 have h:mainGlobals<s.heap.objs.size:=(I.mod.glob.keeps I.bk).lt;exact gz (by decide) h
theorem Rg(hu:A.units+1<cLine)(I:Inv X pins σ H s)(g:bY H a y (some v))(ry:RelV y u)(h:∀W s',Inv X pins σ H s'->RelV v W->Q W s'):
 wpAny (model X.prog X.w) A (getItem (.ref a) u) Q E s:=by
 rcases g with⟨kvs,k,e,Y,l⟩|⟨kvs,k,b,e,Y,eb,l⟩
 . subst Y
   obtain⟨z,hd,vs,rel,dd⟩:=mH I.av e;obtain⟨W,hw,J⟩:=bN.some_of (v:=v) (o:=valueAt vs k) (by rw[l];exact rel.val k)
   exact wpAny_getItem_of (lD ry) dd.mapOf hw (h W _ (I.tok _) J)
 . subst Y
   cases(show u=Value.ref b from ry)
   obtain⟨z,hd,xs,rel,dd⟩:=o7 I.av e;obtain⟨W,hw,J⟩:=bN.some_of (v:=v) (o:=(atKey xs k).map (·.2)) (by rw[l];exact rel.val k)
   obtain⟨p,hp,Z⟩:=mX.mp hw;refine wpAny_getItem_heap (tupleKind_room_in1 hu) (oT I.av eb) dd hp ?_;rw[Z];exact h W _ (I.tok _) J
theorem Np(Z:A.units+1<cLine)(I:Inv X pins σ H s)(g:bY H a y o)(W:RelV y u)(h:∀s',Inv X pins σ H s'->Q (.bool o.isSome) s'):
 wpAny (model X.prog X.w) A (compareOp .In u (.ref a)) Q E s:=by
 rcases g with⟨kvs,k,e,J,l⟩|⟨kvs,k,b,e,J,Y,l⟩
 . subst J
   obtain⟨z,hd,vs,rel,dd⟩:=mH I.av e;refine wpAny_in_of (lD W) hd dd.mapOf ?_;rw[<-(rel.val k).bb,<-l];exact h _ (I.tok _)
 . subst J
   cases(show u=Value.ref b from W)
   obtain⟨z,hd,xs,rel,dd⟩:=o7 I.av e;refine wpAny_in_heap (tupleKind_room_in1 Z) (oT I.av Y) hd dd ?_;have q:=(rel.val k).bb;rw[mY]at q;rw[<-q,<-l];exact h _ (I.tok _)
theorem Ts(Z:A.units+1<cLine)(I:Inv X pins σ H s)(g:bY H a y o)(W:RelV y u)(h:∀s',Inv X pins σ H s'->Q (.bool (!o.isSome)) s'):
 wpAny (model X.prog X.w) A (compareOp .NotIn u (.ref a)) Q E s:=by
 rcases g with⟨kvs,k,e,J,l⟩|⟨kvs,k,b,e,J,Y,l⟩
 . subst J
   obtain⟨z,hd,vs,rel,dd⟩:=mH I.av e;refine wpAny_notIn_of (lD W) hd dd.mapOf ?_;rw[<-(rel.val k).bb,<-l];exact h _ (I.tok _)
 . subst J
   cases(show u=Value.ref b from W)
   obtain⟨z,hd,xs,rel,dd⟩:=o7 I.av e;refine wpAny_notIn_heap (tupleKind_room_in1 Z) (oT I.av Y) hd dd ?_;have q:=(rel.val k).bb;rw[mY]at q;rw[<-q,<-l];exact h _ (I.tok _)
theorem wZ{ob:HO}(I:Inv X pins σ H s)(mu:rA (H a))(hs:Heap.SameBut a s.heap h')(W:∃q,h'.get? a=some q)(new:aD X.prog X.w (upd H a ob) h' a ob):
 Inv X pins σ (upd H a ob) { s with heap:=h',toks:=t' }:=
 I.write (x:=a) (e:=a) mu (.inl rfl) (λb q J z=>(hs.2 b J).trans z) W new
theorem Im{P:Program}{w:World}{h':Heap}{kvs:List (Key×V)}{vs:List (Key×Value)}(z:kvs.length<=sizeLine)(hd:(a==sysModules)=false)(rel:KV kvs vs)(dd:h'.DictOf (eM P w) a vs):
 aD P w H' h' a (.dK kvs):=⟨z,hd,vs,rel,dd⟩
theorem Rf(hu:A.units+1<cLine)(I:Inv X pins σ H s)(g:fI H a y v H')(ry:RelV y u)(rv:RelV v r)(h:∀s',Inv X pins σ H' s'->Q () s'):
 wpAny (model X.prog X.w) A (setItem (.ref a) u r) Q E s:=by
 rcases g with⟨kvs,k,e,Y,l,eH⟩|⟨kvs,k,b,e,Y,eb,l,eH⟩
 . subst Y eH
   obtain⟨z,hd,vs,rel,dd⟩:=JB I.av e;have hz:vs.length<=sizeLine:=by rw[<-rel.length];exact z
   have Z:(putK kvs k v).length<=sizeLine:=by have:=Et kvs k v;omega
   refine wpAny_setItem_pairs (hsz:=hz) (lD ry) dd λh' J hs=>h _ ?_
   have he:∃q,h'.get? a=some q:=let⟨q,_,_,W,_⟩:=J;⟨q,W⟩;exact wZ I (by rw[e];exact True.intro) hs he (Im Z hd (rel.put k rv) J)
 . subst Y eH
   cases(show u=Value.ref b from ry)
   obtain⟨z,hd,xs,rel,dd⟩:=Av I.av e;have hz:xs.length<=sizeLine:=by rw[<-Paired.length rel];exact z
   have Z:(putK kvs k v).length<=sizeLine:=by have:=Et kvs k v;omega
   refine wpAny_setItem_heap (hsz:=hz) (tupleKind_room_in1 hu) (oT I.av eb) dd λh' J hs=>h _ ?_
   obtain⟨q,es,ep,W,h2,h3,h4,_,h5⟩:=J;refine wZ I (by rw[e];exact True.intro) hs ⟨q,W⟩ ⟨Z,hd,_,(rel.put k eb rv).keeps λc ys ec=>?_,q,es,ep,W,h2,h3,h4,h5⟩
   rw[aq (jh ec e (λz=>nomatch z))]
   exact ec
end
section
variable {X:Cx}{pins:aG}{σ:St}{H:Hp}{s:Shared}{a:Addr}{kvs:List (Key×V)}{k:Key}{u:Value}{A:Around}{E:aP}
theorem Rh(I:Inv X pins σ H s)(e:H a=some (.dK kvs))(Y:RelV (kV k) u)(l:(fX kvs k).isSome=true)(h:∀s',Inv X pins σ (upd H a (.dK (ji kvs k))) s'->Q () s'):
 wpAny (model X.prog X.w) A (delItem (.ref a) u) Q E s:=by
 obtain⟨z,hd,vs,rel,dd⟩:=JB I.av e;refine wpAny_delItem_slot dd.typeIs (by decide) PySem.F.slot_dict_delitem
  (call_meetsIn PySem.F.slot_dict_delitem dd.typeIs PySem.F.entry_dict_delitem (PySem.F.args_dict_delitem_2 _ _) (meets_dict_delitem_pairs (eM X.prog X.w) a (lD Y)) ⟨vs,dd,by rw[<-rel.length];exact z,by rw[<-(rel.val k).bb];exact l,λh' J hs=>h _ ?_⟩)
 have W:∃q,h'.get? a=some q:=let⟨q,_,_,hq,_⟩:=J;⟨q,hq⟩;exact wZ I (by rw[e];exact True.intro) hs W (Im (dJ (Rm kvs k) z) hd (rel.drop k) J)
theorem Xy(I:Inv X pins σ H s)(e:Rd H a (.dK kvs))(h:∀t s',Inv X pins σ H s'->Q (.int kvs.length t) s'):wpAny (model X.prog X.w) A (call (.builtin "len") [.ref a]) Q E s:=by
 obtain⟨z,hd,vs,rel,dd⟩:=mH I.av e;refine call_len_dict hd dd (by rw[<-rel.length];rw[sizeLine_eq]at z;omega) ?_
 rw[<-rel.length];exact h _ _ (I.tok _)
end
def x8(i:Expr):Prop:=∀ov iv,subscripted i false ov iv=operate [ov,iv] (getItem ov iv)
theorem Gk{w:World}{s:Shared}{env:Env}{T id:String}
 (hl:typeLookup (.type T) "__getitem__" =pure (some (.builtin id))) (hs:x8 slice)
 (h:wpAny (model prog w) A (eval value env) (λo W=>wpAny (model prog w) A (eval slice env) (λi I=>I.TypeIs o T/\wpAny (model prog w) A (getItem o i) Q E I) E W) E s):
 wpAny (model prog w) A (eval (.Subscript value slice pos) env) Q E s:=by
 refine Subscript_ (wpAny_mono h (λo W Z=>wpAny_mono Z (λi I J=>?_) λ_ _ x=>x) λ_ _ x=>x)
 obtain⟨hT,J⟩:=J;unfold subscriptTail;refine wpAny_bind ?_;rw[getitemInPython_of_ne hT.not_modules];refine wpAny_bind (wpAny_specialOf hT hl ?_);have fin:wpAny (model prog w) A (subscripted slice false o i) (λr Y=>wpAny (model prog w) A (letTemporaryGo value o r >>= λ_=>pure r) Q E Y) E I:=by
  rw[hs o i];exact wpAny_operating (wpAny_mono J (λr Y h₃=>wpAny_bind (wpAny_letTemporaryGo (wpAny_pure h₃))) λ_ _ x=>x)
 first
  |exact wpAny_pure (wpAny_bind fin)
  |exact wpAny_bind (wpAny_pure (wpAny_bind fin))
  |exact wpAny_bind fin
theorem O9{s:Shared}{a:Addr}(I:Inv X pins σ H s)(g:bY H a y o):s.TypeIs (.ref a) "dict":=by
 rcases g with⟨kvs,k,e,_,_⟩|⟨kvs,k,b,e,_,_,_⟩
 . obtain⟨_,_,vs,_,dd⟩:=mH I.av e
   exact dd.typeIs
 . obtain⟨_,_,xs,_,dd⟩:=o7 I.av e
   exact dd.typeIs
def We(td ty:TE):TE:=λσ H Q=>td σ H λx H1=>ty σ H1 λy H2=>∃a v,x= .ref a/\bY H2 a y (some v)/\Q v H2
def MM(ty td:TE):TE:=λσ H Q=>ty σ H λy H1=>td σ H1 λx H2=>∃a o,x= .ref a/\bY H2 a y o/\Q (.bl o.isSome) H2
def Tj(ty td:TE):TE:=λσ H Q=>ty σ H λy H1=>td σ H1 λx H2=>∃a o,x= .ref a/\bY H2 a y o/\Q (.bl (!o.isSome)) H2
def Wu(td ty tv:TE):TS:=λD σ H=>tv σ H λv H1=>td σ H1 λx H2=>ty σ H2 λy J=>∃a I,x= .ref a/\fI J a y v I/\D.nx σ I
section
variable {X:Cx}{o i e value:Expr}{pos pos' tpos:Pos}{td ty tv:TE}
theorem SD(hu:X.A.units+1<cLine)(ho:PE X o td)(hi:PE X i ty)(hs:x8 i):PE X (.Subscript o i pos) (We td ty):=by
 intro pins s σ H Q I h;refine Gk PySem.F.slot_dict_getitem.lookup hs (aA (ho pins s σ H _ I h) λu s1 ⟨x,H1,I1,rx,q1⟩=>aA (hi pins s1 σ H1 _ I1 q1) λiv s2 zz=>?_);obtain⟨y,H2,I2,ry,a,v,ex,g,q2⟩:=zz
 subst ex;obtain rfl:u=Value.ref a:=rx;exact⟨O9 I2 g,Rg hu I2 g ry λw' s3 I3 rw'=>⟨v,H2,I3,rw',q2⟩⟩
theorem HH(hu:X.A.units+1<cLine)(hi:PE X i ty)(ho:PE X o td):PC X .In i o (MM ty td):=by
 intro pins s σ H Q I h;refine aA (hi pins s σ H _ I h) λiv s1 ⟨y,H1,I1,ry,q1⟩=>aA (ho pins s1 σ H1 _ I1 q1) λu s2 zz=>?_;obtain⟨x,H2,I2,rx,a,ov,ex,g,q2⟩:=zz
 subst ex;obtain rfl:u=Value.ref a:=rx;exact Np hu I2 g ry λs3 I3=>⟨.bl ov.isSome,H2,I3,rfl,q2⟩
theorem Fg(hu:X.A.units+1<cLine)(hi:PE X i ty)(ho:PE X o td):PC X .NotIn i o (Tj ty td):=by
 intro pins s σ H Q I h;refine aA (hi pins s σ H _ I h) λiv s1 ⟨y,H1,I1,ry,q1⟩=>aA (ho pins s1 σ H1 _ I1 q1) λu s2 zz=>?_;obtain⟨x,H2,I2,rx,a,ov,ex,g,q2⟩:=zz
 subst ex;obtain rfl:u=Value.ref a:=rx;exact Ts hu I2 g ry λs3 I3=>⟨.bl (!ov.isSome),H2,I3,rfl,q2⟩
theorem Sv(hu:X.A.units+1<cLine)(ho:PE X o td)(hi:PE X i ty)(hv:PE X value tv)(hs:swapsWith value (some (.Subscript o i pos')) pos.line X.env=pure false):
 PS X (.Assign [.Subscript o i pos'] value pos) (Wu td ty tv):=by
 intro pins s σ H D I h;refine wpAny_Assign_Subscript (aA (hv pins s σ H _ I h) λr s1 ⟨v,H1,I1,rv,q1⟩=>aA (ho pins s1 σ H1 _ I1 q1) λu s2 ⟨x,H2,I2,rx,q2⟩=>aA (hi pins s2 σ H2 _ I2 q2) λiv s3 zz=>?_) hs;obtain⟨y,H3,I3,ry,a,H4,ex,g,q3⟩:=zz
 subst ex;obtain rfl:u=Value.ref a:=rx;exact Rf hu I3 g ry rv λs4 I4=>⟨σ,H4,I4,q3⟩
end
theorem Rp{P:Program}{w:World}(h:Heap)(I:sysModules<h.objs.size):aD P w H (h.push { cls:=.type "dict",data:=.dict #[] }) h.objs.size (.dK []):=
 ⟨Nat.zero_le _,beq_eq_false_iff_ne.mpr (Ne.symm (cW I)),[],.nil,Heap.DictOf.new h⟩
theorem Rl{P:Program}{w:World}(h:Heap)(I:sysModules<h.objs.size):aD P w H (h.push { cls:=.type "dict",data:=.dict #[] }) h.objs.size (.dT []):=
 ⟨Nat.zero_le _,beq_eq_false_iff_ne.mpr (Ne.symm (cW I)),[],.nil,_,#[],0,Heap.get?_push_size _ rfl,⟨rfl,rfl,rfl⟩,rfl,rfl,lV⟩
def T3:TE:=λ_ H Q=>∀p,H p=none->Q (.ref p) (upd H p (.dK []))
def TZ:TE:=λ_ H Q=>∀p,H p=none->Q (.ref p) (upd H p (.dT []))
section
variable {X:Cx}{pos:Pos}
theorem Se:PE X (.Dict [] [] pos) T3:=λpins s σ H Q I h=>
 wpAny_Dict_empty ⟨.ref s.heap.objs.size,_,I.laid (a:=s.heap.objs.size) (o:=.dK []) (t':=s.toks) (λ_ _ q=>Heap.get?_push_of_some _ q) (aU _) (Rp s.heap I.big),rfl,h _ (I.av.fresh (aU _))⟩
theorem Sd:PE X (.Dict [] [] pos) TZ:=λpins s σ H Q I h=>
 wpAny_Dict_empty ⟨.ref s.heap.objs.size,_,I.laid (a:=s.heap.objs.size) (o:=.dT []) (t':=s.toks) (λ_ _ q=>Heap.get?_push_of_some _ q) (aU _) (Rl s.heap I.big),rfl,h _ (I.av.fresh (aU _))⟩
end
structure M1(X:Cx)(o:Expr)(m:Str)(apos:Pos)(e:Expr)(cpos:Pos):Prop where
 base:attributeBase o m X.env (eval o X.env)=eval o X.env
 rL:((backTo cpos (starEach [e] X.env)).all (λx=>!x.1)&&(backToKw cpos (keywordEach [] X.env)).all (λx=>x.1.isSome)
  &&decide (([e]:aW).length+([]:List Keyword).length+(if([]:List Keyword).isEmpty then 0 else 1)<30))=true
 line:(apos.endLine==cpos.line)=true
 trees:backTo cpos (starEach [e] X.env)= [(false,eval e X.env)]
structure M2(X:Cx)(o:Expr)(m:Str)(apos:Pos)(e f:Expr)(cpos:Pos):Prop where
 base:attributeBase o m X.env (eval o X.env)=eval o X.env
 rL:((backTo cpos (starEach [e,f] X.env)).all (λx=>!x.1)&&(backToKw cpos (keywordEach [] X.env)).all (λx=>x.1.isSome)
  &&decide (([e,f]:aW).length+([]:List Keyword).length+(if([]:List Keyword).isEmpty then 0 else 1)<30))=true
 line:(apos.endLine==cpos.line)=true
 trees:backTo cpos (starEach [e,f] X.env)= [(false,eval e X.env),(false,eval f X.env)]
def yq(H:Hp)(a:Addr):Prop:=(∃kvs,Rd H a (.dK kvs))∨∃kvs,Rd H a (.dT kvs)
theorem Vk{s:Shared}{a:Addr}(I:Inv X pins σ H s)(d:yq H a):
 s.TypeIs (.ref a) "dict"/\(∀b,Value.ref a= .ref b->∃ob,s.heap.get? b=some ob/\ob.dict=none)/\(a==sysModules)=false:=by
 rcases d with⟨kvs,e⟩|⟨kvs,e⟩
 . obtain⟨_,hd,vs,_,dd⟩:=mH I.av e
   refine⟨dd.typeIs,λb q=>?_,hd⟩
   cases q;obtain⟨ob,_,_,h1,h2,_⟩:=dd;exact⟨ob,h1,h2.2.1⟩
 . obtain⟨_,hd,xs,_,dd⟩:=o7 I.av e
   refine⟨dd.typeIs,λb q=>?_,hd⟩
   cases q;obtain⟨ob,_,_,h1,h2,_⟩:=dd;exact⟨ob,h1,h2.2.1⟩
section
variable {X:Cx}{pins:aG}{σ:St}{H:Hp}{s:Shared}{a:Addr}{y d:V}{u r:Value}{o:Option V}{A:Around}{E:aP}
theorem VT(hu:A.units+1<cLine)(I:Inv X pins σ H s)(g:bY H a y o)(W:RelV y u)(h:∀Y s',Inv X pins σ H s'->RelV (o.getD .ak) Y->Q Y s'):
 wpAny (model X.prog X.w) A (call (.builtin "dict.get") [.ref a,u]) Q E s:=by
 rcases g with⟨kvs,k,e,J,l⟩|⟨kvs,k,b,e,J,Z,l⟩
 . subst J
   obtain⟨z,hd,vs,rel,dd⟩:=mH I.av e;refine call_meetsIn PySem.F.slot_dict_get dd.typeIs PySem.F.entry_dict_get (PySem.F.args_dict_get_2 _ _) (meets_dict_get (eM X.prog X.w) a (lD W) hd) ⟨_,dd.mapOf,h _ _ (I.tok _) ?_⟩;rw[l];exact(rel.val k).getD rfl
 . subst J
   cases(show u=Value.ref b from W)
   obtain⟨z,hd,xs,rel,dd⟩:=o7 I.av e;refine call_meetsIn PySem.F.slot_dict_get dd.typeIs PySem.F.entry_dict_get (PySem.F.args_dict_get_2 _ _) (meetsH_dict_get (tupleKind (optKind X.prog X.w)) a b hd) ⟨tupleKind_room_in1 hu,k,xs,oT I.av Z,dd,h _ _ (I.tok _) ?_⟩;rw[l];exact(rel.val k).getD rfl
end
def UG(td ty:TE):TE:=λσ H Q=>td σ H λx H1=>∃a,x= .ref a/\yq H1 a/\ty σ H1 λy H2=>∃o,bY H2 a y o/\Q (o.getD .ak) H2
section
variable {X:Cx}{o e f:Expr}{apos cpos:Pos}{td ty tx:TE}
theorem Sf(hu:X.A.units+1<cLine)(ho:PE X o td)(he:PE X e ty)(m:M1 X o "get" apos e cpos):PE X (.Call (.Attribute o "get" apos) [e] [] cpos) (UG td ty):=by
 intro pins s σ H Q I h;refine wpAny_Call_method m.base m.rL m.line PySem.F.plainAttrs_dict PySem.F.slot_dict_get PySem.F.type_dict_get (aA (ho pins s σ H _ I h) λu s1 zz=>?_);obtain⟨x,H1,I1,rx,a,ex,d,q1⟩:=zz
 subst ex;obtain rfl:u=Value.ref a:=rx;obtain⟨t1,t2,_⟩:=Vk I1 d;refine⟨t1,t2,?_⟩;rw[m.trees];refine Calls.callWith_builtin rfl (Calls.evalArgs_plain (Calls.spliced_cons (aA (he pins s1 σ H1 _ I1 q1) λiv s2 ⟨y,H2,I2,ry,ov,g,q2⟩=>Calls.spliced_nil ?_)))
 exact VT hu I2 g ry λw' s3 I3 rw'=>⟨_,H2,I3,rw',q2⟩
end
end L2
namespace Att
open PySem PySem.W PySem.Calls PyProof.Rows
theorem Oc{P:Params}:∀(ns:List Int) (vs:au),WellAll P h vs (ns.map WData.int)->IntsAre vs ns:=by
 intro ns
 induction ns with
 |nil=>
  intro vs w;rw[pS]at w;cases w;exact .nil
 |cons n ns ih=>
  intro vs w;rw[bT]at w;cases w with
  |cons a b=>
   cases a;exact .cons _ _ (ih _ b)
theorem P9{l:OpenLaw}{n:Nat}(hn:l.most=some n){P:Params}
 (I:l.row.toRowW.claim.pre args=true) (hwl:WellAll P h vals args):
 ∃a vs ns,vals= [Value.ref a]/\args= [WData.list (ns.map WData.int)]/\h.get? a=some { cls:=.type "list",data:=.seq vs.toArray }/\IntsAre vs ns/\ns.length<=n:=by
 have Z:WShape.hasAll [] args [.list .int]=true:=(pre_splitW I).1;have hc:l.pre.holds [] { args:=args }=true:=(pre_splitW I).2;obtain⟨d,r,rfl,h1,h2⟩:=hasAllW_cons Z;obtain rfl:=hasAllW_nil h2;obtain⟨xs,rfl,h3⟩:=hasW_list h1;obtain⟨ns,rfl⟩:=items_int h3;have J:ns.length<=n:=by
  unfold OpenLaw.pre at hc;have W:(WTm.not (.lt (.lit (.int (n:Int))) (.len (.arg 0)))).holds [] { args:=[.list (ns.map .int)] }=true:=by
   have W:=(holds_andW hc).1;rw[hn]at W;exact W
  have Y:=condW_of W (w_not (w_lt w_lit (w_len_list (w_arg rfl))));rw[br]at Y;refine Nat.le_of_not_lt λq=>?_
  have q':(n:Int)<((ns.length:Nat):Int):=by omega
  first
   |(rw[decide_eq_true q']at Y;exact absurd Y (by decide))
   |(simp at Y;omega)
 cases hwl with
 |cons w1 w2=>
  cases w2;cases w1 with
  |list ho hall=>exact⟨_,_,ns,rfl,rfl,ho,Oc ns _ hall,J⟩
theorem QL(l:OpenLaw)(args:List WData):l.row.toRowW.claim.post args (.bool true) args=true:=
 postW_of (r:=l.row.toRowW) (X:=(true==true))
  (show WShape.has [] (.bool true) .bool=true by first|rfl|decide|simp[WShape.has,WShape.arms,WShape.armsAll])
  (show(WTm.eq .res (.lit (.bool true))).value [] { args:=args,res:=some (.bool true),after:=args }=some (.bool (true==true))from w_eq_bool (w_res rfl) w_lit) rfl
theorem ee{l:OpenLaw}{n:Nat}{q:Program}{loose:az}{d:DefRec}
 (hn:l.most=some n) (hdf:d.params.defaults= [])
 (call:∀(w:World) (s₀ I:Shared) (mg mb:bq) (Z:Addr) (o:Obj) (pm cd J:Value) (a:Addr) (vs:au) (ns:List Int),
  Ground q loose [] XP w s₀ mg mb I.heap->YP w I.heap->
  I.heap.get? Z=some o->o.data= .func (docDef d.name d.params d.body d.scope pm cd J)->I.heap.CodeRec cd d.name->mg d.name=some (.ref Z)->
  I.heap.get? a=some { cls:=.type "list",data:=.seq vs.toArray }->IntsAre vs ns->ns.length<=n->I.gens= #[]->
  codeAny (model l.prog w) callerA (.call (.ref Z) ⟨[.ref a],[]⟩) (λr s'=>r= .ok (.ret (.bool true))/\OldK I.heap s'.heap/\s'.os=I.os/\AllBare s'.gens) I):
 WalkO q loose XP YP l.row.toRowW d [] (λf vs=>PySem.call f vs):=by
 intro w s₀ I mg mb G Y Z o pm cd J dV kV ho hd hcd hD hmg hg args vals as hpre hlay hrd hwl hlo;obtain rfl:dV= .none:=Dflts.none hD hdf;obtain rfl:kV= .none:=Dflts.noKw hD;obtain⟨a,vs,ns,rfl,rfl,hobj,W,hlen⟩:=P9 hn hpre hwl;refine enter_call (codeAny_mono (call w s₀ I mg mb Z o pm cd J a vs ns G Y ho (fd_plain hd) hcd hmg hobj W hlen hg) λr s' hq=>?_)
 obtain⟨rfl,h2,h3,h4⟩:=hq;exact⟨.inl ⟨.bool true,.bool true,[],rfl,λ_=>rfl,.bool true,QL l _,λ_=>⟨List.Pairwise.nil,λ_ hm=>(nomatch hm)⟩⟩,h2,h3,h4⟩
section
variable {prog:Program}{w:World}{A:Around}{E:aP}{s:Shared}{K:Frag}
def ledger(h:Heap)(L d:Addr):aG:=(List.range h.objs.size).filterMap λa=>if a=L∨a=d then none else(h.get? a).map λo=>(a,o)
end
end Att
namespace L2
open PySem PySem.Spec PyProof.Rows
theorem d9:∀{vs:au} {ns:List Int},IntsAre vs ns->Vals (ns.map V.int) vs
 |_,_,.nil=>.nil
 |_,_,.cons n t h=>.cons ⟨t,rfl⟩ (d9 h)
def AW(H:Hp):Prop:=∀b,H b=none∨∃o xs,H b=some (.aV o (.lst xs))
theorem RF{P:Program}{w:World}{K:ag}{fa a:Addr}{x:Str}{sp:Sp}{I:Shared}{vs:au}{ns:List Int}
 (KX:K.In I.heap) (hns:I.heap.Ns mainGlobals mg) (W:I.heap.Ns builtinsNs mb) (hbb:∀x:Str,x≠"__name__"->mb x=bootBuiltins x) (hlim:I.heap.NoLimit) (hg:I.gens= #[])
 (ha:I.heap.get? a=some { cls:=.type "list",data:=.seq vs.toArray }) (hi:IntsAre vs ns) (hl:ns.length<=sizeLine) (hr:aH k callerA)
 (F:∀base:Heap,K.In base->base.Ns mainGlobals mg->dz P w K mg base CX k fa fd [x] sp) (hbind:∀s u,BindsTo s fd ⟨[u],[]⟩ [(x,u)])
 (hsp:∀H:Hp,AW H->cB K H a (ns.map V.int)->sp [.ref a] H (λv _=>v= .bl true) λ_ _ _=>False)
 (hCX:∀H e s',CX [] H I (λ_ _ _=>False) e s'->False):
 codeAny (model P w) callerA (.call (.ref fa) ⟨[.ref a],[]⟩) (λr s'=>r= .ok (.ret (.bool true))/\OldK I.heap s'.heap/\s'.os=I.os/\AllBare s'.gens) I:=by
 have rv:=d9 hi;have lenV:=hi.length;have Z:∀H:Hp,AW H->cB K H a (ns.map V.int)->cJ P w H I.heap->(∀b,H b≠none->b=a)->(H a≠none->K.lookup a=none)->
  codeAny (model P w) callerA (.call (.ref fa) ⟨[.ref a],[]⟩) (λr s'=>r= .ok (.ret (.bool true))/\OldK I.heap s'.heap/\s'.os=I.os/\AllBare s'.gens) I:=by
  intro H hO hS av hA hK;have J:∀{b:Addr} {o:Obj},I.heap.get? b=some o->H b=none->(iu I.heap H).get? b=some o:=λe n=>zp e n
  have noA:∀{b:Addr} {o:Obj} {es:Array DictEntry} {ep:Nat},I.heap.get? b=some o->o.data= .dict es ep->H b=none:=λ{b o es ep} e d=>by
   cases q:H b with
   |none=>rfl
   |some u=>
    have e':b=a:=hA b (by rw[q];simp)
    subst e';rw[ha]at e;cases e;have d':Data.seq vs.toArray _=Data.dict es ep:=d;cases d'
  have Y:∀{b:Addr} {m:bq},I.heap.Ns b m->(iu I.heap H).Ns b m:=λ{b m} ⟨o,es,ep,e,d,r⟩=>⟨o,es,ep,J e (noA e d),d,r⟩
  have hKb:K.In (iu I.heap H):=λb o e=>J (KX b o e) (by
   cases q:H b with
   |none=>rfl
   |some u=>
    have e':b=a:=hA b (by rw[q];simp)
    subst e';rw[hK (by rw[q];simp)]at e;cases e)
  have hM:Mod K mg (iu I.heap H):=⟨hKb,Y hns,⟨mb,Y W,hbb⟩,let⟨mc,h1,h2⟩:=hlim;⟨mc,Y h1,h2⟩⟩;have e0:f7 P w K mg (iu I.heap H) callerA [] I H:=⟨rfl,hM,λb o e=>GP e,Nat.le_of_eq (Fh _ _),trivial,λb W=>absurd (show b∈([]:List Addr)from W) (by simp),av,.of_eq hg⟩
  refine codeAny_mono ((F _ hKb (Y hns)).run callerA [] I H ⟨[.ref a],[]⟩ [.ref a] [.ref a] _ _ hr e0 (hbind I (.ref a)) (.cons rfl .nil) (hsp H hO hS)) λr s' h=>?_
  cases r with
  |error e=>exact(hCX H e s' h).elim
  |ok fl=>
   cases fl with
   |next=>exact False.elim h
   |brk=>exact False.elim h
   |cont=>exact False.elim h
   |ret u=>
    obtain⟨v,H',os,bare,un,hok',r',q⟩:=h;have q':v= .bl true:=q;subst q';obtain rfl:u=Value.bool true:=r';refine⟨rfl,OldK.of_keep λb o e=>?_,os,bare⟩
    cases q:H b with
    |none=>exact un.keep b o e q (by intro z;exact absurd (show b∈([]:List Addr)from z) (by simp)) (by simp)
    |some u=>
     rcases hO b with z|⟨ob,xs,z⟩
     . rw[q]at z;cases z
     . have z2:=un.aI b ob _ z
       obtain⟨e1,_⟩:=av b _ z;obtain⟨e2,_⟩:=hok' b _ z2;rw[e]at e1;cases e1;exact e2
 cases hk:K.lookup a with
 |some o=>
  have e:=KX a o hk;rw[ha]at e;cases e;refine Z (λ_=>none) (λ_=>.inl rfl) (.inr ⟨_,vs.toArray,_,hk,rfl,rfl,rfl,by rw[eQ,lenV];exact hl,by simpa using rv⟩) (λb u z=>by have z':(none:Option HO)=some u:=z;cases z') (λb z=>absurd rfl z) λz=>absurd rfl z
 |none=>
  refine Z (λb=>if b=a then some (.aV { cls:=.type "list",data:=.seq vs.toArray } (.lst (ns.map V.int)))else none) (λb=>?_) (.inl (.inr ⟨{ cls:=.type "list",data:=.seq vs.toArray },if_pos rfl⟩)) (λb u z=>?_) (λb z=>?_) λ_=>hk
  . by_cases W:b=a
    . exact .inr ⟨_,_,if_pos W⟩
    . exact .inl (if_neg W)
  . by_cases W:b=a
    . have z':=(if_pos W).symm.trans z
      cases z';subst W;exact⟨ha,by rw[br];exact hl,vs,_,rv,ha⟩
    . have z':=(if_neg W).symm.trans z
      cases z'
  . by_cases W:b=a
    . exact W
    . exact absurd (if_neg W) z
abbrev KOf{K:ag}(_:K.In h):ag:=K
theorem qwj{l:PySem.W.OpenLaw}{n k:Nat}{q:Program}{loose:az}{XP:(bq)->Heap->Prop}{YP:World->Heap->Prop}{d:DefRec}{K:Params->ag}{CX:World->iW}{sp:World->Sp}{x:Str}
 (hn:l.most=some n) (hn2:n<=sizeLine) (hdf:d.params.defaults= []) (hr:aH k callerA)
 (hY:∀(w:World) (h:Heap),YP w h->(K w.params).In h)
 (F:∀(w:World) (mg:bq) (fa:Addr) (h:Heap),(K w.params).In h->h.Ns mainGlobals mg->mg d.name=some (.ref fa)->
  ∃fd:FuncData,(∀(s:Shared) (u:Value),BindsTo s fd ⟨[u],[]⟩ [(x,u)])/\
   ∀base:Heap,(K w.params).In base->base.Ns mainGlobals mg->dz l.prog w (K w.params) mg base (CX w) k fa fd [x] (sp w))
 (hsp:∀(w:World) (H:Hp) (a:Addr) (ns:List Int),ns.length<=n->AW H->cB (K w.params) H a (ns.map V.int)->sp w [.ref a] H (λv _=>v= .bl true) λ_ _ _=>False)
 (hCX:∀(w:World) (H:Hp) (s:Shared) (e:Value) (s':Shared),CX w [] H s (λ_ _ _=>False) e s'->False):
 PySem.W.WalkO q loose XP YP l.row.toRowW d [] (λf vs=>PySem.call f vs):=by
 refine Att.ee hn hdf λw s₀ s₁ mg mb fa o pm cd doc a vs ns G Y ho hd hcd hmg Z J I hg=>?_
 have KX:=hY w _ Y;obtain⟨fd,hb,hF⟩:=F w mg fa _ KX G.T.g hmg;exact RF KX G.T.g G.T.b G.T.builtins G.T.nolimit hg Z J (dJ I hn2) hr hF hb (λH hO hS=>hsp w H a ns I hO hS) λH e s'=>hCX w H s₁ e s'
def inClass(s:Stmt)(j:Nat):Stmt:=match s with
 | .ClassDef _ _ _ body _ _ _ _ _ _ _=>body.getD j (.Pass ⟨0,0,0,0⟩)
 |_=>.Pass ⟨0,0,0,0⟩
def Hl(s:Stmt):Arguments:=match s with
 | .FunctionDef _ a _ _ _ _ _ _ _ _=>a
 |_=>{ posonlyargs:=[],args:=[],vararg:=none,kwonlyargs:=[],kw_defaults:=[],kwarg:=none,defaults:=[] }
def oQ(s:Stmt):List Stmt:=match s with
 | .FunctionDef _ _ b _ _ _ _ _ _ _=>b
 |_=>[]
def fW(s:Stmt):Scope:=match s with
 | .FunctionDef _ _ _ _ _ _ sc _ _ _=>sc
 |_=>{ kind:=.function,names:=[],isGenerator:=false,isCoroutine:=false }
abbrev fz:iW:=λ_ _ _ _ _ _=>False
abbrev E0:XK:=λ_ _ _=>False
theorem oZ:Passes fz X E0:=λ_ _ _ _ _ _ _ h=>h.elim
structure rh(K:ag)(x qual:Str)(st:Stmt)(f:Addr)(fd:FuncData):Prop where
 ex:∃(oc:Value) (od:Option Addr) (kV doc pm:Value) (an:Option Addr) (cdv ct:Value) (osl:Array (cR)),
  fd=PySem.W.fnOf x qual (Hl st) (oQ st) (fW st) .none kV doc pm an cdv ct/\K.lookup f=some ⟨oc,od,.func fd,osl⟩/\PySem.W.codeIn K cdv qual=true
 kp:PySem.W.keepIn K (.ref f)=true
section
variable {P:Program}{w:World}{K:ag}{mg:bq}{base:Heap}
theorem rh.ok{x J:Str}{st:Stmt}{sp:Sp}(F:rh K x J st f fd)(S:qk N ps (fW st))(len:∀vs H Q E,sp vs H Q E->vs.length=ps.length)
 (W:∀I,fd.code=I->∀(A:Around) (outer:List Env) (s:Shared) (H:Hp) (vs:LV) (Q:VK) (E:XK),aH k (A.deeper (envOfC J (fW st) s.heap.objs.size f I))->sp vs H Q E->
  ∃t,f9 (mN fz P w K mg base N J (fW st) f I A outer s H E).p7 (oQ st) t/\t { nx:=λ_ H'=>Q .ak H',rt:=Q } (start N vs) H):dz P w K mg base fz (k+1) f fd ps sp:=by
 obtain⟨oc,od,kV,doc,pm,an,I,ct,osl,rfl,lk,Y⟩:=F.ex;refine X3 lk Y S len λA outer s H vs Q E hr Z=>?_
 obtain⟨t,h,q⟩:=W I rfl A outer s H vs Q E hr Z;exact⟨t,h.p7,q⟩
end
theorem mE(I:aH k A):A.units+1<cLine:=iU (Nat.add_le_add_left (by decide:1<=64) _) I.units
theorem pz{A B:Prop}(h:B):if false=true then A else B:=by
 rw[if_neg iE];exact h
theorem pw{A B:Prop}(h:A):if true=true then A else B:=by
 rw[if_pos rfl];exact h
section
variable {X:Cx}
theorem Q8:dw X (.builtin "len") (λxs H Q=>∃a kvs,xs= [V.ref a]/\H a=some (.dK kvs)/\Q (.int kvs.length) H):=by
 intro pins s σ H xs us Q I r h;obtain⟨a,kvs,rfl,W,q⟩:=h;obtain⟨u,rfl,ru⟩:=vals1 r;cases ru;exact Xy I (.inl W) λt s' J=>⟨.int kvs.length,H,J,⟨t,rfl⟩,q⟩
end
end L2
namespace R
open PySem PySem.Spec PyProof.Rows L2
inductive RV where
 |ak|bl (b:Bool)|int (i:Int)|str (x:Str)|ref (a:Addr)|ty (n:String)
 |tup (xs:List RV)|ls (xs:List RV)
abbrev LR:=List RV
abbrev bW:=List (Key×RV)
def Fz(K:ag)(H:Hp)(a:Addr)(vs:LV):Prop:=
 (∃o,H a=some (.aV o (.lst vs)))∨
  ∃(o:Obj) (ae:Array Value) (n:Nat),K.lookup a=some o/\o.cls= .type "list"/\o.dict=Option.none/\o.data= .seq ae n/\ae.size<=sizeLine/\Vals vs ae.toList
theorem Fz.sq{K:ag}{a:Addr}{vs:LV}(h:Fz K H a vs):cB K H a vs:=by
 rcases h with⟨o,h⟩|h
 . exact .inl (.inr ⟨o,h⟩)
 . exact .inr h
instance {K:ag} {H:Hp} {a:Addr} {xs:LV}:Coe (H a=some (HO.tup xs)) (bS K H a xs):=⟨bS.of⟩
mutual
def Rep(K:ag)(H:Hp):RV->V->Prop
 | .ak,v=>v= .ak
 | .bl b,v=>v= .bl b
 | .int i,v=>v= .int i
 | .str x,v=>v= .str x
 | .ref a,v=>v= .ref a
 | .ty n,v=>v= .ty n
 | .tup xs,v=>∃a vs,v= .ref a/\H a=some (.tup vs)/\ab K H xs vs
 | .ls xs,v=>∃a vs,v= .ref a/\Fz K H a vs/\ab K H xs vs
def ab(K:ag)(H:Hp):LR->LV->Prop
 | [],vs=>vs= []
 |x::xs,vs=>∃v r,vs=v::r/\Rep K H x v/\ab K H xs r
end
def jk:HO->Bool
 | .dK _=>true
 | .dT _=>true
 |_=>false
structure bp(H H':Hp):Prop where
 bh:∀b xs,H b=some (.tup xs)->H' b=some (.tup xs)
 aI:∀b o u,jk u=false->H b=some (.aV o u)->H' b=some (.aV o u)
structure Ext(H H':Hp):Prop where
 bh:∀b xs,H b=some (.tup xs)->H' b=some (.tup xs)
 aI:∀b o u,H b=some (.aV o u)->H' b=some (.aV o u)
theorem Ext.w(e:Ext H H'):bp H H':=⟨e.bh,λb o u _ h=>e.aI b o u h⟩
theorem Ext.refl(H):Ext H H:=⟨λ_ _ h=>h,λ_ _ _ h=>h⟩
theorem Ext.trans{H H1 H2:Hp}(a:Ext H H1)(b:Ext H1 H2):Ext H H2:=⟨λc x h=>b.bh c x (a.bh c x h),λc o x h=>b.aI c o x (a.aI c o x h)⟩
theorem bp.trans{H H1 H2:Hp}(a:bp H H1)(b:bp H1 H2):bp H H2:=⟨λc x h=>b.bh c x (a.bh c x h),λc o x n h=>b.aI c o x n (a.aI c o x n h)⟩
theorem Ext.new{p:Addr}(h:H p=none):Ext H (upd H p o):=
 ⟨λb xs e=>by rw[aq (fF e h)];exact e,λb o xs e=>by rw[aq (fF e h)];exact e⟩
def N5:HO->Bool
 | .tup _=>false
 | .aV _ _=>false
 |_=>true
theorem bp.cu{p:Addr}(h:H p=some (.aV o u))(s:jk u=true){v:HO}:bp H (upd H p v):=by
 refine⟨λb xs e=>?_,λb ob xs nd e=>?_⟩
 . have n:b≠p:=by rintro rfl;rw[h]at e;cases e
   rw[aq n];exact e
 . have n:b≠p:=by rintro rfl;rw[h]at e;cases e;rw[s]at nd;cases nd
   rw[aq n];exact e
theorem Ext.write{p:Addr}(h:H p=some o)(s:N5 o=true):Ext H (upd H p o'):=by
 refine⟨λb xs e=>?_,λb ob xs e=>?_⟩
 . have n:b≠p:=by rintro rfl;rw[h]at e;cases e;cases s
   rw[aq n];exact e
 . have n:b≠p:=by rintro rfl;rw[h]at e;cases e;cases s
   rw[aq n];exact e
theorem bS.aS{K:ag}{a:Addr}{vs:LV}(e:bp H H')(h:bS K H a vs):bS K H' a vs:=by
 rcases h with(h|⟨o,h⟩)|h
 . exact .inl (.inl (e.bh _ _ h))
 . exact .inl (.inr ⟨o,e.aI _ _ _ rfl h⟩)
 . exact .inr h
theorem Fz.aS{K:ag}{a:Addr}{vs:LV}(e:bp H H')(h:Fz K H a vs):Fz K H' a vs:=by
 rcases h with⟨o,h⟩|h
 . exact .inl ⟨o,e.aI _ _ _ rfl h⟩
 . exact .inr h
mutual
theorem Rep.aS{K:ag}{H H':Hp}(e:bp H H'):∀(r:RV) (v:V),Rep K H r v->Rep K H' r v
 | .ak,v,h=>by simpa only[Rep]using h
 | .bl _,v,h=>by simpa only[Rep]using h
 | .int _,v,h=>by simpa only[Rep]using h
 | .str _,v,h=>by simpa only[Rep]using h
 | .ref _,v,h=>by simpa only[Rep]using h
 | .ty _,v,h=>by simpa only[Rep]using h
 | .tup xs,v,h=>by
  simp only[Rep]at h ⊢;obtain⟨a,vs,e1,h1,h2⟩:=h;exact⟨a,vs,e1,e.bh _ _ h1,ab.aS e xs vs h2⟩
 | .ls xs,v,h=>by
  simp only[Rep]at h ⊢;obtain⟨a,vs,e1,h1,h2⟩:=h;exact⟨a,vs,e1,h1.aS e,ab.aS e xs vs h2⟩
theorem ab.aS{K:ag}{H H':Hp}(e:bp H H'):∀(rs:LR) (vs:LV),ab K H rs vs->ab K H' rs vs
 | [],vs,h=>by simpa only[ab]using h
 |x::xs,vs,h=>by
  simp only[ab]at h ⊢;obtain⟨v,r,e1,h1,h2⟩:=h;exact⟨v,r,e1,Rep.aS e x v h1,ab.aS e xs r h2⟩
end
section
variable {K:ag}{H:Hp}
theorem ab.cons{x:RV}{v:V}{vs:LV}(h:Rep K H x v)(t:ab K H xs vs):ab K H (x::xs) (v::vs):=by
 simp only[ab];exact⟨v,vs,rfl,h,t⟩
theorem ab.nil:ab K H [] []:=by simp only[ab]
theorem ab.length:∀{xs:LR} {vs:LV},ab K H xs vs->xs.length=vs.length
 | [],vs,h=>by simp only[ab]at h;subst h;rfl
 |x::xs,vs,h=>by
  simp only[ab]at h;obtain⟨v,r,rfl,_,t⟩:=h;simp[ab.length t]
theorem ab.get:∀{xs:LR} {vs:LV} {i:Nat} {x:RV},ab K H xs vs->xs[i]? =some x->∃v,vs[i]? =some v/\Rep K H x v
 | [],_,_,_,_,e=>by simp at e
 |y::xs,vs,0,x,h,e=>by
  simp only[ab]at h;obtain⟨v,r,rfl,h1,_⟩:=h;simp at e;subst e;exact⟨v,by simp,h1⟩
 |y::xs,vs,i+1,x,h,e=>by
  simp only[ab]at h;obtain⟨v,r,rfl,_,t⟩:=h;obtain⟨u,h1,h2⟩:=ab.get (i:=i) t (by simpa using e)
  exact⟨u,by simpa using h1,h2⟩
theorem ab.append:∀{xs ys:LR} {vs ws:LV},ab K H xs vs->ab K H ys ws->ab K H (xs++ys) (vs++ws)
 | [],_,vs,_,h,t=>by simp only[ab]at h;subst h;simpa using t
 |x::xs,ys,vs,ws,h,t=>by
  simp only[ab]at h;obtain⟨v,r,rfl,h1,h2⟩:=h;exact ab.cons h1 (ab.append h2 t)
theorem ab.take:∀{xs:LR} {vs:LV} (n:Nat),ab K H xs vs->ab K H (xs.take n) (vs.take n)
 |_,_,0,_=>by simpa using ab.nil
 | [],vs,n+1,h=>by simp only[ab]at h;subst h;simpa using ab.nil
 |x::xs,vs,n+1,h=>by
  simp only[ab]at h;obtain⟨v,r,rfl,h1,h2⟩:=h;exact ab.cons h1 (ab.take n h2)
theorem ab.drop:∀{xs:LR} {vs:LV} (n:Nat),ab K H xs vs->ab K H (xs.drop n) (vs.drop n)
 |_,_,0,h=>by simpa using h
 | [],vs,n+1,h=>by simp only[ab]at h;subst h;simpa using ab.nil
 |x::xs,vs,n+1,h=>by
  simp only[ab]at h;obtain⟨v,r,rfl,h1,h2⟩:=h;exact ab.drop n h2
theorem ab.set{x:RV}{v:V}(hx:Rep K H x v):∀{xs:LR} {vs:LV} (i:Nat),ab K H xs vs->ab K H (xs.set i x) (vs.set i v)
 | [],vs,i,h=>by simp only[ab]at h;subst h;simpa using ab.nil
 |y::xs,vs,0,h=>by
  simp only[ab]at h;obtain⟨w,r,rfl,h1,h2⟩:=h;exact ab.cons hx h2
 |y::xs,vs,i+1,h=>by
  simp only[ab]at h;obtain⟨w,r,rfl,h1,h2⟩:=h;exact ab.cons h1 (ab.set hx i h2)
theorem ab.bL{vs:LV}{i:Int}{x:RV}(h:ab K H xs vs)(e:L2.bL xs i=some x):∃v,L2.bL vs i=some v/\Rep K H x v:=by
 unfold L2.bL at e ⊢;rw[<-h.length];cases q:fM xs.length i with
 |none=>rw[q]at e;cases e
 |some j=>rw[q]at e;exact h.get (by simpa using e)
end
inductive RO where
 |lst (xs:LR)
 |dk (kvs:bW)
 |dt (kvs:List (List bM×RV))
 |ins (C:Addr) (fs:List (Str×RV))
 |fk (kvs:bW)
 |ft (kvs:List (List bM×RV))
 |tb (P:Addr) (pos:Pos) (q:Str)
def fY(P:Addr)(pos:Pos)(x:Option Addr):Heap->Prop:=λh=>h.get? P=some { cls:=.none,data:=.fields (match x with|none=>#[]|some c=>#[rawInt pos.line,rawInt pos.col,.ref c]) }
abbrev RM:=Addr->Option RO
def put(M:RM)(a:Addr)(o:RO):RM:=λb=>if b=a then some o else M b
theorem aa{a:Addr}:put M a o a=some o:=by unfold put;rw[if_pos rfl]
theorem ai{a b:Addr}(h:b≠a):put M a o b=M b:=by unfold put;rw[if_neg h]
theorem ij{a:Addr}:put (put M a o) a o'=put M a o':=by
 funext b;unfold put;split<;>rfl
def aF(K:ag)(H:Hp):List (κ×RV)->List (κ×V)->Prop
 | [],ws=>ws= []
 |(k,x)::r,ws=>∃v t,ws=(k,v)::t/\Rep K H x v/\aF K H r t
theorem aF.aS{K:ag}(e:bp H H'):∀{xs:List (κ×RV)} {ws:List (κ×V)},aF K H xs ws->aF K H' xs ws
 | [],_,h=>h
 |(k,x)::r,ws,h=>by
  obtain⟨v,t,e1,h1,h2⟩:=h;exact⟨v,t,e1,Rep.aS e x v h1,aF.aS e h2⟩
noncomputable def cS (K:ag)(H:Hp):RO->HO->Prop
 | .lst xs,o=>∃vs,o= .lst vs/\ab K H xs vs
 | .dk kvs,o=>∃I,o= .dK I/\aF K H kvs I
 | .dt kvs,o=>∃I,o= .dT I/\aF K H kvs I
 | .ins C fs,o=>∃dx J,o= .ins C dx J/\aF K H fs J
 | .fk kvs,o=>∃ob I,o= .aV ob (.dK I)/\aF K H kvs I
 | .ft kvs,o=>∃ob I,o= .aV ob (.dT I)/\aF K H kvs I
 | .tb P pos q,o=>o= .ext (fY P pos none)∨∃c oc vs t,o= .ext (fY P pos (some c))/\H c=some (.aV oc (.own c))/\oc.data= .fields vs/\vs[1]? =some (.str q t)
theorem cS.aS{K:ag}(e:bp H H'):∀{o:RO} {ho:HO},cS K H o ho->cS K H' o ho
 | .lst xs,_,h=>by obtain⟨vs,e1,h1⟩:=h;exact⟨vs,e1,ab.aS e xs vs h1⟩
 | .dk _,_,h=>by obtain⟨J,e1,h1⟩:=h;exact⟨J,e1,h1.aS e⟩
 | .dt _,_,h=>by obtain⟨J,e1,h1⟩:=h;exact⟨J,e1,h1.aS e⟩
 | .ins _ _,_,h=>by obtain⟨dx,I,e1,h1⟩:=h;exact⟨dx,I,e1,h1.aS e⟩
 | .fk _,_,h=>by obtain⟨dx,I,e1,h1⟩:=h;exact⟨dx,I,e1,h1.aS e⟩
 | .ft _,_,h=>by obtain⟨dx,I,e1,h1⟩:=h;exact⟨dx,I,e1,h1.aS e⟩
 | .tb _ _ _,_,h=>h.imp id λ⟨c,oc,vs,t,e1,h1,h2⟩=>⟨c,oc,vs,t,e1,e.aI _ _ _ rfl h1,h2⟩
theorem cS.yG{K:ag}{p:Addr}{v:HO}:∀{o:RO} {ho:HO},cS K H o ho->H p=some ho->bp H (upd H p v)
 | .lst _,_,h,e=>by obtain⟨_,rfl,_⟩:=h;exact(Ext.write e rfl).w
 | .dk _,_,h,e=>by obtain⟨_,rfl,_⟩:=h;exact(Ext.write e rfl).w
 | .dt _,_,h,e=>by obtain⟨_,rfl,_⟩:=h;exact(Ext.write e rfl).w
 | .ins _ _,_,h,e=>by obtain⟨_,_,rfl,_⟩:=h;exact(Ext.write e rfl).w
 | .fk _,_,h,e=>by obtain⟨_,_,rfl,_⟩:=h;exact bp.cu e rfl
 | .ft _,_,h,e=>by obtain⟨_,_,rfl,_⟩:=h;exact bp.cu e rfl
 | .tb _ _ _,_,h,e=>by rcases h with rfl|⟨_,_,_,_,rfl,_⟩<;>exact(Ext.write e rfl).w
section
variable {K:ag}{H H':Hp}
theorem bS.ext{a:Addr}{vs:LV}(e:Ext H H')(h:bS K H a vs):bS K H' a vs:=bS.aS e.w h
theorem Fz.ext{a:Addr}{vs:LV}(h:Fz K H a vs)(e:Ext H H'):Fz K H' a vs:=h.aS e.w
theorem Rep.ext(e:Ext H H')(r)(v)(h:Rep K H r v):Rep K H' r v:=Rep.aS e.w r v h
theorem ab.ext(e:Ext H H')(r)(v)(h:ab K H r v):ab K H' r v:=ab.aS e.w r v h
theorem aF.ext(h:aF K H xs ws)(e:Ext H H'):aF K H' xs ws:=aF.aS e.w h
theorem cS.ext{ho:HO}(h:cS K H o ho)(e:Ext H H'):cS K H' o ho:=cS.aS e.w h
end
def View(K:ag)(H:Hp)(M:RM):Prop:=∀a o,M a=some o->∃ho,H a=some ho/\cS K H o ho
section
variable {K:ag}{H H':Hp}{M:RM}{p:Addr}{ho:HO}{o:RO}
theorem View.free(w:View K H M)(h:H p=none):M p=none:=by
 cases q:M p with
 |none=>rfl
 |some o=>obtain⟨ho,e,_⟩:=w p o q;rw[h]at e;cases e
theorem View.new(w:View K H M)(h:H p=none):View K (upd H p ho) M:=λa o e=>by
 obtain⟨I,e1,r⟩:=w a o e;exact⟨I,by rw[aq (fF e1 h)];exact e1,r.ext (Ext.new h)⟩
theorem View.cU(w:View K H M)(h:H p=none)(r:cS K (upd H p ho) o ho):View K (upd H p ho) (put M p o):=λa o' e=>by
 by_cases I:a=p
 . subst I;rw[aa]at e;cases e;exact⟨ho,bQ,r⟩
 . rw[ai I]at e;exact w.new h a o' e
theorem View.write(w:View K H M)(h:M p=some o')(r:cS K (upd H p ho) o ho):View K (upd H p ho) (put M p o):=λa W e=>by
 by_cases I:a=p
 . subst I;rw[aa]at e;cases e;exact⟨ho,bQ,r⟩
 . rw[ai I]at e
   obtain⟨J,e1,r1⟩:=w a W e;obtain⟨hp,Y,Z⟩:=w p o' h;exact⟨J,by rw[aq I];exact e1,cS.aS (Z.yG Y) r1⟩
end
abbrev bB:=List (Option RV)
abbrev aj:=RV->RM->Prop
abbrev ar:=bB->RM->aj->Prop
abbrev dW:=bB->RM->(Bool->RM->Prop)->Prop
abbrev bR:=bB->RM->(LR->RM->Prop)->Prop
def aK(K:ag)(H:Hp)(σ:bB)(I:L2.St):Prop:=σ.length=I.length/\∀(i:Nat) r,σ[i]? =some (some r)->∃v,I[i]? =some (some v)/\Rep K H r v
theorem aK.aS{K:ag}(h:aK K H σ σ0)(e:bp H H'):aK K H' σ σ0:=
 ⟨h.1,λi r q=>by obtain⟨v,e1,h1⟩:=h.2 i r q;exact⟨v,e1,Rep.aS e r v h1⟩⟩
theorem aK.ext{K:ag}(h:aK K H σ σ0)(e:Ext H H'):aK K H' σ σ0:=h.aS e.w
theorem aK.set{K:ag}{v:V}(h:aK K H σ σ0)(J:Rep K H r v)(i):aK K H (σ.set i (some r)) (σ0.set i (some v)):=by
 refine⟨by simp[h.1],λj r' q=>?_⟩
 by_cases I:i=j
 . subst I
   rw[List.getElem?_set]at q;split at q
   . split at q
     . cases q;rename_i W _ ;exact⟨v,by rw[List.getElem?_set_self (by rw[<-h.1];assumption)],J⟩
     . cases q
   . rename_i z;exact absurd rfl z
 . rw[List.getElem?_set_ne I]at q
   obtain⟨w,e1,h1⟩:=h.2 j r' q;exact⟨w,by rw[List.getElem?_set_ne I];exact e1,h1⟩
def iX(K:ag)(H:Hp)(Q:aj)(Q0:VK):Prop:=∀rv M' v H',Q rv M'->Ext H H'->View K H' M'->Rep K H' rv v->Q0 v H'
theorem iX.ext{K:ag}(h:iX K H Q Q0)(e:Ext H H'):iX K H' Q Q0:=λrv M' v H2 q I w r=>h rv M' v H2 q (e.trans I) w r
def up(K:ag)(t:ar):TE:=λσ0 H Q0=>∃σ M Q,aK K H σ σ0/\View K H M/\t σ M Q/\iX K H Q Q0
def Ba(K:ag)(t:dW):TT:=λσ0 H Q0=>∃σ M Q,aK K H σ σ0/\View K H M/\t σ M Q/\∀b M' H',Q b M'->Ext H H'->View K H' M'->Q0 b H'
def A9(K:ag)(t:bR):TA:=λσ0 H Q0=>∃σ M Q,aK K H σ σ0/\View K H M/\t σ M Q/\∀rs M' vs H',Q rs M'->Ext H H'->View K H' M'->ab K H' rs vs->Q0 vs H'
structure RD where
 nx:bB->RM->Prop
 rt:aj
 bk:bB->RM->Prop:=λ_ _=>False
 ct:bB->RM->Prop:=λ_ _=>False
abbrev dR:=RD->bB->RM->Prop
def nj(K:ag)(H:Hp)(q:bB->RM->Prop)(q0:L2.St->Hp->Prop):Prop:=∀σ M I H',q σ M->Ext H H'->View K H' M->aK K H' σ I->q0 I H'
theorem nj.ext{K:ag}(h:nj K H Q Q0)(e:Ext H H'):nj K H' Q Q0:=λσ M I H2 q J w r=>h σ M I H2 q (e.trans J) w r
structure uY(K:ag)(H:Hp)(D:RD)(D0:Ends):Prop where
 nx:nj K H D.nx D0.nx
 rt:iX K H D.rt D0.rt
 bk:nj K H D.bk D0.bk
 ct:nj K H D.ct D0.ct
theorem uY.ext{K:ag}(h:uY K H D D0)(e:Ext H H'):uY K H' D D0:=⟨h.nx.ext e,h.rt.ext e,h.bk.ext e,h.ct.ext e⟩
def Lh(K:ag)(t:dR):TS:=λD0 σ0 H=>∃σ M D,aK K H σ σ0/\View K H M/\t D σ M/\uY K H D D0
def ah(X:Cx)(e:Expr)(t:ar):Prop:=PE X e (up X.K t)
def eI(X:Cx)(e:Expr)(t:dW):Prop:=PT X e (Ba X.K t)
def lX(X:Cx)(e:Expr)(t:dW):Prop:=PW X e (Ba X.K t)
def fv(X:Cx)(es:aW)(t:bR):Prop:=PA X es (A9 X.K t)
def fg(X:Cx)(s:Stmt)(t:dR):Prop:=PS X s (Lh X.K t)
def jB(X:Cx)(s:List Stmt)(t:dR):Prop:=f9 X s (Lh X.K t)
section
variable {X:Cx}
theorem PE.imp{e:Expr}{t t':TE}(h:PE X e t)(i:∀σ H Q,t' σ H Q->t σ H Q):PE X e t':=λpins s σ H Q I w=>h pins s σ H Q I (i σ H Q w)
theorem PT.imp{e:Expr}{t t':TT}(h:PT X e t)(i:∀σ H Q,t' σ H Q->t σ H Q):PT X e t':=λpins s σ H Q I w=>h pins s σ H Q I (i σ H Q w)
theorem PW.imp{e:Expr}{t t':TT}(h:PW X e t)(i:∀σ H Q,t' σ H Q->t σ H Q):PW X e t':=λwh pins s σ H Q I w=>h wh pins s σ H Q I (i σ H Q w)
theorem PA.imp{e:aW}{t t':TA}(h:PA X e t)(i:∀σ H Q,t' σ H Q->t σ H Q):PA X e t':=λpos pins s σ H Q I w=>h pos pins s σ H Q I (i σ H Q w)
theorem PS.imp{e:Stmt}{t t':TS}(h:PS X e t)(i:∀D σ H,t' D σ H->t D σ H):PS X e t':=λpins s σ H D I w=>h pins s σ H D I (i D σ H w)
theorem f9.imp{e:List Stmt}{t t':TS}(h:f9 X e t)(i:∀D σ H,t' D σ H->t D σ H):f9 X e t':=λpins s σ H D I w=>h pins s σ H D I (i D σ H w)
end
section
variable {X:Cx}{a b c:Expr}{ta tb tc:ar}{tA tB:dW}{pos:Pos}{rest:aW}
def pq(i:Nat):ar:=λσ M Q=>match σ[i]? with|some (some v)=>Q v M|_=>False
def rC(v:RV):ar:=λ_ M Q=>Q v M
theorem rv(i){x:Str}(hN:X.N[i]? =some x:=by rfl)(W:pU X.env.scope x:=by first|exact Or.inl rfl|exact Or.inr (Or.inl rfl)|exact Or.inr (Or.inr rfl))(hd:(x==("__debug__":Str))=false:=by decide)
 (J:(x==("__classdict__":Str))=false:=by decide):ah X (.Name x pos) (pq i):=PE.imp (Ul hN W hd J) λσ0 H Q h=>by
 obtain⟨σ,M,Y,hs,W,I,hk⟩:=h;unfold pq at I;split at I
 . rename_i r e
   obtain⟨v,e1,h1⟩:=hs.2 i r e;exact⟨v,e1,hk r M v H I (.refl H) W h1⟩
 . exact I.elim
theorem qw{e:Expr}{v:V}(h:PE X e (tC v))(I:∀H,Rep X.K H r v):ah X e (rC r):=PE.imp h λσ0 H Q h=>by
 obtain⟨σ,M,Y,hs,W,J,hk⟩:=h;exact hk r M v H J (.refl H) W (I H)
theorem ri{i j pos}:ah X (.Constant (.int i) j pos) (rC (.int i)):=qw Vn λH=>by simp only[Rep]
theorem rb{b j pos}:ah X (.Constant (.bool b) j pos) (rC (.bl b)):=qw W9 λH=>by simp only[Rep]
theorem rn{j pos}:ah X (.Constant .none j pos) (rC .ak):=qw Vm λH=>by simp only[Rep]
theorem rs{x j pos}:ah X (.Constant (.str x) j pos) (rC (.str x)):=qw Uo λH=>by simp only[Rep]
theorem Jd{x:Str}{v:V}(J:X.mg x=some u)(Y:RelV v u)(W:∀H,Rep X.K H r v)(I:Gl X x:=by rfl)(hd:(x==("__debug__":Str))=false:=by decide):ah X (.Name x pos) (rC r):=
 qw (GL I J Y hd) W
theorem uc{x:Str}{v:V}(J:X.mg x=none)(Z:bootBuiltins x=some u)(rl:RelV v u)(Y:∀H,Rep X.K H r v)(I:Gl X x:=by rfl)(W:x≠"__name__":=by decide)(hd:(x==("__debug__":Str))=false:=by decide):ah X (.Name x pos) (rC r):=
 qw (SF I J Z rl W hd) Y
abbrev cA:=RV->RV->RM->aj->Prop
def qW(K:ag)(W:cA):R2:=λx y H Q0=>∃I J M Q,Rep K H I x/\Rep K H J y/\View K H M/\W I J M Q/\iX K H Q Q0
def cY(X:Cx)(f:Value->Value->Sem Value)(I:cA):Prop:=dP X f (qW X.K I)
def mS(I:cA)(ta tb:ar):ar:=λσ M Q=>ta σ M λx M1=>tb σ M1 λy M2=>I x y M2 Q
theorem xg{K:ag}(h:up K (mS rr ta tb) σ0 H Q0):qV (qW K rr) (up K ta) (up K tb) σ0 H Q0:=by
 obtain⟨σ,M,Q,hs,Z,Y,hk⟩:=h;refine⟨σ,M,_,hs,Z,Y,λrx M1 x H1 J e1 v1 r1=>?_⟩
 refine⟨σ,M1,_,hs.ext e1,v1,J,λry M2 y H2 W I v2 r2=>?_⟩
 exact⟨rx,ry,M2,Q,Rep.ext I rx x r1,r2,v2,W,hk.ext (e1.trans I)⟩
theorem Ye{op:Operator}(ho:cY X (binaryOp op) rr)(I:ah X a ta)(J:ah X b tb):ah X (.BinOp a op b pos) (mS rr ta tb):=PE.imp (W6 ho I J) λ_ _ _ h=>xg h
theorem NB{op:CmpOp}(ho:cY X (compareOp op) rr)(I:ah X a ta)(J:ah X b tb)(W:behindInMarks op b=false:=by first|exact HI _|(with_unfolding_all rfl)):ah X (.Compare a [op] [b] pos) (mS rr ta tb):=
 PE.imp (GN ho I J W) λ_ _ _ h=>xg h
def lE(t:ar):dW:=λσ M Q=>t σ M λv M'=>match v with| .bl k=>Q k M'|_=>False
theorem oK{K:ag}{H:Hp}{Q:Bool->RM->Prop}{Q0:Bool->Hp->Prop}(hk:∀b M' H',Q b M'->Ext H H'->View K H' M'->Q0 b H'):
 iX K H (λv M'=>match v with| .bl k=>Q k M'|_=>False) (λx H'=>∃k,x= .bl k/\Q0 k H'):=λrv M' v H' q e w r=>by
 cases rv with
 |bl k=>simp only[Rep]at r;exact⟨k,r,hk k M' H' q e w⟩
 |_=>exact q.elim
theorem Xh{op:CmpOp}(ho:cY X (compareOp op) rr)(I:ah X a ta)(J:ah X b tb)(W:behindInMarks op b=false:=by first|exact HI _|(with_unfolding_all rfl)):eI X (.Compare a [op] [b] pos) (lE (mS rr ta tb)):=
 PT.imp (Gj ho I J W) λσ0 H Q0 h=>by
  obtain⟨σ,M,Q,hs,Z,Y,hk⟩:=h;exact xg ⟨σ,M,_,hs,Z,Y,oK hk⟩
theorem V6{e:Expr}{t:ar}(h:ah X e t)(J:∀I,isTrue e X.env I=(do let v<-I;standAt e.pos;holding [v] (truthy v)):=by intro _;rfl):eI X e (lE t):=
 PT.imp (Uz h J) λσ0 H Q0 h=>by
  obtain⟨σ,M,Q,hs,Y,W,hk⟩:=h;exact⟨σ,M,_,hs,Y,W,oK hk⟩
def qy(Y I:cA)(ta tb tc:ar):ar:=λσ M Q=>ta σ M λx M1=>tb σ M1 λy M2=>Y x y M2 λz J=>match z with
 | .bl k=>(k=true->tc σ J λw W=>I y w W Q)/\(k=false->Q (.bl false) J)
 |_=>False
theorem Fq{K:ag}(h:up K (qy rr rr' ta tb tc) σ0 H Q0):zW (qW K rr) (qW K rr') (up K ta) (up K tb) (up K tc) σ0 H Q0:=by
 obtain⟨σ,M,Q,hs,hv,ht,hk⟩:=h;refine⟨σ,M,_,hs,hv,ht,λrx M1 x H1 hb e1 v1 r1=>?_⟩
 refine⟨σ,M1,_,hs.ext e1,v1,hb,λry M2 y H2 hr e2 v2 r2=>?_⟩
 refine⟨rx,ry,M2,_,Rep.ext e2 rx x r1,r2,v2,hr,λrz M3 z H3 hz e3 v3 r3=>?_⟩
 cases rz with
 |bl k=>
  simp only[Rep]at r3;refine⟨k,r3,?_⟩;have e13:=(e1.trans e2).trans e3;cases k with
  |true=>
   refine pw ?_;refine⟨σ,M3,_,hs.ext e13,v3,hz.1 rfl,λrw M4 w H4 hw e4 v4 r4=>?_⟩
   exact⟨ry,rw,M4,Q,Rep.ext (e3.trans e4) ry y r2,r4,v4,hw,hk.ext (e13.trans e4)⟩
  |false=>exact pz (hk _ M3 _ H3 (hz.2 rfl) e13 v3 (by simp only[Rep]))
 |_=>exact hz.elim
theorem UZ{op I:CmpOp}(ho:cY X (compareOp op) rr)(J:cY X (compareOp I) rr')(W:ah X a ta)(Y:ah X b tb)(Z:ah X c tc)(hm:lastMarks [op,I] [b,c]=false:=by with_unfolding_all rfl):
 ah X (.Compare a [op,I] [b,c] pos) (qy rr rr' ta tb tc):=PE.imp (Sg ho J W Y Z hm) λ_ _ _ h=>Fq h
theorem SR{op I:CmpOp}(ho:cY X (compareOp op) rr)(J:cY X (compareOp I) rr')(W:ah X a ta)(Y:ah X b tb)(Z:ah X c tc)(hm:lastMarks [op,I] [b,c]=false:=by with_unfolding_all rfl):
 eI X (.Compare a [op,I] [b,c] pos) (lE (qy rr rr' ta tb tc)):=PT.imp (R3 ho J W Y Z hm) λσ0 H Q0 h=>by
 obtain⟨σ,M,Q,hs,hv,ht,hk⟩:=h;exact Fq ⟨σ,M,_,hs,hv,ht,oK hk⟩
def La(g:RV->RM->aj->Prop)(ta:ar):ar:=λσ M Q=>ta σ M λx M1=>g x M1 Q
def Li(K:ag)(g:RV->RM->aj->Prop):V->Hp->VK->Prop:=λx H Q0=>∃I M Q,Rep K H I x/\View K H M/\g I M Q/\iX K H Q Q0
theorem SN{K:ag}{g:RV->RM->aj->Prop}(h:up K (La g ta) σ0 H Q0):Le (Li K g) (up K ta) σ0 H Q0:=by
 obtain⟨σ,M,Q,hs,hv,ht,hk⟩:=h;exact⟨σ,M,_,hs,hv,ht,λrx M1 x H1 hb e1 v1 r1=>⟨rx,M1,Q,r1,v1,hb,hk.ext e1⟩⟩
theorem run{op:UnaryOp}{g:RV->RM->aj->Prop}(ho:Bo X (unaryOp op) (Li X.K g))(I:ah X a ta):ah X (.UnaryOp op a pos) (La g ta):=PE.imp (W4 ho I) λ_ _ _ h=>SN h
def xS(t u:dW):dW:=λσ M Q=>t σ M λc M1=>(c=true->u σ M1 Q)/\(c=false->Q false M1)
def yb(t u:dW):dW:=λσ M Q=>t σ M λc M1=>(c=true->Q true M1)/\(c=false->u σ M1 Q)
def DR(t:dW):dW:=λσ M Q=>t σ M λc M1=>Q (!c) M1
theorem Xo(I:eI X a tA):lX X (.BoolOp .And [a] pos) tA:=S6 I
theorem Nx(I:eI X a tA):lX X (.BoolOp .Or [a] pos) tA:=Ux I
theorem rand(W:eI X a tA)(Y:lX X (.BoolOp .And (b::rest) pos) tB):lX X (.BoolOp .And (a::b::rest) pos) (xS tA tB):=PW.imp (Uy W Y) λσ0 H Q0 h=>by
 obtain⟨σ,M,Q,hs,hv,Z,hk⟩:=h;refine⟨σ,M,_,hs,hv,Z,λk M1 H1 q e1 I=>?_⟩
 cases k with
 |true=>exact pw ⟨σ,M1,Q,hs.ext e1,I,q.1 rfl,λb M' H' z J w=>hk b M' H' z (e1.trans J) w⟩
 |false=>exact pz (hk false M1 H1 (q.2 rfl) e1 I)
theorem Ld(W:eI X a tA)(Y:lX X (.BoolOp .Or (b::rest) pos) tB):lX X (.BoolOp .Or (a::b::rest) pos) (yb tA tB):=PW.imp (Xx W Y) λσ0 H Q0 h=>by
 obtain⟨σ,M,Q,hs,hv,Z,hk⟩:=h;refine⟨σ,M,_,hs,hv,Z,λk M1 H1 q e1 I=>?_⟩
 cases k with
 |true=>exact pw (hk true M1 H1 (q.1 rfl) e1 I)
 |false=>exact pz ⟨σ,M1,Q,hs.ext e1,I,q.2 rfl,λb M' H' z J w=>hk b M' H' z (e1.trans J) w⟩
theorem yd(h:lX X a tA):eI X a tA:=PW.pt h
theorem V7(I:eI X a tA):eI X (.UnaryOp .Not a pos) (DR tA):=PT.imp (UA I) λσ0 H Q0 h=>by
 obtain⟨σ,M,Q,hs,W,J,hk⟩:=h;exact⟨σ,M,_,hs,W,J,λk M1 H1 q e1 Y=>hk (!k) M1 H1 q e1 Y⟩
def xC(ta tb:ar):ar:=λσ M Q=>ta σ M λx M1=>match x with| .bl c=>(c=true->tb σ M1 Q)/\(c=false->Q (.bl false) M1)|_=>False
def xJ(ta tb:ar):ar:=λσ M Q=>ta σ M λx M1=>match x with| .bl c=>(c=true->Q (.bl true) M1)/\(c=false->tb σ M1 Q)|_=>False
def IU(ta:ar):ar:=λσ M Q=>ta σ M λx M1=>match x with| .bl c=>Q (.bl (!c)) M1|_=>False
theorem DI{op}{t:ar}(h:ah X a t):ah X (.BoolOp op [a] pos) t:=Up h
theorem IQ(J:ah X a ta)(W:ah X (.BoolOp .And (b::rest) pos) tb):ah X (.BoolOp .And (a::b::rest) pos) (xC ta tb):=PE.imp (Vp J W) λσ0 H Q0 h=>by
 obtain⟨σ,M,Q,hs,Z,Y,hk⟩:=h;refine⟨σ,M,_,hs,Z,Y,λrx M1 x H1 q e1 I r1=>?_⟩
 cases rx with
 |bl k=>
  simp only[Rep]at r1;refine⟨k,r1,?_⟩;cases k with
  |true=>exact pw ⟨σ,M1,Q,hs.ext e1,I,q.1 rfl,hk.ext e1⟩
  |false=>exact pz (hk _ M1 _ H1 (q.2 rfl) e1 I (by simp only[Rep]))
 |_=>exact q.elim
theorem DH(J:ah X a ta)(W:ah X (.BoolOp .Or (b::rest) pos) tb):ah X (.BoolOp .Or (a::b::rest) pos) (xJ ta tb):=PE.imp (W5 J W) λσ0 H Q0 h=>by
 obtain⟨σ,M,Q,hs,Z,Y,hk⟩:=h;refine⟨σ,M,_,hs,Z,Y,λrx M1 x H1 q e1 I r1=>?_⟩
 cases rx with
 |bl k=>
  simp only[Rep]at r1;refine⟨k,r1,?_⟩;cases k with
  |true=>exact pw (hk _ M1 _ H1 (q.1 rfl) e1 I (by simp only[Rep]))
  |false=>exact pz ⟨σ,M1,Q,hs.ext e1,I,q.2 rfl,hk.ext e1⟩
 |_=>exact q.elim
theorem Xi(ha:ah X a ta):ah X (.UnaryOp .Not a pos) (IU ta):=PE.imp (Vl ha) λσ0 H Q0 h=>by
 obtain⟨σ,M,Q,hs,hv,ht,hk⟩:=h;refine⟨σ,M,_,hs,hv,ht,λrx M1 x H1 q e1 v1 r1=>?_⟩
 cases rx with
 |bl k=>simp only[Rep]at r1;exact⟨k,r1,hk _ M1 _ H1 q e1 v1 (by simp only[Rep])⟩
 |_=>exact q.elim
def ya(t:dW)(ta tb:ar):ar:=λσ M Q=>t σ M λc M1=>(c=true->ta σ M1 Q)/\(c=false->tb σ M1 Q)
theorem Yb(Y:eI X c tA)(J:ah X a ta)(W:ah X b tb):ah X (.IfExp c a b pos) (ya tA ta tb):=PE.imp (R9 Y J W) λσ0 H Q0 h=>by
 obtain⟨σ,M,Q,hs,hv,Z,hk⟩:=h;refine⟨σ,M,_,hs,hv,Z,λk M1 H1 q e1 I=>?_⟩
 cases k with
 |true=>exact pw ⟨σ,M1,Q,hs.ext e1,I,q.1 rfl,hk.ext e1⟩
 |false=>exact pz ⟨σ,M1,Q,hs.ext e1,I,q.2 rfl,hk.ext e1⟩
variable {e:Expr}{es:aW}{te:ar}{t:bR}
def lK:bR:=λ_ M Q=>Q [] M
def qE(ta:ar)(tr:bR):bR:=λσ M Q=>ta σ M λx M1=>tr σ M1 λxs M2=>Q (x::xs) M2
theorem AU:fv X [] lK:=PA.imp Vq λσ0 H Q0 h=>by
 obtain⟨σ,M,Q,hs,J,I,hk⟩:=h;exact hk [] M [] H I (.refl H) J ab.nil
theorem xF(J:ah X e te)(W:fv X es t)(hs:starEach (e::es) X.env=(false,eval e X.env)::starEach es X.env:=by rfl):fv X (e::es) (qE te t):=PA.imp (SG J W hs) λσ0 H Q0 h=>by
 obtain⟨σ,M,Q,hs,Z,Y,hk⟩:=h;refine⟨σ,M,_,hs,Z,Y,λrx M1 x H1 q e1 v1 r1=>?_⟩
 refine⟨σ,M1,_,hs.ext e1,v1,q,λrs M2 vs H2 q2 I v2 r2=>?_⟩
 exact hk (rx::rs) M2 (x::vs) H2 q2 (e1.trans I) v2 (ab.cons (Rep.ext I rx x r1) r2)
def DK(t:bR):ar:=λσ M Q=>t σ M λrs M1=>rs.length<=sizeLine/\Q (.tup rs) M1
theorem qm{K:ag}{p:Addr}{rs:LR}{vs:LV}(h:H p=none)(r:ab K H rs vs):Rep K (upd H p (.tup vs)) (.tup rs) (.ref p):=by
 simp only[Rep];exact⟨p,vs,rfl,bQ,ab.ext (Ext.new h) rs vs r⟩
theorem ly{K:ag}{p:Addr}{rs:LR}{vs:LV}(h:H p=none)(r:ab K H rs vs):Rep K (upd H p (.aV o (.lst vs))) (.ls rs) (.ref p):=by
 simp only[Rep];exact⟨p,vs,rfl,.inl ⟨o,bQ⟩,ab.ext (Ext.new h) rs vs r⟩
theorem Nu{x1}(h:fv X es t):ah X (.Tuple es x1 pos) (DK t):=PE.imp (Um h) λσ0 H Q0 h=>by
 obtain⟨σ,M,Q,hs,W,J,hk⟩:=h;refine⟨σ,M,_,hs,W,J,λrs M1 vs H1 q e1 Y r1=>⟨by rw[<-r1.length];exact q.1,λp I=>?_⟩⟩
 exact hk _ M1 _ _ q.2 (e1.trans (Ext.new I)) (Y.new I) (qm I r1)
def CW(t:bR):ar:=λσ M Q=>t σ M λrs M1=>rs.length<=sizeLine/\∀p,M1 p=none->Q (.ref p) (put M1 p (.lst rs))
theorem Ny(h:fv X es t):ah X (.List es pos) (CW t):=PE.imp (HF h) λσ0 H Q0 h=>by
 obtain⟨σ,M,Q,hs,Y,W,hk⟩:=h;refine⟨σ,M,_,hs,Y,W,λrs M1 vs H1 q e1 J r1=>⟨by rw[<-r1.length];exact q.1,λp I=>?_⟩⟩
 exact hk _ _ _ _ (q.2 p (J.free I)) (e1.trans (Ext.new I)) (J.cU I ⟨vs,rfl,ab.ext (Ext.new I) rs vs r1⟩) (by simp only[Rep])
end
section
variable {X:Cx}{pins:aG}{σ:L2.St}{H:Hp}{s:Shared}
theorem freeze{p:Addr}(I:Inv X pins σ H s)(h:H p=some (.lst xs)):∃o,Inv X pins σ (upd H p (.aV o (.lst xs))) s:=by
 have hz:xs.length<=sizeLine/\∃(ae:au) (n:Nat),Vals xs ae/\s.heap.get? p=some { cls:=.type "list",data:=.seq ae.toArray n }:=I.av p _ h;obtain⟨z,ae,n,r,e⟩:=id hz;have W:∀b,H b=none->b≠p:=λb q w=>by subst w;rw[h]at q;cases q
 refine⟨{ cls:=.type "list",data:=.seq ae.toArray n },⟨I.ok,I.os,I.bare,⟨I.base.keep,I.base.slot,λb o q w x=>?_,I.base.there,λb Y q=>?_,λb o u q=>?_,λb ps q=>?_⟩,I.loc,I.cell,?_,λx c q=>?_,λq hq=>?_,λb u q=>?_,I.len⟩⟩
 . have:=I.base.free b o q w x
   rw[aq (W b this)];exact this
 . have e1:=I.base.bh b Y q
   rw[aq (jh e1 h (by intro z;cases z))];exact e1
 . have e1:=I.base.aI b o u q
   rw[aq (jh e1 h (by intro z;cases z))];exact e1
 . obtain⟨J,e1⟩:=I.base.eO b ps q
   exact⟨J,by rw[aq (jh e1 h (by intro z;cases z))];exact e1⟩
 . rw[aq (W _ I.free)];exact I.free
 . have:=I.bP x c q
   rw[aq (W _ this)];exact this
 . obtain⟨a1,Z,a3⟩:=I.pin q hq
   exact⟨a1,by rw[aq (W _ Z)];exact Z,a3⟩
 . by_cases hb:b=p
   . subst hb
     rw[bQ]at q;cases q;exact⟨e,z,ae,n,r,e⟩
   . rw[aq hb]at q
     refine(I.av b u q).fu (λ_ _ _ q=>q) (λc q=>?_) λc ys q=>?_
     . rw[aq (jh q h (by intro z;cases z))];exact q
     . rw[aq (jh q h (by intro z;cases z))];exact q
theorem frozen(h:EP X pins σ (λv H'=>∃H1 p xs,v= .ref p/\H1 p=none/\H'=upd H1 p (.lst xs)/\∀o,Q (.ref p) (upd H1 p (.aV o (.lst xs)))) u s):EP X pins σ Q u s:=by
 obtain⟨v,H',I,r,H1,p,xs,rfl,W,rfl,q⟩:=h;obtain⟨o,J⟩:=freeze I (p:=p) (xs:=xs) bQ;rw[Tc]at J;exact⟨.ref p,_,J,r,q o⟩
end
section
variable {X:Cx}{es:aW}{t:bR}{pos:Pos}
def CY(t:bR):ar:=λσ M Q=>t σ M λrs M1=>rs.length<=sizeLine/\Q (.ls rs) M1
theorem Nz(h:fv X es t):ah X (.List es pos) (CY t):=λpins s W H Q0 I hw=>by
 obtain⟨σ,M,Q,hs,Z,Y,hk⟩:=hw;refine aA (HF h pins s W H (λv H'=>∃H1 p xs,v= .ref p/\H1 p=none/\H'=upd H1 p (.lst xs)/\∀o,Q0 (.ref p) (upd H1 p (.aV o (.lst xs)))) I ?_) λ_ _ e=>frozen e
 refine⟨σ,M,_,hs,Z,Y,λrs M1 vs H1 q e1 v1 r1=>⟨by rw[<-r1.length];exact q.1,λp J=>⟨H1,p,vs,rfl,J,rfl,λo=>?_⟩⟩⟩
 exact hk _ M1 _ _ q.2 (e1.trans (Ext.new J)) (v1.new J) (ly J r1)
end
section
variable {X:Cx}{st:Stmt}{rest:List Stmt}{t u:dR}{e:Expr}{te:ar}{pos:Pos}
def IV:dR:=λD σ M=>D.nx σ M
def DM(t u:dR):dR:=λD σ M=>t { D with nx:=u D } σ M
theorem MR:jB X [] IV:=f9.imp S7 λD0 I H h=>by
 obtain⟨σ,M,D,hs,W,J,hd⟩:=h;exact hd.nx σ M I H J (.refl H) W hs
theorem Wt(h1:fg X st t)(h2:jB X rest u):jB X (st::rest) (DM t u):=f9.imp (R4 h1 h2) λD0 σ0 H h=>by
 obtain⟨σ,M,D,hs,hv,ht,hd⟩:=h;refine⟨σ,M,_,hs,hv,ht,⟨λσ' M' σ0' H' q e w r=>?_,hd.rt,hd.bk,hd.ct⟩⟩
 exact⟨σ',M',D,r,w,q,hd.ext e⟩
def IY(te:ar):dR:=λD σ M=>te σ M λ_ M1=>D.nx σ M1
theorem Ws(J:ah X e te)(hs:swapsWith e none pos.line X.env=pure false:=by rfl):fg X (.Expr e pos) (IY te):=PS.imp (S9 J hs) λD0 I H h=>by
 obtain⟨σ,M,D,hs,Y,W,hd⟩:=h;exact⟨σ,M,_,hs,Y,W,λrx M1 x H1 q e1 Z r1=>hd.nx σ M1 I H1 q e1 Z (hs.ext e1)⟩
def DN(te:ar):dR:=λD σ M=>te σ M D.rt
theorem MP(I:ah X e te):fg X (.Return (some e) pos) (DN te):=PS.imp (UD I) λD0 Y H h=>by
 obtain⟨σ,M,D,hs,W,J,hd⟩:=h;exact⟨σ,M,_,hs,W,J,hd.rt⟩
def IS:dR:=λD _ M=>D.rt .ak M
theorem Wn:fg X (.Return none pos) IS:=PS.imp S8 λD0 W H h=>by
 obtain⟨σ,M,D,hs,J,I,hd⟩:=h;exact hd.rt .ak M .ak H I (.refl H) J (by simp only[Rep])
def xQ(c:dW)(t u:dR):dR:=λD σ M=>c σ M λb M1=>(b=true->t D σ M1)/\(b=false->u D σ M1)
theorem Yi{a b:List Stmt}(Y:eI X c tc)(J:jB X a t)(W:jB X b u):fg X (.If c a b pos) (xQ tc t u):=PS.imp (WZ Y J W) λD0 σ0 H h=>by
 obtain⟨σ,M,D,hs,hv,Z,hd⟩:=h;refine⟨σ,M,_,hs,hv,Z,λk M1 H1 q e1 I=>?_⟩
 cases k with
 |true=>exact pw ⟨σ,M1,D,hs.ext e1,I,q.1 rfl,hd.ext e1⟩
 |false=>exact pz ⟨σ,M1,D,hs.ext e1,I,q.2 rfl,hd.ext e1⟩
def uy(i:Nat)(te:ar):dR:=λD σ M=>te σ M λx M1=>D.nx (σ.set i (some x)) M1
theorem sset(i){x:Str}(I:ah X e te)(hN:X.N.Nodup)(hi:X.N[i]? =some x:=by rfl)(hx:Loc X.env.scope x:=by first|exact Or.inl rfl|exact Or.inr rfl)(hs:swapsWith e (some (.Name x pos')) pos.line X.env=pure false:=by rfl)
 (J:X.fn x=true∨X.env.scope.names.lookup x=some .local:=by first|exact .inl rfl|exact .inr rfl):fg X (.Assign [.Name x pos'] e pos) (uy i te):=PS.imp (UC hN hi hx I hs J) λD0 σ0 H h=>by
 obtain⟨σ,M,D,hs,Y,W,hd⟩:=h;exact⟨σ,M,_,hs,Y,W,λrx M1 x H1 q e1 Z r1=>hd.nx _ M1 _ H1 q e1 Z ((hs.ext e1).set r1 i)⟩
abbrev jq:=RV->bB->RM->(bB->RM->Prop)->Prop
def Yt(K:ag)(g:jq):TG:=λv I H Q0=>∃rv σ M Q,Rep K H rv v/\aK K H σ I/\View K H M/\g rv σ M Q/\nj K H Q Q0
def nh(X:Cx)(I:Expr)(g:jq):Prop:=PG X I (Yt X.K g)
theorem PG.imp{t t':TG}(h:PG X tg t)(i:∀v σ H Q,t' v σ H Q->t v σ H Q):PG X tg t':=λpins s σ H v u Q I r w=>h pins s σ H v u Q I r (i v σ H Q w)
def gQ(i:Nat):jq:=λx σ M Q=>Q (σ.set i (some x)) M
theorem XZ(i){x:Str}(hN:X.N.Nodup)(hi:X.N[i]? =some x:=by rfl)(hx:Loc X.env.scope x:=by first|exact Or.inl rfl|exact Or.inr rfl)
 (I:X.fn x=true∨X.env.scope.names.lookup x=some .local:=by first|exact .inl rfl|exact .inr rfl):nh X (.Name x pos) (gQ i):=PG.imp (xh hN hi hx I) λv Z H Q0 h=>by
 obtain⟨rv,σ,M,Q,W,hs,Y,J,hk⟩:=h;exact hk _ M _ H J (.refl H) Y (hs.set W i)
def tV:bB->List Nat->LR->bB
 |σ,i::is,x::xs=>tV (σ.set i (some x)) is xs
 |σ,_,_=>σ
def lG:List Nat->lY
 | []=>Ds
 |i::is=>Jh (AE i) (lG is)
theorem Hg{K:ag}:∀{is:List Nat} {rs:LR} {vs:LV} {σ:bB} {σ0:L2.St},rs.length=is.length->ab K H rs vs->aK K H σ σ0->
 (∀I,aK K H (tV σ is rs) I->Q0 I H)->lG is vs σ0 H Q0
 | [],[],vs,σ,σ0,_,r,hs,k=>by
  simp only[ab]at r;exact⟨r,k σ0 hs⟩
 |i::is,x::rs,vs,σ,σ0,hl,r,hs,k=>by
  simp only[ab]at r;obtain⟨v,J,rfl,h1,h2⟩:=r;refine⟨v,J,rfl,?_⟩;show lG is J (σ0.set i (some v)) H Q0;exact Hg (σ:=σ.set i (some x)) (by simpa using hl) h2 (hs.set h1 i) k
def uE(is:List Nat):jq:=λx σ M Q=>match x with| .tup xs=>xs.length=is.length/\Q (tV σ is xs) M|_=>False
theorem Nl{is:List Nat}{n:Nat}(hc:X.calm=true)(h:ng X es (lG is))(hl:n=is.length:=by rfl)
 (hn:(assignEach es X.env).length=n:=by rfl) (hst:(assignEach es X.env).findIdx? (·.1)=none:=by rfl):nh X (.Tuple es k pos) (uE is):=PG.imp (HE hc h hn hst) λv σ0 H Q0 h=>by
 obtain⟨rv,σ,M,Q,hr,hs,hv,hg,hk⟩:=h;cases rv with
 |tup xs=>
  simp only[Rep]at hr;obtain⟨a,vs,rfl,h1,h2⟩:=hr;exact⟨a,vs,rfl,bS.of h1,by rw[<-h2.length,hl];exact hg.1,Hg hg.1 h2 hs λσ0' q=>hk _ M σ0' H hg.2 (.refl H) hv q⟩
 |_=>exact hg.elim
def AS(te:ar)(g:jq):dR:=λD σ M=>te σ M λx M1=>g x σ M1 D.nx
theorem DE{tg e:Expr}{g:jq}{pos:Pos}(I:ah X e te)(J:nh X tg g)(hs:swapsWithSole [tg] e pos.line X.env=pure false:=by rfl)(Z:swappedStores [tg] e X.env=pure none:=by rfl)
 (h1:(assignEach [tg] X.env).map (·.2)= [assign tg X.env]:=by rfl):fg X (.Assign [tg] e pos) (AS te g):=PS.imp (Ui I J hs Z h1) λD0 σ0 H h=>by
 obtain⟨σ,M,D,hs,Y,W,hd⟩:=h;exact⟨σ,M,_,hs,Y,W,λrx M1 x H1 q e1 v1 r1=>⟨rx,σ,M1,D.nx,r1,hs.ext e1,v1,q,hd.nx.ext e1⟩⟩
abbrev xG:=RV->RV->RV->RM->(RM->Prop)->Prop
def IK(K:ag)(g:xG):x3:=λo i v H Q0=>∃ro ri I M Q,Rep K H ro o/\Rep K H ri i/\Rep K H I v/\View K H M/\g ro ri I M Q/\∀M' H',Q M'->Ext H H'->View K H' M'->Q0 H'
def Je(to ti:ar)(g:xG):jq:=λv σ M Q=>to σ M λo M1=>ti σ M1 λi M2=>g o i v M2 λM3=>Q σ M3
theorem Nm{o i:Expr}{g:xG}(ho:ah X o to)(hi:ah X i ti)(hs:x6 X (IK X.K g))
 (Z:∀v,assign (.Subscript o i pos) X.env v=(do
  let ov<-holding [v] (eval o X.env)
  let iv<-holding [v,ov] (eval i X.env)
  standAt pos
  holding [v,ov,iv] (setItem ov iv v)
  release [v,ov,iv] []):=by intro _;rfl):nh X (.Subscript o i pos) (Je to ti g):=PG.imp (Uk ho hi hs Z) λv J H Q0 h=>by
 obtain⟨rv,σ,M,Q,hr,hs,hv,hg,hk⟩:=h;refine⟨σ,M,_,hs,hv,hg,λro M1 o H1 q e1 v1 r1=>?_⟩
 refine⟨σ,M1,_,hs.ext e1,v1,q,λri M2 i H2 q2 I v2 r2=>?_⟩
 refine⟨ro,ri,rv,M2,_,Rep.ext I ro o r1,r2,Rep.ext (e1.trans I) rv v hr,v2,q2,λM3 W q3 Y v3=>?_⟩
 have e:=(e1.trans I).trans Y;exact hk σ M3 J W q3 e v3 (hs.ext e)
def iQ(g:jq)(tb:dR)(D:RD)(ok:RM->Prop)(un:RM->RM):LR->bB->RM->Prop
 | [],σ,M=>ok M/\D.nx σ (un M)
 |x::r,σ,M=>ok M/\g x σ M λσ2 M2=>tb { D with nx:=iQ g tb D ok un r,ct:=iQ g tb D ok un r,bk:=λσ M=>ok M/\D.nx σ (un M),rt:=λv M=>ok M/\D.rt v (un M) } σ2 M2
end
open PySem.SeqAt (EqAt RcAt RcNeAt)
mutual
def bA:RV->RV->Bool
 | .ak,.ak=>true
 | .bl a,.bl b=>a==b
 | .bl a,.int b=>(if a then 1 else 0)==b
 | .int a,.bl b=>a==(if b then 1 else 0)
 | .int a,.int b=>a==b
 | .str a,.str b=>a==b
 | .tup xs,.tup ys=>iy xs ys
 | .ls xs,.ls ys=>iy xs ys
 |_,_=>false
def iy:LR->LR->Bool
 | [],[]=>true
 |x::xs,y::ys=>bA x y&&iy xs ys
 |_,_=>false
end
def aB:Nat->RV->Bool
 |_,.ak=>true
 |_,.bl _=>true
 |_,.int _=>true
 |_,.str _=>true
 |n+1,.tup xs=>xs.all (aB n)
 |n+1,.ls xs=>xs.all (aB n)
 |_,_=>false
mutual
def Den(h:Heap):RV->Value->Prop
 | .ak,u=>u= .none
 | .bl b,u=>u= .bool b
 | .int i,u=>∃t,u= .int i t
 | .str x,u=>∃t,u= .str x t
 | .tup xs,u=>∃a ae,u= .ref a/\h.IsTuple a ae.toArray/\ay h xs ae
 | .ls xs,u=>∃a ae,u= .ref a/\h.IsList a ae.toArray/\ay h xs ae
 | .ref _,_=>False
 | .ty _,_=>False
def ay(h:Heap):LR->au->Prop
 | [],us=>us= []
 |x::xs,us=>∃u r,us=u::r/\Den h x u/\ay h xs r
end
theorem ay.length:∀{xs:LR} {us:au},ay h xs us->xs.length=us.length
 | [],us,d=>by simp only[ay]at d;subst d;rfl
 |x::xs,us,d=>by
  simp only[ay]at d;obtain⟨u,r,rfl,_,t⟩:=d;simp[ay.length t]
theorem ay.get:∀{xs:LR} {us:au} {j:Nat} {u:Value},ay h xs us->us[j]? =some u->Den h (xs.getD j .ak) u/\xs.getD j .ak∈xs
 | [],us,_,_,d,e=>by simp only[ay]at d;subst d;simp at e
 |x::xs,us,0,u,d,e=>by
  simp only[ay]at d;obtain⟨v,r,rfl,h1,_⟩:=d;simp at e;subst e;exact⟨by simpa using h1,by simp⟩
 |x::xs,us,j+1,u,d,e=>by
  simp only[ay]at d;obtain⟨v,r,rfl,_,t⟩:=d;obtain⟨a,b⟩:=ay.get (j:=j) t (by simpa using e)
  exact⟨by simpa using a,by simp only[List.getD_cons_succ];exact gA _ b⟩
section
variable {X:Cx}{pins:aG}{σ:L2.St}{H:Hp}{s:Shared}
theorem Vals.cons_inv{v:V}{vs:LV}{us:au}(r:Vals (v::vs) us):∃u I,us=u::I/\RelV v u/\Vals vs I:=by
 cases r with
 |cons a b=>exact⟨_,_,rfl,a,b⟩
theorem jf(I:Inv X pins σ H s):∀n,(∀r v u,aB n r=true->Rep X.K H r v->RelV v u->Den s.heap r u):=by
 intro n
 induction n with
 |zero=>
  intro r v u o h w;cases r with
  |ak=>simp only[Rep]at h;subst h;simp only[Den];exact w
  |bl b=>simp only[Rep]at h;subst h;simp only[Den];exact w
  |int i=>simp only[Rep]at h;subst h;simp only[Den];exact w
  |str x=>simp only[Rep]at h;subst h;simp only[Den];exact w
  |_=>simp[aB]at o
 |succ n ih=>
  have all:∀rs vs us,rs.all (aB n)=true->ab X.K H rs vs->Vals vs us->ay s.heap rs us:=by
   intro rs
   induction rs with
   |nil=>
    intro vs us _ h w;simp only[ab]at h;subst h;cases w;simp only[ay]
   |cons x xs ihx=>
    intro vs us o h w;simp only[ab]at h;obtain⟨v,r,rfl,h1,h2⟩:=h;obtain⟨u,J,rfl,Y,Z⟩:=Vals.cons_inv w;rw[ff,bj]at o;simp only[ay];exact⟨u,J,rfl,ih x v u o.1 h1 Y,ihx r J o.2 h2 Z⟩
  intro r v u o h w;cases r with
  |ak=>simp only[Rep]at h;subst h;simp only[Den];exact w
  |bl b=>simp only[Rep]at h;subst h;simp only[Den];exact w
  |int i=>simp only[Rep]at h;subst h;simp only[Den];exact w
  |str x=>simp only[Rep]at h;subst h;simp only[Den];exact w
  |tup xs=>
   simp only[Rep]at h;obtain⟨a,vs,rfl,h1,h2⟩:=h;obtain⟨ae,rv,W,_⟩:=I.tuple (bS.of h1);simp only[Den];exact⟨a,ae,w,W,all xs vs ae o h2 rv⟩
  |ls xs=>
   simp only[Rep]at h;obtain⟨a,vs,rfl,h1,h2⟩:=h;obtain⟨ae,rv,W,_⟩:=I.list h1.sq;simp only[Den];exact⟨a,ae,w,W.isList,all xs vs ae o h2 rv⟩
  |_=>simp[aB]at o
end
theorem Gp{h:Heap}{a:Addr}{xs ys:au}(p:h.IsTuple a xs.toArray)(q:h.IsTuple a ys.toArray):xs=ys:=by
 obtain⟨o,e,_,n,d⟩:=p;obtain⟨o',I,_,J,d'⟩:=q;rw[e]at I;cases I;rw[d]at d';injection d' with d1 _
 simpa using congrArg Array.toList d1
theorem GX{h:Heap}{a:Addr}{xs ys:au}(p:h.IsList a xs.toArray)(q:h.IsList a ys.toArray):xs=ys:=by
 obtain⟨o,e,_,n,d⟩:=p;obtain⟨o',I,_,J,d'⟩:=q;rw[e]at I;cases I;rw[d]at d';injection d' with d1 _
 simpa using congrArg Array.toList d1
theorem FE{h:Heap}{a:Addr}(p:h.IsList a xs)(q:h.IsTuple a ys):False:=by
 obtain⟨o,e,c,_⟩:=p;obtain⟨o',I,c',_⟩:=q;rw[e]at I;cases I;rw[c]at c';exact absurd c' (by decide+kernel)
def oo:RV->Bool
 | .ak=>true
 | .bl _=>true
 | .int _=>true
 | .str _=>true
 |_=>false
def CO:Value->Option RV
 | .none=>some .ak
 | .bool b=>some (.bl b)
 | .int i _=>some (.int i)
 | .str x _=>some (.str x)
 |_=>none
theorem JC:∀{x:RV},oo x=true->Den h x u->CO u=some x
 | .ak,_,d=>by simp only[Den]at d;subst d;rfl
 | .bl _,_,d=>by simp only[Den]at d;subst d;rfl
 | .int _,_,d=>by simp only[Den]at d;obtain⟨t,rfl⟩:=d;rfl
 | .str _,_,d=>by simp only[Den]at d;obtain⟨t,rfl⟩:=d;rfl
theorem X8:∀{x:RV},oo x=false->Den h x u->CO u=none
 | .tup _,_,d=>by simp only[Den]at d;obtain⟨a,ae,rfl,_⟩:=d;rfl
 | .ls _,_,d=>by simp only[Den]at d;obtain⟨a,ae,rfl,_⟩:=d;rfl
 | .ref _,_,d=>by simp only[Den]at d
 | .ty _,_,d=>by simp only[Den]at d
theorem zN:∀n x y u,aB n x=true->aB n y=true->Den h x u->Den h y u->x=y:=by
 intro n;have sc:∀x y u,oo x=true->Den h x u->Den h y u->x=y:=by
  intro x y u Z dx I;have ex:=JC Z dx;cases sy:oo y with
  |true=>
   have ey:=JC sy I;rw[ex]at ey;exact Option.some.inj ey
  |false=>
   have ey:=X8 sy I;rw[ex]at ey;cases ey
 induction n with
 |zero=>
  intro x y u J W dx I;have Z:oo x=true:=by cases x<;>first|rfl|(simp[aB]at J)
  exact sc x y u Z dx I
 |succ n ih=>
  have all:∀xs ys us,xs.all (aB n)=true->ys.all (aB n)=true->ay h xs us->ay h ys us->xs=ys:=by
   intro xs
   induction xs with
   |nil=>
    intro ys us _ _ d e;simp only[ay]at d;subst d;cases ys with
    |nil=>rfl
    |cons y ys=>simp only[ay]at e;obtain⟨_,_,z,_⟩:=e;cases z
   |cons x xs ihx=>
    intro ys us J W d e;simp only[ay]at d;obtain⟨u,r,rfl,d1,d2⟩:=d;cases ys with
    |nil=>simp only[ay]at e;cases e
    |cons y ys=>
     simp only[ay]at e;obtain⟨u',r',z,e1,e2⟩:=e;cases z;rw[ff,bj]at J W;rw[ih x y u J.1 W.1 d1 e1,ihx ys r J.2 W.2 d2 e2]
  intro x y u J W dx I;cases Z:oo x with
  |true=>exact sc x y u Z dx I
  |false=>
   cases sy:oo y with
   |true=>exact(sc y x u sy I dx).symm
   |false=>
    cases x with
    |tup xs=>
     simp only[Den]at dx;obtain⟨a,ae,rfl,p,d⟩:=dx;cases y with
     |tup ys=>
      simp only[Den]at I;obtain⟨a',its',z,Y,d'⟩:=I;cases z;obtain rfl:=Gp p Y;rw[all xs ys ae J W d d']
     |ls ys=>
      simp only[Den]at I;obtain⟨a',its',z,Y,d'⟩:=I;cases z;exact(FE Y p).elim
     |ref _=>simp only[Den]at I
     |ty _=>simp only[Den]at I
     |_=>cases sy
    |ls xs=>
     simp only[Den]at dx;obtain⟨a,ae,rfl,p,d⟩:=dx;cases y with
     |ls ys=>
      simp only[Den]at I;obtain⟨a',its',z,Y,d'⟩:=I;cases z;obtain rfl:=GX p Y;rw[all xs ys ae J W d d']
     |tup ys=>
      simp only[Den]at I;obtain⟨a',its',z,Y,d'⟩:=I;cases z;exact(FE p Y).elim
     |ref _=>simp only[Den]at I
     |ty _=>simp only[Den]at I
     |_=>cases sy
    |ref _=>simp only[Den]at dx
    |ty _=>simp only[Den]at dx
    |_=>cases Z
mutual
theorem tL:∀(x:RV),(∃n,aB n x=true)->bA x x=true
 | .ak,_=>by simp[bA]
 | .bl _,_=>by simp[bA]
 | .int _,_=>by simp[bA]
 | .str _,_=>by simp[bA]
 | .tup xs,⟨n,o⟩=>by
  rw[bA];refine zl xs ?_;cases n with
  |zero=>simp[aB]at o
  |succ n=>exact⟨n,o⟩
 | .ls xs,⟨n,o⟩=>by
  rw[bA];refine zl xs ?_;cases n with
  |zero=>simp[aB]at o
  |succ n=>exact⟨n,o⟩
 | .ref _,⟨n,o⟩=>by cases n<;>simp[aB]at o
 | .ty _,⟨n,o⟩=>by cases n<;>simp[aB]at o
theorem zl:∀(xs:LR),(∃n,xs.all (aB n)=true)->iy xs xs=true
 | [],_=>by simp[iy]
 |x::xs,⟨n,o⟩=>by
  rw[ff,bj]at o;rw[iy,tL x ⟨n,o.1⟩,zl xs ⟨n,o.2⟩];rfl
end
abbrev o6(xs ys:LR)(j:Nat):Bool:=bA (xs.getD j .ak) (ys.getD j .ak)
theorem qj:∀xs ys:LR,((List.range (min xs.length ys.length)).all (o6 xs ys)&&xs.length==ys.length)=iy xs ys
 | [],[]=>by simp[iy]
 | [],_::_=>by simp[iy]
 |_::_,[]=>by simp[iy]
 |x::xs,y::ys=>by
  have W:=qj xs ys;have e1:min (x::xs).length (y::ys).length=min xs.length ys.length+1:=by simp only[eG];omega
  have I:((x::xs).length==(y::ys).length)=(xs.length==ys.length):=by simp
  have J:(List.range (min xs.length ys.length+1)).all (o6 (x::xs) (y::ys))=(bA x y&&(List.range (min xs.length ys.length)).all (o6 xs ys)):=by
   rw[yl,ff,List.all_map];rfl
  rw[e1,I,J,iy,<-W,Bool.and_assoc]
theorem zk{xs ys:LR}(h:xs.length=ys.length):(List.range xs.length).all (o6 xs ys)=iy xs ys:=by
 have:=qj xs ys;rw[<-h,Nat.min_self]at this;simpa using this
theorem za{xs ys:LR}(h:xs.length≠ys.length):iy xs ys=false:=by
 have:=qj xs ys;rw[<-this];simp[h]
theorem in1_units(A:Around):A.in1.units=A.units+1:=rfl
theorem zt:∀(n:Nat) (x y:RV) (A:Around) (s:Shared) (u w:Value),aB n x=true->aB n y=true->Den s.heap x u->Den s.heap y w->A.units+n<cLine->EqAt A s u w (bA x y):=by
 intro n
 induction n with
 |zero=>
  intro x y A s u w ox oy dx dy hu;cases x<;>cases y<;>first|(simp only[Den]at dx;done)|(simp only[Den]at dy;done)|(simp[aB]at ox;done)|(simp[aB]at oy;done)|(simp only[Den]at dx dy;(first|subst dx|obtain⟨t1,rfl⟩:=dx|obtain⟨a1,its1,rfl,p1,d1⟩:=dx);(first|subst dy|obtain⟨t2,rfl⟩:=dy|obtain⟨a2,its2,rfl,p2,d2⟩:=dy);first|(simp only[bA,Bool.not_false,Bool.not_true];with_reducible first|exact EqAt.same _|exact EqAt.none_bool _|exact EqAt.none_int _ _|exact EqAt.none_str _ _|exact EqAt.bool_none _|exact EqAt.bool_bool _ _|exact EqAt.bool_int _ _ _|exact EqAt.bool_str _ _ _|exact EqAt.int_none _ _|exact EqAt.int_bool _ _ _|exact EqAt.int_int _ _ _ _|exact EqAt.int_str _ _ _ _|exact EqAt.str_none _ _|exact EqAt.str_bool _ _ _|exact EqAt.str_int _ _ _ _|exact EqAt.str_str _ _ _ _))
 |succ n ih=>
  intro x y A s u w ox oy dx dy hu;have hu0:A.units<cLine:=by omega
  have item:∀(xs ys:LR) (us ws:au),xs.all (aB n)=true->ys.all (aB n)=true->ay s.heap xs us->ay s.heap ys ws->
   ∀j (j1:j<us.toArray.size) (j2:j<ws.toArray.size),EqAt A.in1 s us.toArray[j] ws.toArray[j] (o6 xs ys j):=λxs ys us ws o1 o2 d1 d2 j j1 j2=>by
   obtain⟨a1,b1⟩:=d1.get (j:=j) (u:=us.toArray[j]) (by simp)
   obtain⟨a2,b2⟩:=d2.get (j:=j) (u:=ws.toArray[j]) (by simp)
   exact ih _ _ A.in1 s _ _ (gB.mp o1 _ b1) (gB.mp o2 _ b2) a1 a2 (by rw[in1_units];omega)
  have same_EqAt_tup:∀(xs ys:LR) (a a':Addr) (ae its':au),s.heap.IsTuple a ae.toArray->s.heap.IsTuple a' its'.toArray->ay s.heap xs ae->ay s.heap ys its'->aB (n+1) (.tup xs)=true->aB (n+1) (.tup ys)=true->EqAt A s (.ref a) (.ref a') (bA (RV.tup xs) (RV.tup ys)):=by
   intro xs ys a a' ae its' p p' d d' ox oy
   by_cases ha:a=a'
   . subst ha
     obtain rfl:=Gp p p';have e:RV.tup xs=RV.tup ys:=zN (n+1) _ _ (.ref a) ox oy (by simp only[Den];exact⟨a,ae,rfl,p,d⟩) (by simp only[Den];exact⟨a,ae,rfl,p,d'⟩)
     rw[<-e,tL _ ⟨_,ox⟩];exact EqAt.same _
   refine EqAt.of_refs ha ?_;rw[bA,<-qj,d.length,d'.length];have:=RcAt.tuples p p' hu0 (item xs ys ae its' ox oy d d');simpa using this
  have same_EqAt_ls:∀(xs ys:LR) (a a':Addr) (ae its':au),s.heap.IsList a ae.toArray->s.heap.IsList a' its'.toArray->ay s.heap xs ae->ay s.heap ys its'->aB (n+1) (.ls xs)=true->aB (n+1) (.ls ys)=true->EqAt A s (.ref a) (.ref a') (bA (RV.ls xs) (RV.ls ys)):=by
   intro xs ys a a' ae its' p p' d d' ox oy
   by_cases ha:a=a'
   . subst ha
     obtain rfl:=GX p p';have e:RV.ls xs=RV.ls ys:=zN (n+1) _ _ (.ref a) ox oy (by simp only[Den];exact⟨a,ae,rfl,p,d⟩) (by simp only[Den];exact⟨a,ae,rfl,p,d'⟩)
     rw[<-e,tL _ ⟨_,ox⟩];exact EqAt.same _
   refine EqAt.of_refs ha ?_;rw[bA]
   by_cases hz:xs.length=ys.length
   . rw[<-zk hz,d.length]
     have:=RcAt.lists p p' (by simp[<-d.length,<-d'.length,hz]) hu0 (item xs ys ae its' ox oy d d')
     simpa using this
   . rw[za hz]
     exact RcAt.lists_lengths p p' (by simp[<-d.length,<-d'.length,hz]) hu0
  cases x<;>cases y<;>first|(simp only[Den]at dx;done)|(simp only[Den]at dy;done)|(simp only[Den]at dx dy;(first|subst dx|obtain⟨t1,rfl⟩:=dx|obtain⟨a1,its1,rfl,p1,d1⟩:=dx);(first|subst dy|obtain⟨t2,rfl⟩:=dy|obtain⟨a2,its2,rfl,p2,d2⟩:=dy);first|with_reducible exact same_EqAt_tup _ _ _ _ _ _ p1 p2 d1 d2 ox oy|with_reducible exact same_EqAt_ls _ _ _ _ _ _ p1 p2 d1 d2 ox oy|(simp only[bA,Bool.not_false,Bool.not_true];with_reducible first|exact EqAt.same _|exact EqAt.none_bool _|exact EqAt.none_int _ _|exact EqAt.none_str _ _|exact EqAt.bool_none _|exact EqAt.bool_bool _ _|exact EqAt.bool_int _ _ _|exact EqAt.bool_str _ _ _|exact EqAt.int_none _ _|exact EqAt.int_bool _ _ _|exact EqAt.int_int _ _ _ _|exact EqAt.int_str _ _ _ _|exact EqAt.str_none _ _|exact EqAt.str_bool _ _ _|exact EqAt.str_int _ _ _ _|exact EqAt.str_str _ _ _ _|exact EqAt.tuple_none p1 hu0|exact EqAt.tuple_bool _ p1 hu0|exact EqAt.tuple_int _ _ p1 hu0|exact EqAt.tuple_str _ _ p1 hu0|exact EqAt.list_none p1 hu0|exact EqAt.list_bool _ p1 hu0|exact EqAt.list_int _ _ p1 hu0|exact EqAt.list_str _ _ p1 hu0|exact EqAt.none_tuple p2 hu0|exact EqAt.bool_tuple _ p2 hu0|exact EqAt.int_tuple _ _ p2 hu0|exact EqAt.str_tuple _ _ p2 hu0|exact EqAt.none_list p2 hu0|exact EqAt.bool_list _ p2 hu0|exact EqAt.int_list _ _ p2 hu0|exact EqAt.str_list _ _ p2 hu0|exact EqAt.tuple_list p1 p2 hu0|exact EqAt.list_tuple p1 p2 hu0))
theorem Pt(n:Nat)(x y:RV)(A:Around)(s:Shared)(u w:Value)(ox:aB (n+1) x=true)(oy:aB (n+1) y=true)(dx:Den s.heap x u)(dy:Den s.heap y w)(hu:A.units+(n+1)<cLine):RcNeAt A s u w (!bA x y):=by
 have hu0:A.units<cLine:=by omega
 have item:∀(xs ys:LR) (us ws:au),xs.all (aB n)=true->ys.all (aB n)=true->ay s.heap xs us->ay s.heap ys ws->
  ∀j (j1:j<us.toArray.size) (j2:j<ws.toArray.size),EqAt A.in1 s us.toArray[j] ws.toArray[j] (o6 xs ys j):=λxs ys us ws o1 o2 d1 d2 j j1 j2=>by
  obtain⟨a1,b1⟩:=d1.get (j:=j) (u:=us.toArray[j]) (by simp)
  obtain⟨a2,b2⟩:=d2.get (j:=j) (u:=ws.toArray[j]) (by simp)
  exact zt n _ _ A.in1 s _ _ (gB.mp o1 _ b1) (gB.mp o2 _ b2) a1 a2 (by rw[in1_units];omega)
 have same_RcNeAt_tup:∀(xs ys:LR) (a a':Addr) (ae its':au),s.heap.IsTuple a ae.toArray->s.heap.IsTuple a' its'.toArray->ay s.heap xs ae->ay s.heap ys its'->aB (n+1) (.tup xs)=true->aB (n+1) (.tup ys)=true->RcNeAt A s (.ref a) (.ref a') (!bA (RV.tup xs) (RV.tup ys)):=by
  intro xs ys a a' ae its' p p' d d' ox oy;rw[bA,<-qj,d.length,d'.length];have:=RcNeAt.tuples p p' hu0 (item xs ys ae its' ox oy d d');simpa using this
 have same_RcNeAt_ls:∀(xs ys:LR) (a a':Addr) (ae its':au),s.heap.IsList a ae.toArray->s.heap.IsList a' its'.toArray->ay s.heap xs ae->ay s.heap ys its'->aB (n+1) (.ls xs)=true->aB (n+1) (.ls ys)=true->RcNeAt A s (.ref a) (.ref a') (!bA (RV.ls xs) (RV.ls ys)):=by
  intro xs ys a a' ae its' p p' d d' ox oy;rw[bA]
  by_cases hz:xs.length=ys.length
  . rw[<-zk hz,d.length]
    have:=RcNeAt.lists p p' (by simp[<-d.length,<-d'.length,hz]) hu0 (item xs ys ae its' ox oy d d')
    simpa using this
  . rw[za hz]
    exact RcNeAt.lists_lengths p p' (by simp[<-d.length,<-d'.length,hz]) hu0
 cases x<;>cases y<;>first|(simp only[Den]at dx;done)|(simp only[Den]at dy;done)|(simp only[Den]at dx dy;(first|subst dx|obtain⟨t1,rfl⟩:=dx|obtain⟨a1,its1,rfl,p1,d1⟩:=dx);(first|subst dy|obtain⟨t2,rfl⟩:=dy|obtain⟨a2,its2,rfl,p2,d2⟩:=dy);first|with_reducible exact same_RcNeAt_tup _ _ _ _ _ _ p1 p2 d1 d2 ox oy|with_reducible exact same_RcNeAt_ls _ _ _ _ _ _ p1 p2 d1 d2 ox oy|(simp only[bA,Bool.not_false,Bool.not_true];with_reducible first|exact RcNeAt.none_none|exact RcNeAt.none_bool _|exact RcNeAt.none_int _ _|exact RcNeAt.none_str _ _|exact RcNeAt.bool_none _|exact RcNeAt.bool_bool _ _|exact RcNeAt.bool_int _ _ _|exact RcNeAt.bool_str _ _ _|exact RcNeAt.int_none _ _|exact RcNeAt.int_bool _ _ _|exact RcNeAt.int_int _ _ _ _|exact RcNeAt.int_str _ _ _ _|exact RcNeAt.str_none _ _|exact RcNeAt.str_bool _ _ _|exact RcNeAt.str_int _ _ _ _|exact RcNeAt.str_str _ _ _ _|exact RcNeAt.tuple_none p1 hu0|exact RcNeAt.tuple_bool _ p1 hu0|exact RcNeAt.tuple_int _ _ p1 hu0|exact RcNeAt.tuple_str _ _ p1 hu0|exact RcNeAt.list_none p1 hu0|exact RcNeAt.list_bool _ p1 hu0|exact RcNeAt.list_int _ _ p1 hu0|exact RcNeAt.list_str _ _ p1 hu0|exact RcNeAt.none_tuple p2 hu0|exact RcNeAt.bool_tuple _ p2 hu0|exact RcNeAt.int_tuple _ _ p2 hu0|exact RcNeAt.str_tuple _ _ p2 hu0|exact RcNeAt.none_list p2 hu0|exact RcNeAt.bool_list _ p2 hu0|exact RcNeAt.int_list _ _ p2 hu0|exact RcNeAt.str_list _ _ p2 hu0|exact RcNeAt.tuple_list p1 p2 hu0|exact RcNeAt.list_tuple p1 p2 hu0))
theorem RX(n:Nat)(x y:RV)(A:Around)(s:Shared)(u w:Value)(ox:aB (n+1) x=true)(oy:aB (n+1) y=true)(dx:Den s.heap x u)(dy:Den s.heap y w)(hu:A.units+(n+1)<cLine):RcAt A s u w (bA x y):=by
 have hu0:A.units<cLine:=by omega
 have item:∀(xs ys:LR) (us ws:au),xs.all (aB n)=true->ys.all (aB n)=true->ay s.heap xs us->ay s.heap ys ws->
  ∀j (j1:j<us.toArray.size) (j2:j<ws.toArray.size),EqAt A.in1 s us.toArray[j] ws.toArray[j] (o6 xs ys j):=λxs ys us ws o1 o2 d1 d2 j j1 j2=>by
  obtain⟨a1,b1⟩:=d1.get (j:=j) (u:=us.toArray[j]) (by simp)
  obtain⟨a2,b2⟩:=d2.get (j:=j) (u:=ws.toArray[j]) (by simp)
  exact zt n _ _ A.in1 s _ _ (gB.mp o1 _ b1) (gB.mp o2 _ b2) a1 a2 (by rw[in1_units];omega)
 have same_RcAt_tup:∀(xs ys:LR) (a a':Addr) (ae its':au),s.heap.IsTuple a ae.toArray->s.heap.IsTuple a' its'.toArray->ay s.heap xs ae->ay s.heap ys its'->aB (n+1) (.tup xs)=true->aB (n+1) (.tup ys)=true->RcAt A s (.ref a) (.ref a') (bA (RV.tup xs) (RV.tup ys)):=by
  intro xs ys a a' ae its' p p' d d' ox oy;rw[bA,<-qj,d.length,d'.length];have:=RcAt.tuples p p' hu0 (item xs ys ae its' ox oy d d');simpa using this
 have same_RcAt_ls:∀(xs ys:LR) (a a':Addr) (ae its':au),s.heap.IsList a ae.toArray->s.heap.IsList a' its'.toArray->ay s.heap xs ae->ay s.heap ys its'->aB (n+1) (.ls xs)=true->aB (n+1) (.ls ys)=true->RcAt A s (.ref a) (.ref a') (bA (RV.ls xs) (RV.ls ys)):=by
  intro xs ys a a' ae its' p p' d d' ox oy;rw[bA]
  by_cases hz:xs.length=ys.length
  . rw[<-zk hz,d.length]
    have:=RcAt.lists p p' (by simp[<-d.length,<-d'.length,hz]) hu0 (item xs ys ae its' ox oy d d')
    simpa using this
  . rw[za hz]
    exact RcAt.lists_lengths p p' (by simp[<-d.length,<-d'.length,hz]) hu0
 cases x<;>cases y<;>first|(simp only[Den]at dx;done)|(simp only[Den]at dy;done)|(simp only[Den]at dx dy;(first|subst dx|obtain⟨t1,rfl⟩:=dx|obtain⟨a1,its1,rfl,p1,d1⟩:=dx);(first|subst dy|obtain⟨t2,rfl⟩:=dy|obtain⟨a2,its2,rfl,p2,d2⟩:=dy);first|with_reducible exact same_RcAt_tup _ _ _ _ _ _ p1 p2 d1 d2 ox oy|with_reducible exact same_RcAt_ls _ _ _ _ _ _ p1 p2 d1 d2 ox oy|(simp only[bA,Bool.not_false,Bool.not_true];with_reducible first|exact RcAt.none_none|exact RcAt.none_bool _|exact RcAt.none_int _ _|exact RcAt.none_str _ _|exact RcAt.bool_none _|exact RcAt.bool_bool _ _|exact RcAt.bool_int _ _ _|exact RcAt.bool_str _ _ _|exact RcAt.int_none _ _|exact RcAt.int_bool _ _ _|exact RcAt.int_int _ _ _ _|exact RcAt.int_str _ _ _ _|exact RcAt.str_none _ _|exact RcAt.str_bool _ _ _|exact RcAt.str_int _ _ _ _|exact RcAt.str_str _ _ _ _|exact RcAt.tuple_none p1 hu0|exact RcAt.tuple_bool _ p1 hu0|exact RcAt.tuple_int _ _ p1 hu0|exact RcAt.tuple_str _ _ p1 hu0|exact RcAt.list_none p1 hu0|exact RcAt.list_bool _ p1 hu0|exact RcAt.list_int _ _ p1 hu0|exact RcAt.list_str _ _ p1 hu0|exact RcAt.none_tuple p2 hu0|exact RcAt.bool_tuple _ p2 hu0|exact RcAt.int_tuple _ _ p2 hu0|exact RcAt.str_tuple _ _ p2 hu0|exact RcAt.none_list p2 hu0|exact RcAt.bool_list _ p2 hu0|exact RcAt.int_list _ _ p2 hu0|exact RcAt.str_list _ _ p2 hu0|exact RcAt.tuple_list p1 p2 hu0|exact RcAt.list_tuple p1 p2 hu0))
section
variable {X:Cx}
theorem mM(h:dP X f r)(ri:∀(i j:Int) M Q (H:Hp) (Q0:VK),rr (.int i) (.int j) M Q->(∀z:RV,Q z M->∀v,Rep X.K H z v->Q0 v H)->r (.int i) (.int j) H Q0)
 (no:∀x y M Q,rr x y M Q->∃i j,x= .int i/\y= .int j):cY X f rr:=by
 intro pins s σ H x y v u Q0 I Y Z h';obtain⟨a,b,M,Q,ra,rb,W,J,hk⟩:=h';obtain⟨i,j,rfl,rfl⟩:=no a b M Q J;simp only[Rep]at ra rb;subst ra;subst rb;exact h pins s σ H _ _ v u Q0 I Y Z (ri i j M Q H Q0 J λz q v' rz=>hk z M v' H q (.refl H) W rz)
def ub(C:Int->Int->Prop)(g:Int->Int->RV):cA:=λx y M Q=>match x,y with| .int i,.int j=>C i j/\Q (g i j) M|_,_=>False
def oY(g:Int->Int->RV):cA:=λx y M Q=>match x,y with| .int i,.int j=>Q (g i j) M|_,_=>False
theorem zA{g:Int->Int->RV}(x y)(M)(Q)(h:ub C g x y M Q):∃i j,x= .int i/\y= .int j:=by
 unfold ub at h;split at h
 . exact⟨_,_,rfl,rfl⟩
 . exact h.elim
theorem tm{g:Int->Int->RV}(x y)(M)(Q)(h:oY g x y M Q):∃i j,x= .int i/\y= .int j:=by
 unfold oY at h;split at h
 . exact⟨_,_,rfl,rfl⟩
 . exact h.elim
abbrev DL:cA:=oY λi j=>.int (i-j)
theorem NL:cY X (binaryOp .Sub) DL:=mM Vs (λi j M Q H Q0 h k=>⟨i,j,rfl,rfl,k _ h _ (by simp only[Rep])⟩) tm
abbrev CV:cA:=ub (λ_ j=>0<j) λi j=>.int (i % j)
theorem NR:cY X (binaryOp .Mod) CV:=mM Vw (λi j M Q H Q0 h k=>⟨i,j,rfl,rfl,h.1,k _ h.2 _ (by simp only[Rep])⟩) zA
abbrev Dh:cA:=ub (λ_ j=>0<j/\j<1073741824) λi j=>.int (i / j)
theorem NU:cY X (binaryOp .FloorDiv) Dh:=mM TJ (λi j M Q H Q0 h k=>⟨i,j,rfl,rfl,h.1,k _ h.2 _ (by simp only[Rep])⟩) zA
abbrev DO:cA:=ub (λi j=>0<=j/\j<=1000000/\i.natAbs<2 ^ 64) λi j=>.int (i ^ j.toNat)
theorem NO:cY X (binaryOp .Pow) DO:=mM Vu (λi j M Q H Q0 h k=>⟨i,j,rfl,rfl,h.1,k _ h.2 _ (by simp only[Rep])⟩) zA
abbrev K6:cA:=oY λi j=>.bl (decide (i<j))
theorem LY:cY X (compareOp .Lt) K6:=mM Xb (λi j M Q H Q0 h k=>⟨i,j,rfl,rfl,k _ h _ (by simp only[Rep])⟩) tm
abbrev K5:cA:=oY λi j=>.bl (decide (i<=j))
theorem LX:cY X (compareOp .LtE) K5:=mM Xc (λi j M Q H Q0 h k=>⟨i,j,rfl,rfl,k _ h _ (by simp only[Rep])⟩) tm
abbrev K3:cA:=oY λi j=>.bl (decide (j<i))
theorem LP:cY X (compareOp .Gt) K3:=mM Xd (λi j M Q H Q0 h k=>⟨i,j,rfl,rfl,k _ h _ (by simp only[Rep])⟩) tm
abbrev K2:cA:=oY λi j=>.bl (decide (j<=i))
theorem LO:cY X (compareOp .GtE) K2:=mM Xe (λi j M Q H Q0 h k=>⟨i,j,rfl,rfl,k _ h _ (by simp only[Rep])⟩) tm
def DU:cA:=λx y M Q=>match x,y with
 | .int i,.int j=>hB i j/\Q (.int (i*j)) M
 | .ref a,.int k=>∃xs,M a=some (.lst xs)/\-(2 ^ 63)<=k/\k<2 ^ 63/\xs.length*k.toNat<=sizeLine/\Q (.ls (List.replicate k.toNat xs).flatten) M
 |_,_=>False
theorem Fb{K:ag}{vs:LV}(r:ab K H xs vs):∀n:Nat,ab K H (List.replicate n xs).flatten (List.replicate n vs).flatten
 |0=>by simpa using ab.nil
 |n+1=>by
  rw[pQ,qY,pQ,qY];exact r.append (Fb r n)
theorem NQ:cY X (binaryOp .Mult) DU:=by
 intro pins s σ H x y v u Q0 I Z ry h;obtain⟨a,b,M,Q,ra,rb,W,J,hk⟩:=h;cases a with
 |int i=>
  cases b with
  |int j=>simp only[Rep]at ra rb;exact Vv pins s σ H x y v u Q0 I Z ry ⟨i,j,ra,rb,J.1,hk _ M _ H J.2 (.refl H) W (by simp only[Rep])⟩
  |_=>exact(show False from J).elim
 |ref p=>
  cases b with
  |int k=>
   simp only[Rep]at ra rb;obtain⟨xs,hm,h1,h2,h3,h4⟩:=J;obtain⟨ho,e,r⟩:=W p _ hm;obtain⟨vs,rfl,Y⟩:=r;refine aA (Vt pins s σ H x y v u (λv H'=>∃H1 p xs,v= .ref p/\H1 p=none/\H'=upd H1 p (.lst xs)/\∀o,Q0 (.ref p) (upd H1 p (.aV o (.lst xs)))) I Z ry ⟨p,k,vs,ra,rb,e,h1,h2,by rw[<-Y.length];exact h3,λq J=>⟨H,q,_,rfl,J,rfl,λo=>?_⟩⟩) λ_ _ e=>frozen e
   exact hk _ M _ _ h4 (Ext.new J) (W.new J) (ly J (Fb Y _))
  |_=>exact(show False from J).elim
 |_=>cases b<;>exact(show False from J).elim
def xT:cA:=λx y M Q=>match x,y with
 | .int i,.int j=>Q (.int (i+j)) M
 | .str i,.str j=>i.length+j.length<=sizeLine/\Q (.str (i++j)) M
 | .tup xs,.tup ys=>xs.length+ys.length<=sizeLine/\Q (.tup (xs++ys)) M
 | .ls xs,.ls ys=>xs.length+ys.length<=sizeLine/\Q (.ls (xs++ys)) M
 |_,_=>False
theorem So{w:World}{s:Shared}{t b:Addr}{ws:au}(ht:IsTup s.heap t ([]:au).toArray)(hb:IsTup s.heap b ws.toArray)(h:Q (.ref b) s):
 wpAny (model prog w) A (binaryOp .Add (.ref t) (.ref b)) Q E s:=by
 obtain⟨⟨cls,dd,data,sl⟩,ho,hc,n,hd⟩:=id ht;obtain⟨⟨cls2,Z,Y,sl2⟩,W,I,n2,J⟩:=id hb;simp only at hc hd I J;subst hc hd I J;exact concat_meets ⟨_,ho,rfl⟩ ⟨_,W,rfl⟩ noFill_tuple_add seq_tuple_add PySem.F.slot_tuple_add PySem.F.entry_tuple_add (PySem.F.args_tuple_add_2 _ _)
  (tuple_addW0 t b [].toArray ws.toArray n n2 dd Z sl sl2 (by simp)) ⟨ho,W,h⟩
theorem Ua{w:World}{s:Shared}{l b:Addr}{vs ws:au}(hl:s.heap.IsList l vs.toArray)(hb:s.heap.IsList b ws.toArray)
 (h:Q (.ref s.heap.objs.size) { s with heap:=s.heap.push { cls:=.type "list",data:=.seq (vs++ws).toArray } }) (hsz:vs.length+ws.length<=sizeLine):
 wpAny (model prog w) A (binaryOp .Add (.ref l) (.ref b)) Q E s:=by
 obtain⟨⟨cls,dd,data,sl⟩,ho,hc,n,hd⟩:=id hl;obtain⟨⟨cls2,dd2,data2,sl2⟩,ho2,hc2,n2,hd2⟩:=id hb;simp only at hc hd hc2 hd2;subst hc hd hc2 hd2;have e:vs.toArray++ws.toArray=(vs++ws).toArray:=by simp
 refine concat_meets ⟨_,ho,rfl⟩ ⟨_,ho2,rfl⟩ noFill_list_add seq_list_add PySem.F.slot_list_add PySem.F.entry_list_add (PySem.F.args_list_add_2 _ _) (list_addW l b vs.toArray ws.toArray n n2 dd dd2 sl sl2 (by simpa using hsz)) ⟨ho,ho2,?_⟩
 rw[e];exact h
theorem NV:cY X (binaryOp .Add) xT:=by
 intro pins s σ H x y v u Q0 I rx ry h;obtain⟨a,b,M,Q,ra,rb,hv,hq,hk⟩:=h;cases a with
 |int i=>
  cases b with
  |int j=>simp only[Rep]at ra rb;exact Vy pins s σ H x y v u Q0 I rx ry ⟨i,j,ra,rb,hk _ M _ H hq (.refl H) hv (by simp only[Rep])⟩
  |_=>exact(show False from hq).elim
 |str i=>
  cases b with
  |str j=>simp only[Rep]at ra rb;exact PJ pins s σ H x y v u Q0 I rx ry ⟨i,j,ra,rb,hq.1,hk _ M _ H hq.2 (.refl H) hv (by simp only[Rep])⟩
  |_=>exact(show False from hq).elim
 |tup xs=>
  cases b with
  |tup ys=>
   obtain⟨hz,hq⟩:=hq;simp only[Rep]at ra rb;obtain⟨p,vs,rfl,hp,hr⟩:=ra;obtain⟨q,ws,rfl,hp2,hr2⟩:=rb
   by_cases hn:vs= []
   . subst hn
     have hx:xs= []:=by have:=hr.length;simpa using this
     subst hx;cases rx;cases ry;obtain⟨ae,r1,p1,_⟩:=I.tuple (bS.of hp);obtain⟨its2,r2,p2,_⟩:=I.tuple (bS.of hp2);cases r1;exact So p1 p2 ⟨.ref q,H,I,rfl,hk _ M _ H hq (.refl H) hv (by simp only[Rep,mZ];exact⟨q,ws,rfl,hp2,hr2⟩)⟩
   . refine TL pins s σ H _ _ v u Q0 I rx ry ⟨p,q,vs,ws,rfl,rfl,hp,hp2,hn,by rw[<-hr.length,<-hr2.length];exact hz,λe=>?_,λe l hl=>?_⟩
     . subst e
       have hy:ys= []:=by have:=hr2.length;simpa using this
       subst hy;exact hk _ M _ H hq (.refl H) hv (by simp only[Rep,m9];exact⟨p,vs,rfl,hp,hr⟩)
     . exact hk _ M _ _ hq (Ext.new hl) (hv.new hl) (qm hl (hr.append hr2))
  |_=>exact(show False from hq).elim
 |ls xs=>
  cases b with
  |ls ys=>
   obtain⟨hz,hq⟩:=hq;simp only[Rep]at ra rb;obtain⟨p,vs,rfl,hp,hr⟩:=ra;obtain⟨q,ws,rfl,hp2,hr2⟩:=rb;cases rx;cases ry;obtain⟨ae,r1,p1,z1⟩:=I.list hp.sq;obtain⟨its2,r2,p2,z2⟩:=I.list hp2.sq;have hz':vs.length+ws.length<=sizeLine:=by rw[<-hr.length,<-hr2.length];exact hz
   refine aA (Ua (Q:=EP X pins σ (λv H'=>∃H1 p xs,v= .ref p/\H1 p=none/\H'=upd H1 p (.lst xs)/\∀o,Q0 (.ref p) (upd H1 p (.aV o (.lst xs))))) p1.isList p2.isList ?_ (by rw[<-r1.length,<-r2.length];exact hz')) λ_ _ e=>frozen e
   have hf:=I.av.fresh (aU s.heap.objs.size);refine⟨.ref s.heap.objs.size,upd H s.heap.objs.size (.lst (vs++ws)),I.laid (t':=s.toks) (λb ob q=>Heap.get?_push_of_some _ q) (aU _) ?_,rfl,H,_,_,rfl,hf,rfl,λo=>?_⟩
   . exact⟨by rw[dH];exact hz',_,0,r1.append r2,Heap.get?_push_size _ rfl⟩
   . exact hk _ M _ _ hq (Ext.new hf) (hv.new hf) (ly hf (hr.append hr2))
  |_=>exact(show False from hq).elim
 |_=>cases b<;>exact(show False from hq).elim
def hZ:RV->Bool
 | .ak=>true
 |_=>false
theorem GH{K:ag}:∀{a:RV} {x:V},Rep K H a x->decide (x= .ak)=hZ a:=by
 intro a x h;cases a with
 |tup xs=>simp only[Rep]at h;obtain⟨p,vs,rfl,_⟩:=h;simp[hZ]
 |ls xs=>simp only[Rep]at h;obtain⟨p,vs,rfl,_⟩:=h;simp[hZ]
 |_=>simp only[Rep]at h;subst h;simp[hZ]
def K4:cA:=λx y M Q=>match y with| .ak=>Q (.bl (hZ x)) M|_=>False
def HA:cA:=λx y M Q=>match y with| .ak=>Q (.bl (!hZ x)) M|_=>False
theorem LS:cY X (compareOp .Is) K4:=by
 intro pins s σ H x y v u Q0 I Y Z h;obtain⟨a,b,M,Q,ra,rb,W,J,hk⟩:=h;cases b with
 |ak=>simp only[Rep]at rb;exact Vx pins s σ H x y v u Q0 I Y Z ⟨rb,by rw[GH ra];exact hk _ M _ H J (.refl H) W (by simp only[Rep])⟩
 |_=>exact(show False from J).elim
theorem VB:cY X (compareOp .IsNot) HA:=by
 intro pins s σ H x y v u Q0 I Y Z h;obtain⟨a,b,M,Q,ra,rb,W,J,hk⟩:=h;cases b with
 |ak=>simp only[Rep]at rb;exact TH pins s σ H x y v u Q0 I Y Z ⟨rb,by rw[GH ra];exact hk _ M _ H J (.refl H) W (by simp only[Rep])⟩
 |_=>exact(show False from J).elim
noncomputable def bz:cA:=λx y M Q=>match x,y with
 | .tup xs,.int i=>match bL xs i with|some v=>Q v M|none=>False
 | .ls xs,.int i=>match bL xs i with|some v=>Q v M|none=>False
 | .ref a,.int i=>match M a with
  |some (.lst xs)=>match bL xs i with|some v=>Q v M|none=>False
  |_=>False
 | .str z,.int i=>z.length<=sizeLine/\match bL z.cps.toList i with|some c=>Q (.str ⟨#[c]⟩) M|none=>False
 |_,_=>False
theorem LU:rj X (qW X.K bz):=by
 intro value W pins s σ H x y v u Q0 I rx ry h hs;obtain⟨a,b,M,Q,ra,rb,Z,J,hk⟩:=h;cases b with
 |int i=>
  simp only[Rep]at rb;cases a with
  |tup xs=>
   simp only[Rep]at ra;obtain⟨p,vs,rfl,hp,Y⟩:=ra;simp only[bz]at J;cases e:bL xs i with
   |none=>rw[e]at J;exact J.elim
   |some z=>
    rw[e]at J;obtain⟨w,e1,r1⟩:=Y.bL e;exact Ve value W pins s σ H _ y v u Q0 I rx ry ⟨p,vs,i,w,rfl,rb,hp,e1,hk _ M _ H J (.refl H) Z r1⟩ hs
  |ls xs=>
   simp only[Rep]at ra;obtain⟨p,vs,rfl,hp,Y⟩:=ra;simp only[bz]at J;cases e:bL xs i with
   |none=>rw[e]at J;exact J.elim
   |some z=>
    rw[e]at J;obtain⟨w,e1,r1⟩:=Y.bL e;exact GC value W pins s σ H _ y v u Q0 I rx ry ⟨p,vs,i,w,rfl,rb,hp.sq,e1,hk _ M _ H J (.refl H) Z r1⟩ hs
  |ref p=>
   simp only[Rep]at ra;simp only[bz]at J;split at J
   . rename_i xs em
     obtain⟨ho,e,r⟩:=Z p _ em;obtain⟨vs,rfl,Y⟩:=r;cases e2:bL xs i with
     |none=>rw[e2]at J;exact J.elim
     |some z=>
      rw[e2]at J;obtain⟨w,e1,r1⟩:=Y.bL e2;exact GC value W pins s σ H x y v u Q0 I rx ry ⟨p,vs,i,w,ra,rb,cB.of e,e1,hk _ M _ H J (.refl H) Z r1⟩ hs
   . exact J.elim
  |str z=>
   simp only[Rep]at ra;simp only[bz]at J;obtain⟨hz,J⟩:=J;cases e:bL z.cps.toList i with
   |none=>rw[e]at J;exact J.elim
   |some c=>
    rw[e]at J;exact Vf value W pins s σ H x y v u Q0 I rx ry ⟨z,i,c,ra,rb,hz,e,hk _ M _ H J (.refl H) Z (by simp only[Rep])⟩ hs
  |_=>exact(show False from J).elim
 |_=>cases a<;>exact(show False from J).elim
theorem Yc{a b:Expr}{ta tb:ar}(I:ah X a ta)(J:ah X b tb)(hs:Hc b:=by intro _ _;rfl):ah X (.Subscript a b pos) (mS bz ta tb):=PE.imp (W7 LU I J hs) λ_ _ _ h=>xg h
def oX:xG:=λo i v M Q=>match o,i with
 | .ref p,.int k=>match M p with
  |some (.lst xs)=>match fM xs.length k with|some j=>Q (put M p (.lst (xs.set j v)))|none=>False
  |_=>False
 |_,_=>False
theorem Xa:x6 X (IK X.K oX):=by
 intro pins s σ H o i v ov iv u Q0 I ro ri rv h;obtain⟨a,b,c,M,Q,ra,rb,rc,Z,J,hk⟩:=h;cases a with
 |ref p=>
  cases b with
  |int k=>
   simp only[Rep]at ra rb;simp only[oX]at J;split at J
   . rename_i xs W
     obtain⟨ho,e,r⟩:=Z p _ W;obtain⟨vs,rfl,Y⟩:=r;cases e2:fM xs.length k with
     |none=>rw[e2]at J;exact J.elim
     |some j=>
      rw[e2]at J;have ex:Ext H (upd H p (.lst (vs.set j v))):=Ext.write e rfl;exact set_list pins s σ H o i v ov iv u Q0 I ro ri rv ⟨p,vs,k,j,ra,rb,e,by rw[<-Y.length];exact e2,hk _ _ J ex (Z.write W ⟨_,rfl,ab.ext ex _ _ (Y.set rc j)⟩)⟩
   . exact J.elim
  |_=>exact(show False from J).elim
 |_=>cases b<;>exact(show False from J).elim
def fC(K:ag)(r:LR->RM->aj->Prop):LV->Hp->VK->Prop:=λvs H Q0=>∃rs M Q,ab K H rs vs/\View K H M/\r rs M Q/\iX K H Q Q0
def jw(r:LR->RM->aj->Prop)(t:bR):ar:=λσ M Q=>t σ M λrs M1=>r rs M1 Q
theorem Fe{K:ag}{t:bR}(h:up K (jw r t) σ0 H Q0):A6 (fC K r) (A9 K t) σ0 H Q0:=by
 obtain⟨σ,M,Q,hs,J,I,hk⟩:=h;exact⟨σ,M,_,hs,J,I,λrs M1 vs H1 q e1 W r1=>⟨rs,M1,Q,r1,W,q,hk.ext e1⟩⟩
variable {x:Str}{p pos:Pos}{e:Expr}{es:aW}{t:bR}{id T:String}{r:LR->RM->aj->Prop}
theorem tZ(Y:dw X (.builtin id) (fC X.K r))(hm:X.mg x=none)(hv:bootBuiltins x=some (.builtin id))(W:fv X (e::es) t)(hg:Gl X x:=by rfl)(hn:x≠"__name__":=by decide)(I:(x==("__debug__":Str))=false:=by decide)
 (Z:starEach (e::es) X.env=(false,eval e X.env)::starEach es X.env:=by rfl) (J:(backTo pos (starEach es X.env)).any (·.1)=false:=by rfl):ah X (.Call (.Name x p) (e::es) [] pos) (jw r t):=
 PE.imp (Sh Y hg hm hv W hn I Z J) λ_ _ _ h=>Fe h
theorem Ab(Y:dw X (.type T) (fC X.K r))(hm:X.mg x=none)(hv:bootBuiltins x=some (.type T))(W:fv X (e::es) t)(hg:Gl X x:=by rfl)(hn:x≠"__name__":=by decide)(I:(x==("__debug__":Str))=false:=by decide)
 (Z:starEach (e::es) X.env=(false,eval e X.env)::starEach es X.env:=by rfl) (J:(backTo pos (starEach es X.env)).any (·.1)=false:=by rfl):ah X (.Call (.Name x p) (e::es) [] pos) (jw r t):=
 PE.imp (QN Y hg hm hv W hn I Z J) λ_ _ _ h=>Fe h
theorem ab.one{K:ag}{x:RV}{vs:LV}(h:ab K H [x] vs):∃v,vs= [v]/\Rep K H x v:=by
 simp only[ab]at h;obtain⟨v,r,rfl,h1,rfl⟩:=h;exact⟨v,rfl,h1⟩
theorem ab.two{K:ag}{x y:RV}{vs:LV}(h:ab K H [x,y] vs):∃v w,vs= [v,w]/\Rep K H x v/\Rep K H y w:=by
 simp only[ab]at h;obtain⟨v,r,rfl,h1,w,r',rfl,h2,rfl⟩:=h;exact⟨v,w,rfl,h1,h2⟩
def xK:LR->RM->aj->Prop:=λrs M Q=>match rs with
 | [.tup xs]=>Q (.int xs.length) M
 | [.ls xs]=>Q (.int xs.length) M
 | [.str z]=>z.length<=sizeLine/\Q (.int z.length) M
 | [.ref a]=>match M a with|some (.lst xs)=>Q (.int xs.length) M|_=>False
 |_=>False
theorem Dv:dw X (.builtin "len") (fC X.K xK):=by
 intro pins s σ H xs us Q0 I Z h;obtain⟨rs,M,Q,rr,Y,J,hk⟩:=h;unfold xK at J;split at J
 . rename_i ys
   obtain⟨v,rfl,r1⟩:=rr.one;simp only[Rep]at r1;obtain⟨q,vs,rfl,hp,W⟩:=r1;exact y7 pins s σ H _ us Q0 I Z ⟨q,vs,rfl,.inr hp,by rw[<-W.length];exact hk _ M _ H J (.refl H) Y (by simp only[Rep])⟩
 . rename_i ys
   obtain⟨v,rfl,r1⟩:=rr.one;simp only[Rep]at r1;obtain⟨q,vs,rfl,hp,W⟩:=r1;exact y7 pins s σ H _ us Q0 I Z ⟨q,vs,rfl,.inl hp.sq,by rw[<-W.length];exact hk _ M _ H J (.refl H) Y (by simp only[Rep])⟩
 . rename_i z
   obtain⟨v,rfl,r1⟩:=rr.one;simp only[Rep]at r1;subst r1;exact O7 pins s σ H _ us Q0 I Z ⟨z,rfl,J.1,hk _ M _ H J.2 (.refl H) Y (by simp only[Rep])⟩
 . rename_i a
   obtain⟨v,rfl,r1⟩:=rr.one;simp only[Rep]at r1;subst r1;split at J
   . rename_i ys em
     obtain⟨ho,e,r⟩:=Y a _ em;obtain⟨vs,rfl,W⟩:=r;exact y7 pins s σ H _ us Q0 I Z ⟨a,vs,rfl,.inl (cB.of e),by rw[<-W.length];exact hk _ M _ H J (.refl H) Y (by simp only[Rep])⟩
   . exact J.elim
 . exact J.elim
def zS:LR->RM->aj->Prop:=λrs M Q=>match rs with
 | [.tup xs]=>Q (.tup xs) M
 | [.ls xs]=>Q (.tup xs) M
 | [.ref a]=>match M a with|some (.lst xs)=>Q (.tup xs) M|_=>False
 |_=>False
theorem VV:dw X (.type "tuple") (fC X.K zS):=by
 intro pins s σ H xs us Q0 I rl h;obtain⟨rs,M,Q,rr,hv,J,hk⟩:=h;unfold zS at J;split at J
 . rename_i ys
   obtain⟨v,rfl,r1⟩:=rr.one;simp only[Rep]at r1;obtain⟨q,vs,rfl,Z,Y⟩:=r1;exact yX pins s σ H _ us Q0 I rl ⟨q,vs,rfl,.inr ⟨Z,hk _ M _ H J (.refl H) hv (by simp only[Rep];exact⟨q,vs,rfl,Z,Y⟩)⟩⟩
 . rename_i ys
   obtain⟨v,rfl,r1⟩:=rr.one;simp only[Rep]at r1;obtain⟨q,vs,rfl,Z,Y⟩:=r1;exact yX pins s σ H _ us Q0 I rl ⟨q,vs,rfl,.inl ⟨Z.sq,λl W=>hk _ M _ _ J (Ext.new W) (hv.new W) (qm W Y)⟩⟩
 . rename_i a
   obtain⟨v,rfl,r1⟩:=rr.one;simp only[Rep]at r1;subst r1;split at J
   . rename_i ys em
     obtain⟨ho,e,r⟩:=hv a _ em;obtain⟨vs,rfl,Y⟩:=r;exact yX pins s σ H _ us Q0 I rl ⟨a,vs,rfl,.inl ⟨cB.of e,λl W=>hk _ M _ _ J (Ext.new W) (hv.new W) (qm W Y)⟩⟩
   . exact J.elim
 . exact J.elim
end
open HT
section
variable {prog:Program}{w:World}{A:Around}{E:aP}{s:Shared}
theorem Ob{t sl:Addr}{lo hi:Option Int}(ht:IsTup s.heap t items)(hs:s.heap.IsSliceOf sl vl vu .none)(pl:IsPart vl lo)(pu:IsPart vu hi)
 (h0:aQ items.size 0 lo=0) (h1:aQ items.size items.size hi=items.size)
 (h:Q (.ref t) s):wpAny (model prog w) A (getItem (.ref t) (.ref sl)) Q E s:=by
 obtain⟨os,hos,hcs,hds⟩:=id hs;have hTs:s.TypeIs (.ref sl) "slice":=⟨os,hos,hcs⟩;unfold getItem
 try with_reducible refine wpAny_holding ?_
 first|refine wpAny_bind (wpAny_pure ?_)|skip
 refine wpAny_bind (wpAny_sequenceKey ht.typeIs (by decide) ?_)
 refine wpAny_bind (wpAny_callSpecial?_slot (name:=Str.ofString "__getitem__") ht.typeIs yk
  (wpAny_call_entry yk ht.typeIs entry_tuple_getitem ?_ (args_tuple_getitem _ _)))
 show wpAny _ _ (Builtin.Tuple.tupleItemsOf (.ref t) >>= _) _ _ s;refine wpAny_bind (tupleItemsOf_ ht ?_);refine wpAny_bind (wpAny_typeOf hTs ?_);rw[if_pos (by decide)]
 refine wpAny_bind (Ed hs pl pu ?_);have hyes:(((aQ items.size 0 lo:Nat):Int)==0&&(1:Int)==1&&(aQ items.size items.size hi-aQ items.size 0 lo)==items.size)=true:=by
  rw[h0,h1];simp
 show wpAny _ _ (if(((aQ items.size 0 lo:Nat):Int)==0&&(1:Int)==1&&(aQ items.size items.size hi-aQ items.size 0 lo)==items.size)=true then _ else _) _ _ s
 rw[if_pos hyes];show wpAny _ _ (Builtin.Tuple.tupleIsExact (.ref t) >>= _) _ _ s;unfold Builtin.Tuple.tupleIsExact;refine wpAny_bind (wpAny_bind (wpAny_typeOf ht.typeIs (wpAny_pure ?_)));rw[if_pos (by decide)]
 refine wpAny_bind (wpAny_rule ?_);refine wpAny_bind (wpAny_pure ?_);exact wpAny_pure ⟨_,rfl,wpAny_pure h⟩
end
section
variable {X:Cx}
abbrev ni:=bB->RM->(Option Int->RM->Prop)->Prop
def Yw(K:ag)(t:ni):TO:=λσ0 H Q0=>∃σ M Q,aK K H σ σ0/\View K H M/\t σ M Q/\∀o M' H',Q o M'->Ext H H'->View K H' M'->Q0 o H'
def pT(X:Cx)(e:Option Expr)(t:ni):Prop:=PO X e (Yw X.K t)
def DS:ni:=λ_ M Q=>Q none M
def IT(t:ar):ni:=λσ M Q=>t σ M λx M1=>match x with| .int i=>Q (some i) M1|_=>False
theorem PO.imp{e:Option Expr}{t t':TO}(h:PO X e t)(i:∀σ H Q,t' σ H Q->t σ H Q):PO X e t':=λpins s σ H Q I w=>h pins s σ H Q I (i σ H Q w)
theorem W2:pT X none DS:=PO.imp Sx λσ0 H Q0 h=>by
 obtain⟨σ,M,Q,hs,J,I,hk⟩:=h;exact hk none M H I (.refl H) J
theorem WY{e:Expr}(h:ah X e te):pT X (some e) (IT te):=PO.imp (Sw h) λσ0 H Q0 h=>by
 obtain⟨σ,M,Q,hs,hv,ht,hk⟩:=h;refine⟨σ,M,_,hs,hv,ht,λrx M1 x H1 q e1 v1 r1=>?_⟩
 cases rx with
 |int i=>simp only[Rep]at r1;exact⟨i,r1,hk _ M1 H1 q e1 v1⟩
 |_=>exact(show False from q).elim
def gG(xs:LR)(lo hi:Option Int):LR:=(xs.drop (aQ xs.length 0 lo)).take (aQ xs.length xs.length hi-aQ xs.length 0 lo)
theorem FQ{K:ag}{vs:LV}(r:ab K H xs vs)(lo hi:Option Int):ab K H (gG xs lo hi) (mP vs lo hi):=by
 unfold gG mP;rw[r.length];exact(r.drop _).take _
def mK:RV->Option Int->Option Int->RM->aj->Prop:=λx lo hi M Q=>match x with
 | .tup xs=>Q (.tup (gG xs lo hi)) M
 | .ls xs=>Q (.ls (gG xs lo hi)) M
 | .ref a=>match M a with|some (.lst xs)=>Q (.ls (gG xs lo hi)) M|_=>False
 |_=>False
def Yv(K:ag)(r:RV->Option Int->Option Int->RM->aj->Prop):V->Option Int->Option Int->Hp->VK->Prop:=λx lo hi H Q0=>∃I M Q,Rep K H I x/\View K H M/\r I lo hi M Q/\iX K H Q Q0
theorem NM:uX X (Yv X.K mK):=by
 intro pins s σ H x v vl vu lo hi sl Q0 I rx hs pl pu h;obtain⟨a,M,Q,ra,hv,Y,hk⟩:=h;have W:∀p xs vs,x= .ref p->cB X.K H p vs->ab X.K H xs vs->Q (.ls (gG xs lo hi)) M->
  ∃T id,typeLookup (.type T) "__getitem__" =pure (some (.builtin id))/\s.TypeIs v T/\wpAny (model X.prog X.w) X.A (getItem v (.ref sl)) (EP X pins σ Q0) X.xe s:=by
  intro p xs vs ex hp Z Y;obtain⟨T,id,h1,h2,h3⟩:=Tn pins s σ H x v vl vu lo hi sl (λv H'=>∃H1 p xs,v= .ref p/\H1 p=none/\H'=upd H1 p (.lst xs)/\∀o,Q0 (.ref p) (upd H1 p (.aV o (.lst xs)))) I rx hs pl pu
   ⟨p,vs,ex,hp,λq J=>⟨H,q,_,rfl,J,rfl,λo=>hk _ M _ _ Y (Ext.new J) (hv.new J) (ly J (FQ Z lo hi))⟩⟩
  exact⟨T,id,h1,h2,aA h3 λ_ _ e=>frozen e⟩
 cases a with
 |tup xs=>
  simp only[mK]at Y;simp only[Rep]at ra;obtain⟨p,vs,rfl,hp,Z⟩:=ra
  by_cases hw:aQ vs.length 0 lo=0/\aQ vs.length vs.length hi=vs.length
  . cases rx
    obtain⟨ae,r,ht,hz⟩:=I.tuple (bS.of hp);have hlen:ae.toArray.size=vs.length:=by rw[eQ];exact r.length.symm
    refine⟨"tuple",_,PyProof.Rows.slot_tuple_getitem.lookup,ht.typeIs,?_⟩;refine Ob ht hs pl pu (by rw[hlen];exact hw.1) (by rw[hlen];exact hw.2) ⟨.ref p,H,I,rfl,?_⟩
    have e:gG xs lo hi=xs:=by
     unfold gG;rw[Z.length,hw.1,hw.2,List.drop_zero,Nat.sub_zero,<-Z.length,List.take_length]
    rw[e]at Y;exact hk _ M _ H Y (.refl H) hv (by simp only[Rep];exact⟨p,vs,rfl,hp,Z⟩)
  . exact UH pins s σ H _ v vl vu lo hi sl Q0 I rx hs pl pu ⟨p,vs,rfl,hp,hw,λq J=>hk _ M _ _ Y (Ext.new J) (hv.new J) (qm J (FQ Z lo hi))⟩
 |ls xs=>
  simp only[mK]at Y;simp only[Rep]at ra;obtain⟨p,vs,rfl,hp,Z⟩:=ra;exact W p xs vs rfl hp.sq Z Y
 |ref p=>
  simp only[mK]at Y;simp only[Rep]at ra;split at Y
  . rename_i xs em
    obtain⟨ho,e,r⟩:=hv p _ em;obtain⟨vs,rfl,Z⟩:=r;exact W p xs vs ra (cB.of e) Z Y
  . exact Y.elim
 |_=>exact(show False from Y).elim
def K9(te:ar)(tl th:ni):ar:=λσ M Q=>te σ M λx M1=>tl σ M1 λl M2=>th σ M2 λu I=>mK x l u I Q
theorem Yg{e:Expr}{lo hi:Option Expr}(Y:ah X e te)(Z:pT X lo tl)(hu:pT X hi th):ah X (.Subscript e (.Slice lo hi none p2) pos) (K9 te tl th):=PE.imp (R6 NM Y Z hu) λσ0 H Q0 h=>by
 obtain⟨σ,M,Q,hs,hv,ht,hk⟩:=h;refine⟨σ,M,_,hs,hv,ht,λrx M1 x H1 q e1 v1 r1=>?_⟩
 refine⟨σ,M1,_,hs.ext e1,v1,q,λl M2 H2 q2 I v2=>?_⟩
 refine⟨σ,M2,_,hs.ext (e1.trans I),v2,q2,λu W H3 q3 J v3=>?_⟩
 exact⟨rx,W,Q,Rep.ext (I.trans J) rx x r1,v3,q3,hk.ext ((e1.trans I).trans J)⟩
theorem Pg(K:ag):PySem.W.kitOne K (.type "NoneType") (.type "int")=some false:=by kernel_rfl
theorem PV(K:ag):PySem.W.kitOne K (.type "bool") (.type "int")=some true:=by kernel_rfl
theorem Pk(K:ag):PySem.W.kitOne K (.type "int") (.type "int")=some true:=by kernel_rfl
theorem Pe(K:ag):PySem.W.kitOne K (.type "str") (.type "int")=some false:=by kernel_rfl
theorem Pc(K:ag):PySem.W.kitOne K (.type "tuple") (.type "int")=some false:=by kernel_rfl
theorem PQ(K:ag):PySem.W.kitOne K (.type "list") (.type "int")=some false:=by kernel_rfl
def HY:RV->Option Bool
 | .ak=>some false
 | .bl _=>some true
 | .int _=>some true
 | .str _=>some false
 | .tup _=>some false
 | .ls _=>some false
 |_=>none
theorem OC(K:ag):PySem.W.kitOne K (.type "NoneType") (.type "bool")=some false:=by kernel_rfl
theorem Pn(K:ag):PySem.W.kitOne K (.type "bool") (.type "bool")=some true:=by kernel_rfl
theorem OF(K:ag):PySem.W.kitOne K (.type "int") (.type "bool")=some false:=by kernel_rfl
theorem OK(K:ag):PySem.W.kitOne K (.type "str") (.type "bool")=some false:=by kernel_rfl
theorem OI(K:ag):PySem.W.kitOne K (.type "tuple") (.type "bool")=some false:=by kernel_rfl
theorem Ph(K:ag):PySem.W.kitOne K (.type "list") (.type "bool")=some false:=by kernel_rfl
def is_bool:RV->Option Bool
 | .ak=>some false
 | .bl _=>some true
 | .int _=>some false
 | .str _=>some false
 | .tup _=>some false
 | .ls _=>some false
 |_=>none
theorem Pf(K:ag):PySem.W.kitOne K (.type "NoneType") (.type "str")=some false:=by kernel_rfl
theorem PU(K:ag):PySem.W.kitOne K (.type "bool") (.type "str")=some false:=by kernel_rfl
theorem Pj(K:ag):PySem.W.kitOne K (.type "int") (.type "str")=some false:=by kernel_rfl
theorem Pd(K:ag):PySem.W.kitOne K (.type "str") (.type "str")=some true:=by kernel_rfl
theorem Pb(K:ag):PySem.W.kitOne K (.type "tuple") (.type "str")=some false:=by kernel_rfl
theorem PN(K:ag):PySem.W.kitOne K (.type "list") (.type "str")=some false:=by kernel_rfl
def HX:RV->Option Bool
 | .ak=>some false
 | .bl _=>some false
 | .int _=>some false
 | .str _=>some true
 | .tup _=>some false
 | .ls _=>some false
 |_=>none
theorem OA(K:ag):PySem.W.kitOne K (.type "NoneType") (.type "tuple")=some false:=by kernel_rfl
theorem OG(K:ag):PySem.W.kitOne K (.type "bool") (.type "tuple")=some false:=by kernel_rfl
theorem OB(K:ag):PySem.W.kitOne K (.type "int") (.type "tuple")=some false:=by kernel_rfl
theorem Oz(K:ag):PySem.W.kitOne K (.type "str") (.type "tuple")=some false:=by kernel_rfl
theorem Oy(K:ag):PySem.W.kitOne K (.type "tuple") (.type "tuple")=some true:=by kernel_rfl
theorem OD(K:ag):PySem.W.kitOne K (.type "list") (.type "tuple")=some false:=by kernel_rfl
def F0:RV->Option Bool
 | .ak=>some false
 | .bl _=>some false
 | .int _=>some false
 | .str _=>some false
 | .tup _=>some true
 | .ls _=>some false
 |_=>none
theorem OL(K:ag):PySem.W.kitOne K (.type "NoneType") (.type "list")=some false:=by kernel_rfl
theorem Pl(K:ag):PySem.W.kitOne K (.type "bool") (.type "list")=some false:=by kernel_rfl
theorem OE(K:ag):PySem.W.kitOne K (.type "int") (.type "list")=some false:=by kernel_rfl
theorem OJ(K:ag):PySem.W.kitOne K (.type "str") (.type "list")=some false:=by kernel_rfl
theorem OH(K:ag):PySem.W.kitOne K (.type "tuple") (.type "list")=some false:=by kernel_rfl
theorem Ex(K:ag):PySem.W.kitOne K (.type "list") (.type "list")=some true:=by kernel_rfl
def GF:RV->Option Bool
 | .ak=>some false
 | .bl _=>some false
 | .int _=>some false
 | .str _=>some false
 | .tup _=>some false
 | .ls _=>some true
 |_=>none
def Yq:RV->Option String
 | .ak=>some "NoneType"
 | .bl _=>some "bool"
 | .int _=>some "int"
 | .str _=>some "str"
 | .tup _=>some "tuple"
 | .ls _=>some "list"
 |_=>none
def pv(T:String)(I:RV->Option Bool):LR->RM->aj->Prop:=λrs M Q=>match rs with
 | [x,.ty T']=>T'=T/\(match I x with|some b=>Q (.bl b) M|none=>False)
 |_=>False
theorem uD{T:String}(ht:∀a b,test a=some b->∃n,Yq a=some n/\PySem.W.kitOne X.K (.type n) (.type T)=some b):dw X (.builtin "isinstance") (fC X.K (pv T test)):=by
 intro pins s σ H xs us Q0 I rl h;obtain⟨rs,M,Q,rr,hv,J,hk⟩:=h;unfold pv at J;split at J
 . rename_i a T'
   obtain⟨rfl,J⟩:=J;obtain⟨v,w,rfl,r1,r2⟩:=rr.two;obtain⟨u,u',rfl,Z,w2⟩:=vals2 rl;simp only[Rep]at r2;subst r2;obtain rfl:u'=Value.type T':=w2;cases e:test a with
   |none=>rw[e]at J;exact J.elim
   |some b=>
    rw[e]at J;obtain⟨n,en,Y⟩:=ht a b e;have fin:∀tk,EP X pins σ Q0 (.bool b) { s with toks:=tk }:=λtk=>⟨.bl b,H,I.tok tk,rfl,hk _ M _ H J (.refl H) hv (by simp only[Rep])⟩
    cases a with
    |ak=>cases en;simp only[Rep]at r1;subst r1;cases(show u=Value.none from Z);exact pP PySem.W.kitx_none I.et True.intro Y (λz=>nomatch z) fin
    |bl y=>cases en;simp only[Rep]at r1;subst r1;cases(show u=Value.bool y from Z);exact pP PySem.W.kitx_bool I.et True.intro Y (λz=>nomatch z) fin
    |int y=>cases en;simp only[Rep]at r1;subst r1;obtain⟨t,q⟩:=(show ∃t,u=Value.int y t from Z);cases q;exact pP PySem.W.kitx_int I.et True.intro Y (λz=>nomatch z) fin
    |str y=>cases en;simp only[Rep]at r1;subst r1;obtain⟨t,q⟩:=(show ∃t,u=Value.str y t from Z);cases q;exact pP PySem.W.kitx_str I.et True.intro Y (λz=>nomatch z) fin
    |tup ys=>
     cases en;simp only[Rep]at r1;obtain⟨p,vs,rfl,hp,hr⟩:=r1;cases(show u=Value.ref p from Z)
     obtain⟨ae,_,pt,_⟩:=I.tuple (bS.of hp);obtain⟨o,h1,h2,_⟩:=pt;exact pP PySem.W.kitx_tuple I.et ⟨o,h1,h2⟩ Y (λz=>nomatch z) fin
    |ls ys=>
     cases en;simp only[Rep]at r1;obtain⟨p,vs,rfl,hp,hr⟩:=r1;cases(show u=Value.ref p from Z)
     obtain⟨ae,_,pt,_⟩:=I.list hp.sq;obtain⟨o,h1,h2,_⟩:=pt.isList;exact pP PySem.W.kitx_list I.et ⟨o,h1,h2⟩ Y (λz=>nomatch z) fin
    |_=>cases en
 . exact J.elim
theorem Sn:dw X (.builtin "isinstance") (fC X.K (pv "int" HY)):=uD λa b e=>by
 cases a with
 |ak=>cases e;exact⟨_,rfl,Pg X.K⟩
 |bl _=>cases e;exact⟨_,rfl,PV X.K⟩
 |int _=>cases e;exact⟨_,rfl,Pk X.K⟩
 |str _=>cases e;exact⟨_,rfl,Pe X.K⟩
 |tup _=>cases e;exact⟨_,rfl,Pc X.K⟩
 |ls _=>cases e;exact⟨_,rfl,PQ X.K⟩
 |_=>cases e
theorem Q7:dw X (.builtin "isinstance") (fC X.K (pv "bool" is_bool)):=uD λa b e=>by
 cases a with
 |ak=>cases e;exact⟨_,rfl,OC X.K⟩
 |bl _=>cases e;exact⟨_,rfl,Pn X.K⟩
 |int _=>cases e;exact⟨_,rfl,OF X.K⟩
 |str _=>cases e;exact⟨_,rfl,OK X.K⟩
 |tup _=>cases e;exact⟨_,rfl,OI X.K⟩
 |ls _=>cases e;exact⟨_,rfl,Ph X.K⟩
 |_=>cases e
theorem Sl:dw X (.builtin "isinstance") (fC X.K (pv "str" HX)):=uD λa b e=>by
 cases a with
 |ak=>cases e;exact⟨_,rfl,Pf X.K⟩
 |bl _=>cases e;exact⟨_,rfl,PU X.K⟩
 |int _=>cases e;exact⟨_,rfl,Pj X.K⟩
 |str _=>cases e;exact⟨_,rfl,Pd X.K⟩
 |tup _=>cases e;exact⟨_,rfl,Pb X.K⟩
 |ls _=>cases e;exact⟨_,rfl,PN X.K⟩
 |_=>cases e
theorem Qp:dw X (.builtin "isinstance") (fC X.K (pv "tuple" F0)):=uD λa b e=>by
 cases a with
 |ak=>cases e;exact⟨_,rfl,OA X.K⟩
 |bl _=>cases e;exact⟨_,rfl,OG X.K⟩
 |int _=>cases e;exact⟨_,rfl,OB X.K⟩
 |str _=>cases e;exact⟨_,rfl,Oz X.K⟩
 |tup _=>cases e;exact⟨_,rfl,Oy X.K⟩
 |ls _=>cases e;exact⟨_,rfl,OD X.K⟩
 |_=>cases e
theorem Q6:dw X (.builtin "isinstance") (fC X.K (pv "list" GF)):=uD λa b e=>by
 cases a with
 |ak=>cases e;exact⟨_,rfl,OL X.K⟩
 |bl _=>cases e;exact⟨_,rfl,Pl X.K⟩
 |int _=>cases e;exact⟨_,rfl,OE X.K⟩
 |str _=>cases e;exact⟨_,rfl,OJ X.K⟩
 |tup _=>cases e;exact⟨_,rfl,OH X.K⟩
 |ls _=>cases e;exact⟨_,rfl,Ex X.K⟩
 |_=>cases e
abbrev bX:=LR->RM->aj->Prop
def fS(K:ag)(sp:bX):Sp:=λvs H Q0 _=>∃rs M Q,ab K H rs vs/\View K H M/\sp rs M Q/\iX K H Q Q0
end
structure yr(P:Program)(w:World)(K:ag)(mg:bq)(base:Heap)(k:Nat)(x:Str)(ps:az)(sp:bX):Prop where
 ex:∃(f:Addr) (fd:FuncData),mg x=some (.ref f)/\PySem.W.keepIn K (.ref f)=true/\Binds K fd ps []/\dz P w K mg base fz k f fd ps (fS K sp)
section
variable {X:Cx}{x:Str}{p pos:Pos}{e:Expr}{es:aW}{t:bR}{k:Nat}{ps:az}{sp:bX}
theorem Ur(F:yr X.prog X.w X.K X.mg X.base k x ps sp)(hr:aH k X.A)(W:fv X (e::es) t)(hg:Gl X x:=by rfl)(I:(x==("__debug__":Str))=false:=by decide)
 (Z:starEach (e::es) X.env=(false,eval e X.env)::starEach es X.env:=by rfl) (J:(backTo pos (starEach es X.env)).any (·.1)=false:=by rfl):ah X (.Call (.Name x p) (e::es) [] pos) (jw sp t):=by
 obtain⟨f,fd,hm,hk,Y,F⟩:=F.ex;refine PE.imp (SE F hr hg hm hk Y .nil oZ W I Z J) λσ0 H Q0 h=>?_
 obtain⟨σ,M,Q,hs,hv,ht,hk⟩:=h;exact⟨σ,M,_,hs,hv,ht,λrs M1 vs H1 q e1 v1 r1=>⟨rs,M1,Q,by rw[m9];exact r1,v1,q,hk.ext e1⟩⟩
theorem SY(F:yr X.prog X.w X.K X.mg X.base k x ps sp)(Z:aH k X.A)(W:Gl X x:=by rfl)(I:(x==("__debug__":Str))=false:=by decide):ah X (.Call (.Name x p) [] [] pos) (jw sp lK):=by
 obtain⟨f,fd,Y,hk,J,F⟩:=F.ex;refine PE.imp (Si F Z W Y hk J .nil oZ I) λσ0 H Q0 h=>?_
 obtain⟨σ,M,Q,hs,hv,ht,hk⟩:=h;exact⟨[],M,Q,ab.nil,hv,ht,hk⟩
def iK(N:az)(rs:LR):bB:=rs.map some++List.replicate (N.length-rs.length) none
theorem P8{K:ag}{rs:LR}{vs:LV}(r:ab K H rs vs):aK K H (iK N rs) (L2.start N vs):=by
 unfold iK L2.start;refine⟨by simp[r.length],λi z e=>?_⟩
 have hi:i<rs.length:=by
  by_cases hi:i<rs.length
  . exact hi
  . rw[List.getElem?_append_right (by simpa using hi),List.getElem?_replicate]at e
    split at e<;>cases e
 rw[List.getElem?_append_left (by simpa using hi),List.getElem?_map]at e
 cases q:rs[i]? with
 |none=>rw[q]at e;cases e
 |some y=>
  rw[q]at e;cases e;obtain⟨v,e1,r1⟩:=r.get q;exact⟨v,by rw[List.getElem?_append_left (by rw[br,<-r.length];exact hi),List.getElem?_map,e1];rfl,r1⟩
def nums(n:Nat):LR:=(List.range n).map λ(i:Nat)=>RV.int (i:Int)
theorem tq(n:Nat):(nums n).length=n:=by simp[nums]
end
def fh(H0 H H':Hp):Prop:=H'=H∨∃d o u,H d=some (.aV o u)/\jk u=true/\(∀o' I,H0 d≠some (.aV o' I))/\H'=upd H d u
theorem fh.inv{X:Cx}{s:Shared}(t:fh X.H₀ H H')(I:Inv X pins σ H s):Inv X pins σ H' s:=by
 rcases t with rfl|⟨p,ob,u,h,du,h0,rfl⟩
 . exact I
 have W:∀b,H b=none->b≠p:=λb q w=>by subst w;rw[h]at q;cases q
 refine⟨I.ok,I.os,I.bare,⟨I.base.keep,I.base.slot,λb o q w x=>?_,I.base.there,λb Y q=>?_,λb o u q=>?_,λb ps q=>?_⟩,I.loc,I.cell,?_,λx c q=>?_,λq hq=>?_,λb v q=>?_,I.len⟩
 . have:=I.base.free b o q w x
   rw[aq (W b this)];exact this
 . have e1:=I.base.bh b Y q
   rw[aq (jh e1 h (by intro z;cases z))];exact e1
 . have e1:=I.base.aI b o u q
   rw[aq (by rintro rfl;exact h0 _ _ q)];exact e1
 . obtain⟨J,e1⟩:=I.base.eO b ps q
   exact⟨J,by rw[aq (jh e1 h (by intro z;cases z))];exact e1⟩
 . rw[aq (W _ I.free)];exact I.free
 . have:=I.bP x c q
   rw[aq (W _ this)];exact this
 . obtain⟨a1,Z,a3⟩:=I.pin q hq
   exact⟨a1,by rw[aq (W _ Z)];exact Z,a3⟩
 . have st:∀c v,aD X.prog X.w H s.heap c v->aD X.prog X.w (upd H p u) s.heap c v:=λc v z=>z.fu (λ_ _ _ q=>q) (λc q=>by rw[aq (jh q h (by intro z;cases z))];exact q) λc ys q=>by rw[aq (jh q h (by intro z;cases z))];exact q
   by_cases hb:b=p
   . subst hb
     rw[bQ]at q;cases q;exact st _ _ (I.av b _ h).2
   . rw[aq hb]at q
     exact st _ _ (I.av b v q)
theorem tS{s:Shared}{p:Addr}(I:Inv X pins σ H s)(h:H p=some u)(W:jk u=true):∃o,s.heap.get? p=some o/\Inv X pins σ (upd H p (.aV o u)) s/\∀o' J,X.H₀ p≠some (.aV o' J):=by
 have hz:=I.av p u h;obtain⟨ob,e⟩:∃o,s.heap.get? p=some o:=by
  cases u<;>first|(cases W;done)|skip
  . obtain⟨_,_,_,_,o,_,_,e,_⟩:=hz;exact⟨o,e⟩
  . obtain⟨_,_,_,_,o,_,_,e,_⟩:=hz;exact⟨o,e⟩
 have nf:∀o' J,H p≠some (.aV o' J):=λo' J z=>by rw[h]at z;cases z;cases W
 have Z:∀b,H b=none->b≠p:=λb q w=>by subst w;rw[h]at q;cases q
 have nt:∀c xs,H c=some (.tup xs)->c≠p:=λc xs q w=>by subst w;rw[h]at q;cases q;cases W
 have no:∀c y,H c=some (.own y)->c≠p:=λc y q w=>by subst w;rw[h]at q;cases q;cases W
 refine⟨ob,e,⟨I.ok,I.os,I.bare,⟨I.base.keep,I.base.slot,λb o q w x=>?_,I.base.there,λb xs' q=>?_,λb o u q=>?_,λb ps q=>?_⟩,I.loc,I.cell,?_,λx c q=>?_,λq hq=>?_,λb v q=>?_,I.len⟩,λo' J z=>nf o' J (I.base.aI _ _ _ z)⟩
 . have:=I.base.free b o q w x
   rw[aq (Z b this)];exact this
 . have e1:=I.base.bh b xs' q
   rw[aq (nt _ _ e1)];exact e1
 . have e1:=I.base.aI b o u q
   rw[aq (by rintro rfl;exact nf _ _ e1)];exact e1
 . obtain⟨Y,e1⟩:=I.base.eO b ps q
   exact⟨Y,by rw[aq (by rintro rfl;rw[h]at e1;cases e1;cases W)];exact e1⟩
 . rw[aq (Z _ I.free)];exact I.free
 . have:=I.bP x c q
   rw[aq (Z _ this)];exact this
 . obtain⟨a1,a2,a3⟩:=I.pin q hq
   exact⟨a1,by rw[aq (Z _ a2)];exact a2,a3⟩
 . have st:∀c v,aD X.prog X.w H s.heap c v->aD X.prog X.w (upd H p (.aV ob u)) s.heap c v:=λc v z=>z.fu (λ_ _ _ q=>q) (λc q=>by rw[aq (no _ _ q)];exact q) λc ys q=>by rw[aq (nt _ _ q)];exact q
   by_cases hb:b=p
   . subst hb
     rw[bQ]at q;cases q;exact⟨e,st _ _ hz⟩
   . rw[aq hb]at q
     exact st _ _ (I.av b v q)
structure iz(H0 Hs:Hp)(K:ag)(J:It)(xs:LR)(ok:RM->Prop)(un:RM->RM)(H1:Hp):Prop where
 turn:∀i H M,Ext H1 H->View K H M->ok M->∀x,xs[i]? =some x->J.go i H/\∀v H',J.Bf i H v H'->Ext H H'/\(∀M,View K H M->View K H' M)/\Rep K H' x v
 stop:∀i H M,Ext H1 H->View K H M->ok M->xs.length<=i->J.stop i H
 cu:∀H M,Ext H1 H->View K H M->ok M->∃H',fh H0 H H'/\bp H H'/\Ext Hs H'/\View K H' (un M)
abbrev gn:=bB->RM->(LR->(RM->Prop)->(RM->RM)->RM->Prop)->Prop
abbrev cV:RM->Prop:=λ_=>True
def Yu(H0:Hp)(K:ag)(ti:gn):TI:=λσ0 H R=>∃σ M Q,aK K H σ σ0/\View K H M/\ti σ M Q/\∀xs ok un M' J H',Q xs ok un M'->Ext H H'->View K H' M'->iz H0 H K J xs ok un H'->R J H'
def gH(X:Cx)(tg iter:Expr)(I:gn):Prop:=PI X tg iter (Yu X.H₀ X.K I)
section
variable {X:Cx}{tg:Expr}
def C0(te:ar):gn:=λσ M Q=>te σ M λv M1=>match v with
 | .tup xs=>Q xs cV id M1
 | .ls xs=>Q xs cV id M1
 | .ref a=>match M1 a with
  |some (.lst xs)=>Q xs (λM=>M a=some (.lst xs)) id M1
  |_=>False
 |_=>False
theorem mn{K:ag}{H1:Hp}{ok:RM->Prop}(es:Ext Hs H1):∀H M,Ext H1 H->View K H M->ok M->∃H',fh H0 H H'/\bp H H'/\Ext Hs H'/\View K H' (id M):=λH M e v _=>⟨H,.inl rfl,(Ext.refl H).w,es.trans e,v⟩
theorem Vi{K:ag}{H1:Hp}{a:Addr}{rs:LR}{vs:LV}(h:Fz K H1 a vs)(r:ab K H1 rs vs)(es:Ext Hs H1):iz H0 Hs K (uR K a) rs cV id H1 where
 turn:=λi H M e _ _ x hx=>by
  obtain⟨v,e1,r1⟩:=r.get hx;refine⟨⟨vs,v,(h.ext e).sq,e1⟩,λv' H' y=>?_⟩
  obtain⟨rfl,y⟩:=y;have:=y vs (h.ext e).sq;rw[e1]at this;cases this;exact⟨.refl _,λ_ w=>w,Rep.ext e x v r1⟩
 stop:=λi H M e _ _ hi=>⟨vs,(h.ext e).sq,by rw[<-r.length];exact hi⟩
 cu:=mn es
theorem HR{K:ag}{H1:Hp}{a:Addr}{rs:LR}{vs:LV}(h:bS K H1 a vs)(r:ab K H1 rs vs)(es:Ext Hs H1):iz H0 Hs K (Bg K a) rs cV id H1 where
 turn:=λi H M e _ _ x hx=>by
  obtain⟨v,e1,r1⟩:=r.get hx;refine⟨⟨vs,v,bS.ext e h,e1⟩,λv' H' y=>?_⟩
  obtain⟨rfl,y⟩:=y;have:=y vs (bS.ext e h);rw[e1]at this;cases this;exact⟨.refl _,λ_ w=>w,Rep.ext e x v r1⟩
 stop:=λi H M e _ _ hi=>⟨vs,bS.ext e h,by rw[<-r.length];exact hi⟩
 cu:=mn es
theorem Vg{K:ag}{H1:Hp}(n)(es:Ext Hs H1):iz H0 Hs K (uU 0 n) (nums n) cV id H1 where
 turn:=λi H M e _ _ x hx=>by
  have hi:i<n:=by have:=(List.getElem?_eq_some_iff.mp hx).1;rw[tq]at this;exact this
  have I:x= .int (i:Int):=by simp[nums,hi]at hx;exact hx.symm
  subst I;refine⟨hi,λv' H' y=>?_⟩
  obtain⟨rfl,rfl⟩:=y;exact⟨.refl _,λ_ w=>w,by simp only[Rep];simp⟩
 stop:=λi H M e _ _ hi=>by rw[tq]at hi;exact hi
 cu:=mn es
theorem Vh{K:ag}{H1:Hp}{a:Addr}{rs:LR}(es:Ext Hs H1):iz H0 Hs K (uR K a) rs (λM=>M a=some (.lst rs)) id H1 where
 turn:=λi H M e W J x hx=>by
  obtain⟨ho,I,vs,rfl,r⟩:=W a _ J;obtain⟨v,e1,r1⟩:=r.get hx;refine⟨⟨vs,v,cB.of I,e1⟩,λv' H' y=>?_⟩
  obtain⟨rfl,y⟩:=y;have:=y vs (cB.of I);rw[e1]at this;cases this;exact⟨.refl _,λ_ w=>w,r1⟩
 stop:=λi H M e W J hi=>by
  obtain⟨ho,I,vs,rfl,r⟩:=W a _ J;exact⟨vs,cB.of I,by rw[<-r.length];exact hi⟩
 cu:=mn es
theorem Ni{l:Expr}(hl:ah X l te):gH X tg l (C0 te):=by
 intro pins s Y H R I h;obtain⟨σ,M,Q,hs,hv,ht,hk⟩:=h;refine aA (hl pins s Y H (λx H1=>(∃a vs rs ok M1,x= .ref a/\cB X.K H1 a vs/\iz X.H₀ H X.K (uR X.K a) rs ok id H1/\Q rs ok id M1/\Ext H H1/\View X.K H1 M1)∨∃a vs rs M1,x= .ref a/\bS X.K H1 a vs/\ab X.K H1 rs vs/\Q rs cV id M1/\Ext H H1/\View X.K H1 M1) I ⟨σ,M,_,hs,hv,ht,λrv M1 v H1 q e1 J r1=>?_⟩) λu s1 ⟨v,H1,I1,r1,q1⟩=>?_
 . cases rv with
   |ls xs=>simp only[Rep]at r1;obtain⟨a,vs,rfl,h1,h2⟩:=r1;exact .inl ⟨a,vs,xs,cV,M1,rfl,h1.sq,Vi h1 h2 e1,q,e1,J⟩
   |tup xs=>simp only[Rep]at r1;obtain⟨a,vs,rfl,h1,h2⟩:=r1;exact .inr ⟨a,vs,xs,M1,rfl,bS.of h1,h2,q,e1,J⟩
   |ref a=>
    simp only[Rep]at r1;subst r1;dsimp only at q;split at q
    . rename_i xs hm
      obtain⟨ho,Z,vs,rfl,r⟩:=J a _ hm;exact .inl ⟨a,vs,xs,_,M1,rfl,cB.of Z,Vh e1,q,e1,J⟩
    . exact q.elim
   |_=>exact(show False from q).elim
 . rcases q1 with⟨a,vs,rs,ok,M1,rfl,h1,h2,q,e1,J⟩|⟨a,vs,rs,M1,rfl,h1,h2,q,e1,J⟩
   . cases r1
     obtain⟨ae,rv,p,hz⟩:=I1.list h1;refine wpAny_pyIter_list p.isList ?_;refine⟨s1.heap.objs.size,[s1.heap.objs.size],_,_,H1,rfl,I1.kept (t':=s1.toks) λb o e=>Heap.get?_push_of_some _ e,Qw a _,⟨_,Heap.get?_push_size _ rfl,rfl,rfl⟩,λb W=>?_,hk rs ok id M1 _ H1 q e1 J h2⟩
     have e:b=s1.heap.objs.size:=by simpa using W
     subst e;exact I1.fK (aU _) (I1.av.fresh (aU _))
   . cases r1
     obtain⟨ae,rv,p,hz⟩:=I1.tuple h1;refine wpAny_pyIter_tuple (show s1.heap.IsTuple a ae.toArray from p) ?_
     refine⟨s1.heap.objs.size,[s1.heap.objs.size],_,_,H1,rfl,I1.kept (t':=s1.toks) λb o e=>Heap.get?_push_of_some _ e,EB a _,⟨_,Heap.get?_push_size _ rfl,rfl,rfl⟩,λb W=>?_,hk rs cV id M1 _ H1 q e1 J (HR h1 h2 e1)⟩
     have e:b=s1.heap.objs.size:=by simpa using W
     subst e;exact I1.fK (aU _) (I1.av.fresh (aU _))
def t9(Q:LR->(RM->Prop)->(RM->RM)->RM->Prop):LR->RM->Prop:=λrs M=>match rs with
 | [.int n]=>-(2 ^ 62)<=n/\n<2 ^ 62/\Q (nums n.toNat) cV id M
 |_=>False
def C9(te:ar):gn:=λσ M Q=>te σ M λv M1=>t9 Q [v] M1
theorem PI.imp{t t':TI}(h:PI X tg iter t)(i:∀σ H R,t' σ H R->t σ H R):PI X tg iter t':=λpins s σ H R I w=>h pins s σ H R I (i σ H R w)
theorem U0{a:Expr}{p pos:Pos}(hm:X.mg "range" =none)(Z:ah X a te)(I:Gl X "range":=by rfl)(W:starEach [a] X.env= [(false,eval a X.env)]:=by rfl)(J:starEach (a::[]) X.env=(false,eval a X.env)::starEach [] X.env:=by rfl):
 gH X tg (.Call (.Name "range" p) [a] [] pos) (C9 te):=PI.imp (QM I hm (xF Z AU J) W) λσ0 H R h=>by
 obtain⟨σ,M,Q,hs,hv,ht,hk⟩:=h;refine⟨σ,M,t9 Q,hs,hv,ht,λrs M1 vs H1 q e1 v1 r1=>?_⟩
 unfold t9 at q;split at q
 . rename_i n
   obtain⟨q1,q2,q⟩:=q;obtain⟨v,rfl,Y⟩:=r1.one;simp only[Rep]at Y;subst Y;exact⟨n,rfl,q1,q2,hk _ cV id M1 _ H1 q e1 v1 (Vg _ e1)⟩
 . exact q.elim
def IX(I:gn)(g:jq)(tb:dR):dR:=λD σ M=>I σ M λxs ok un M1=>iQ g tb D ok un xs σ M1
def IP(H0:Hp)(D:Ends):Ends where
 nx:=λσ H=>∃H',fh H0 H H'/\D.nx σ H'
 rt:=λv H=>∃H',fh H0 H H'/\D.rt v H'
 bk:=D.bk
 ct:=D.ct
theorem DC{body:List Stmt}{g:jq}{tb:dR}(hp:PassesOwn (model X.prog X.w) X.A X.env X.xe)(hc:X.calm=true)(hi:gH X tg iter ti)(hg:nh X tg g)(hb:jB X body tb)
 (hs:∀x,foldedSetIterable iter X.env x=pure x:=by intro _;rfl):fg X (.For tg iter body [] pos) (IX ti g tb):=by
 intro pins s σ0 H D0 I h;refine aA (Ug hp hc hi hg hb hs pins s σ0 H (IP X.H₀ D0) I ?_) λf s' h'=>?_
 rotate_left
 . cases f with
   |next=>obtain⟨σ1,H1,I1,H2,t,q⟩:=h';exact⟨σ1,H2,t.inv I1,q⟩
   |brk=>exact h'
   |cont=>exact h'
   |ret v=>obtain⟨x1,σ1,H1,I1,r1,H2,t,q⟩:=h';exact⟨x1,σ1,H2,t.inv I1,r1,q⟩
 obtain⟨σ,M,D,hs,hv,ht,hd⟩:=h;refine⟨σ,M,_,hs,hv,ht,λxs ok un M1 J H1 q e1 v1 hJ=>?_⟩
 have outN:∀{σ4:bB} {M4:RM} {σ04:L2.St} {H4:Hp},(ok M4/\D.nx σ4 (un M4))->Ext H1 H4->View X.K H4 M4->aK X.K H4 σ4 σ04->(IP X.H₀ D0).nx σ04 H4:=λq4 e4 v4 r4=>by
  obtain⟨H5,t5,e5,x5,v5⟩:=hJ.cu _ _ e4 v4 q4.1;exact⟨H5,t5,hd.nx _ _ _ H5 q4.2 x5 v5 (r4.aS e5)⟩
 refine⟨λi m σ0 H=>m=xs.length-i/\i<=xs.length/\∃σ M,aK X.K H σ σ0/\View X.K H M/\iQ g tb D ok un (xs.drop i) σ M/\Ext H1 H,⟨_,rfl,Nat.zero_le _,σ,M1,hs.ext e1,v1,by simpa using q,.refl _⟩,?_⟩
 rintro i m σ0 H ⟨rfl,hi,σ,M,hs,hv,hf,e⟩
 by_cases hlt:i<xs.length
 . have ed:xs.drop i=xs[i]::xs.drop (i+1):=by simp
   rw[ed]at hf;obtain⟨av,hf⟩:=hf;obtain⟨hgo,hy⟩:=hJ.turn i H M e hv av xs[i] (by simp)
   refine .inr ⟨hgo,λσ0 H=>∃σ M,aK X.K H σ σ0/\View X.K H M/\iQ g tb D ok un (xs.drop (i+1)) σ M/\Ext H1 H,λσ' H' h=>⟨_,by omega,rfl,hlt,h⟩,λx H' y=>?_⟩
   obtain⟨e2,w2,r2⟩:=hy x H' y;refine⟨xs[i],σ,M,_,r2,hs.ext e2,w2 M hv,hf,λσ' M' σ0' H'' q e3 v3 r3=>?_⟩
   have e13:=(e.trans e2).trans e3;refine⟨σ',M',_,r3,v3,q,⟨λσ4 M4 σ04 H4 q4 e4 v4 r4=>⟨σ4,M4,r4,v4,q4,e13.trans e4⟩,λrv M4 v H4 q4 e4 v4 r4=>?_,λσ4 M4 σ04 H4 q4 e4 v4 r4=>outN q4 (e13.trans e4) v4 r4,λσ4 M4 σ04 H4 q4 e4 v4 r4=>⟨σ4,M4,r4,v4,q4,e13.trans e4⟩⟩⟩
   obtain⟨H5,t5,e5,x5,v5⟩:=hJ.cu _ _ (e13.trans e4) v4 q4.1;exact⟨H5,t5,hd.rt _ _ _ H5 q4.2 x5 v5 (Rep.aS e5 _ _ r4)⟩
 . have ei:i=xs.length:=by omega
   subst ei;rw[List.drop_length]at hf;exact .inl ⟨hJ.stop _ H M e hv hf.1 (aU _),outN hf e hv hs⟩
end
theorem Qo{env:Env}:∀scope,(∀y∈scope.names,y.2= .free->∃c,env.cells.lookup y.1=some c)->∃cl,closureFor scope env=pure cl/\(∀y c,cl.lookup y=some c->env.cells.lookup y=some c)/\∀y∈scope.names,y.2= .free->∃c,cl.lookup y.1=some c:=by
 intro scope h;have all:∀(l:List (Str×NameKind)) (cs:List (Str×Addr)),(∀y∈l,y.2= .free->∃c,env.cells.lookup y.1=some c)->(∀y c,cs.lookup y=some c->env.cells.lookup y=some c)->
  ∃cl,(forIn l cs λ(x:Str×NameKind) (r:List (Str×Addr))=>(match x with|(name,kind)=>if(kind==NameKind.free)=true then do let c<-cellOf env name;pure (ForInStep.yield ((name,c)::r))else pure (ForInStep.yield r):Sem (ForInStep (List (Str×Addr)))))=(pure cl:Sem _)/\
   (∀y c,cl.lookup y=some c->env.cells.lookup y=some c)/\(∀y c,cs.lookup y=some c->∃c',cl.lookup y=some c')/\∀y∈l,y.2= .free->∃c,cl.lookup y.1=some c:=by
  intro l
  induction l with
  |nil=>intro cs _ h2;exact⟨cs,by simp,h2,λy c e=>⟨c,e⟩,λy I=>by cases I⟩
  |cons x l ih=>
   intro cs h1 h2;obtain⟨n,k⟩:=x
   by_cases hk:k= .free
   . subst hk
     obtain⟨c,ec⟩:=h1 (n,.free) iC rfl;have e0:cellOf env n=pure c:=by unfold cellOf;rw[ec]
     obtain⟨cl,e1,J,W,Y⟩:=ih ((n,c)::cs) (λy I=>h1 y (gA _ I)) (λy d e=>by
      rw[m7]at e;split at e
      . rename_i z;cases e;rw[eq_of_beq z];exact ec
      . exact h2 y d e)
     refine⟨cl,?_,J,λy d e=>?_,λy I Z=>?_⟩
     . rw[q9]
       simp only[beq_self_eq_true,if_true,e0,pure_bind];exact e1
     . by_cases I:y=n
       . subst I;exact W y c (by simp)
       . exact W y d (by rw[m7,beq_eq_false_iff_ne.mpr I];exact e)
     . rcases cj.mp I with rfl|I
       . exact W n c (by simp)
       . exact Y y I Z
   . obtain⟨cl,e1,J,W,Y⟩:=ih cs (λy I=>h1 y (gA _ I)) h2
     have hb:(k==NameKind.free)=false:=by simpa using hk
     refine⟨cl,?_,J,W,λy I Z=>?_⟩
     . rw[q9]
       simp only[hb,jC,if_false,pure_bind];exact e1
     . rcases cj.mp I with rfl|I
       . exact absurd Z hk
       . exact Y y I Z
 obtain⟨cl,e1,J,_,Y⟩:=all scope.names [] h (λy c e=>by simp at e)
 refine⟨cl,?_,J,Y⟩;unfold closureFor;have e5:=congrArg (λm=>m >>= λr=>(pure r:Sem (List (Str×Addr)))) e1
 simp only[pure_bind]at e5;rw[<-e5]
def gh(env:Env)(p:Str×NameKind):Str×NameKind:=if(p.2==NameKind.free&&env.scope.kind== .function&&env.kindOf p.1==some .cell)then(p.1,NameKind.cell)else(p.1,p.2)
theorem RW(env)(p:Str×NameKind):(gh env p).1=p.1:=by unfold gh;split<;>rfl
theorem zx(env)(p:Str×NameKind):(gh env p).2=p.2∨((gh env p).2= .cell/\p.2= .free):=by
 unfold gh;split
 . rename_i h
   rw[bj,bj]at h;exact .inr ⟨rfl,eq_of_beq h.1.1⟩
 . exact .inl rfl
theorem vQ{env:Env}{x:Str}:∀{I:List (Str×NameKind)},(I.map (gh env)).lookup x=(I.find? λp=>x==p.1).map λp=>(gh env p).2
 | []=>rfl
 |p::r=>by
  rw[bT,List.find?_cons];obtain⟨n,k⟩:=p;have e:gh env (n,k)=(n,(gh env (n,k)).2):=Prod.ext (RW env (n,k)) rfl;rw[e,m7];cases hx:x==n with
  |true=>rfl
  |false=>exact vQ
theorem vR{x:Str}:∀{I:List (Str×NameKind)},I.lookup x=(I.find? λp=>x==p.1).map λp=>p.2
 | []=>rfl
 |(n,k)::r=>by
  rw[m7,List.find?_cons];cases hx:x==n with
  |true=>rfl
  |false=>exact vR
theorem Eh{env:Env}{I:List (Str×NameKind)}{x:Str}{k:NameKind}(J:∀y∈I,y.2≠.cell)(hk:k= .cell∨k= .free)
 (h:(I.map (gh env)).lookup x=some k):I.lookup x=some .free:=by
 rw[vQ]at h;rw[vR];cases e:I.find? λp=>x==p.1 with
 |none=>rw[e]at h;cases h
 |some p=>
  rw[e]at h;have h':(gh env p).2=k:=Option.some.inj h;have W:=List.mem_of_find?_eq_some e;show some p.2=some .free;rcases zx env p with z|z
  . rcases hk with rfl|rfl
    . exact absurd (z.symm.trans h') (J p W)
    . rw[<-h',z]
  . rw[z.2]
theorem Eg{env:Env}{I:List (Str×NameKind)}{x:Str}(h:I.lookup x=some .free):(I.map (gh env)).lookup x=some .cell∨(I.map (gh env)).lookup x=some .free:=by
 rw[vR]at h;rw[vQ];cases e:I.find? λp=>x==p.1 with
 |none=>rw[e]at h;cases h
 |some p=>
  rw[e]at h;have h':p.2= .free:=Option.some.inj h;show some (gh env p).2=some .cell∨some (gh env p).2=some .free;rcases zx env p with z|z
  . right;rw[z,h']
  . left;rw[z.1]
def cZ(X:Cx)(scope:Scope)(cl:List (Str×Addr))(C:Addr)(I:az)(s:Shared)(H:Hp)(J:List Addr):Cx:=
 { X with N:=I,s₀:=s,H₀:=H,env:=compEnvC scope cl C X.env,outer:=X.stack,ex:=J,fn:=λ_=>false,pn:=[],xe:=λ_ _=>False }
theorem VL{s:Shared}{scope:Scope}{cl:List (Str×Addr)}{C:Addr}{Y:List Addr}(I:Inv X pins σ H s)(W:∀b∈Y,lL X pins H b)(Z:∀b∈Y,b<s.heap.objs.size)
 (bI:scope.kind= .function) (hC:s.heap.objs.size<=C) (h1:∀y c,cl.lookup y=some c->X.env.cells.lookup y=some c) (h2:∀y∈scope.names,y.2= .free->∃c,cl.lookup y.1=some c) (bC:∀y∈scope.names,y.2≠.cell):
 (cZ X scope cl C Nc s H Y).Ok where
 mod:=I.ok.mod
 kind:=bI
 glob:=I.ok.glob
 blt:=I.ok.blt
 above:=hC
 inj:=λx y c e1 e2=>I.ok.inj x y c (h1 x c e1) (h1 y c e2)
 has:=λx hx=>by
  have e:scope.names.lookup x=some .free:=by
   rcases hx with hx|hx
   . exact Eh bC (.inl rfl) hx
   . exact Eh bC (.inr rfl) hx
  exact h2 (x,.free) (PySem.mem_of_lookup e) rfl
 pW:=λx c z=>by cases z
 hd:=I.ok.hd
 frames:=I.ok.frames
 uF:=.inl rfl
 rK:=λb J=>⟨λz=>absurd (eF (Z b J) hC) (by rw[show b=C from z];exact lW _),λx c e=>(W b J).2.2.2.2.1 x c (h1 x c e)⟩
 bs:=λb o e=>I.bs b o e
 iY:=dJ I.ok.iY I.sz
 ib:=λb o e J=>by
  rcases(W b J).2.2.2.1 with z|z
  . exact I.ok.ib b o e z
  . exact absurd (eF (bG e) (dJ I.ok.iY z)) (lW _)
 hR:=λb J z=>by
  rcases cj.mp (I.fU b z)with e|e
  . exact(W b J).2.1 e
  . exact(W b J).2.2.1 e
 d0:=I.stack
 ma:=I.fT
section
variable {prog:Program}{w:World}{A:Around}{R:Result->Shared->Prop}{s:Shared}
abbrev Nv:aP:=λ_ _=>False
abbrev zI(I:aW)(env:Env):Sem Bool:=forIn I true λc r=>if r=true then do let ok<-isTrue c env (eval c env);pure (ForInStep.yield ok)else pure (ForInStep.yield r)
theorem Q4{env:Env}(I:Nat->Shared->Prop)
 (turn:∀n s,I n s->wpAny (model prog w) A (pyNext it) (λr W=>(r=none/\R (.ok .next) W)∨∃v,r=some v/\wpAny (model prog w) A (letOwnedTupleGo target it v) (λ_ Y=>wpAny (model prog w) A (assign target env v) (λ_ s₂=>
  wpAny (model prog w) A (zI ifs env) (λok Z=>
   if ok=true then wpAny (model prog w) A (eval elt env) (λx s₄=>
    wpAny (model prog w) A (call (.builtin "list.append") [acc,x]) (λ_ s₅=>∃m,m<n/\I m s₅) Nv s₄) Nv Z
   else ∃m,m<n/\I m Z) Nv s₂) Nv Y) Nv W) Nv s)
 (n) (h:I n s):
 codeAny (model prog w) A (.compLoop (.ListComp elt [⟨target,iter,ifs,0⟩] scope pos) 0 it acc env) R s:=by
 refine codeAny_loop rfl I (λn s hI=>?_) n h
 show wpAny _ A ((compTurn (.ListComp elt [⟨target,iter,ifs,0⟩] scope pos) 0 it acc env).onRaise (λx=>do noteFrame x env;theTreesLotGoes x)) _ _ s
 refine wpAny_noted ?_;rw[compTurn_list];refine wpAny_bind (wpAny_standAt (wpAny_bind (wpAny_mono (turn n s hI) (λr W J=>?_) λ_ _ h'=>h'.elim)))
 rcases J with⟨rfl,J⟩|⟨v,rfl,J⟩
 . exact wpAny_pure J
 . refine wpAny_bind (wpAny_mono J (λ_ Y h₁'=>?_) λ_ _ h'=>h'.elim)
   refine wpAny_bind (wpAny_mono h₁' (λ_ s₂ h₂=>wpAny_bind (wpAny_mono h₂ (λok Z h₃=>?_) λ_ _ h'=>h'.elim)) λ_ _ h'=>h'.elim)
   cases ok with
   |false=>exact wpAny_pure ⟨rfl,h₃⟩
   |true=>
    exact wpAny_bind (wpAny_bind (wpAny_mono h₃ (λx s₄ h₄=>wpAny_bind (wpAny_mono h₄ (λ_ s₅ h₅=>wpAny_pure (wpAny_pure ⟨rfl,h₅⟩)) λ_ _ h'=>h'.elim)) λ_ _ h'=>h'.elim))
end
def pH(X:Cx)(I:aW)(t:dW):Prop:=
 ∀(pins:aG) (s:Shared) (σ:L2.St) (H:Hp) (Q:Bool->Hp->Prop),Inv X pins σ H s->Ba X.K t σ H Q->wpAny (model X.prog X.w) X.A (zI I X.env) (TP X pins σ Q) X.xe s
def NC:dW:=λ_ M Q=>Q true M
theorem Mx:pH X [] NC:=by
 intro pins s Y H Q0 I h;obtain⟨σ,M,Q,hs,W,J,hk⟩:=h;exact wpAny_pure ⟨H,I,hk true M H J (.refl H) W⟩
theorem Mw{t:dW}(h:eI X c t):pH X [c] t:=by
 intro pins s J H Q0 I W;have:=h pins s J H Q0 I W;unfold zI;rw[q9];simp only[if_true,bind_assoc,pure_bind];refine wpAny_bind (aA this λb s' q=>?_)
 simp only[List.forIn_nil];exact wpAny_pure q
def jA(md:Bool)(I:LR)(M:RM)(Q:aj):Prop:=match md with
 |true=>∀p,M p=none->Q (.ref p) (put M p (.lst I))
 |false=>Q (.ls I) M
noncomputable def gq (bd:RV->Option (LR))(md:Bool)(ok:RM->Prop)(un:RM->RM)(tt:dW)(te:ar)(base:List (Option RV)):LR->LR->RM->aj->Prop
 | [],acc,M,Q=>ok M/\jA md acc (un M) Q
 |x::xs,acc,M,Q=>ok M/\match bd x with
  |some bs=>tt (bs.map some++base) M λc M1=>(c=true->te (bs.map some++base) M1 λv M2=>gq bd md ok un tt te base xs (acc++ [v]) M2 Q)/\(c=false->gq bd md ok un tt te base xs acc M1 Q)
  |none=>False
def qx(bd:RV->Option (LR))(md:Bool)(J:gn)(I:List Nat)(tt:dW)(te:ar):ar:=λσ M Q=>J σ M λxs ok un M1=>xs.length<sizeLine/\gq bd md ok un tt te (I.map λi=>(σ[i]?).join) xs [] M1 Q
section
variable {X:Cx}
theorem Q5{elt iter tg:Expr}{nm:az}{bd:RV->Option (LR)}{md:Bool}{scope:Scope}{pos:Pos}{ti:gn}{tt:dW}{te:ar}{ifs:aW}(caps:List (Nat×Str)){osc:Scope}{oN:az}
 (hc:X.calm=true) (hi:gH X tg iter ti)
 (hif:∀cl C s H fp,pH (cZ X scope cl C (nm++caps.map Prod.snd) s H fp) ifs tt)
 (hel:∀cl C s H fp,ah (cZ X scope cl C (nm++caps.map Prod.snd) s H fp) elt te)
 (hX:X.env.scope=osc) (hN:X.N=oN)
 (fE:∀p∈caps,oN[p.1]? =some p.2/\scope.names.lookup p.2=some .free/\(osc.names.lookup p.2=some .cell∨osc.names.lookup p.2=some .free))
 (eR:∀y∈scope.names,y.2= .free->(osc.names.lookup y.1=some .cell∨osc.names.lookup y.1=some .free))
 (bC:∀y∈scope.names,y.2≠.cell) (bI:scope.kind= .function) (cq:∀y∈scope.names,y.2= .local->scope.names.lookup y.1=some .local)
 (hb:∀r bs,bd r=some bs->bs.length=nm.length)
 (hpg:∀cl C s2 H2 fp (pins':aG) (s6:Shared) (vs0 cv:List (Option V)) (H6:Hp) (rv:RV) (xv:V) (u:Value) (bs:LR) (Q1:Unit->Shared->Prop),vs0.length=nm.length->Inv (cZ X scope cl C (nm++caps.map Prod.snd) s2 H2 fp) pins' (vs0++cv) H6 s6->RelV xv u->Rep X.K H6 rv xv->bd rv=some bs->
  (∀vs s7,ab X.K H6 bs vs->Inv (cZ X scope cl C (nm++caps.map Prod.snd) s2 H2 fp) pins' (vs.map some++cv) H6 s7->Q1 () s7)->wpAny (model X.prog X.w) X.A (assign tg (compEnvC scope cl C X.env) u) Q1 Nv s6)
 (hs:∀v,foldedSetIterable iter X.env v=pure v) {pos':Pos} {pins:aG} {s:Shared} {σ0:L2.St} {H:Hp} {Q0:VK} (I:Inv X pins σ0 H s) (hw:up X.K (qx bd md ti (caps.map Prod.fst) tt te) σ0 H Q0) {use:Option (Value->Sem Unit)} {PP:aP}
 (fin:∀(D C:Addr) (s5:Shared) (m5:bq) (H5:Hp),s5.heap.Ns C m5->(∀h',Heap.SameBut C s5.heap h'->Inv X pins σ0 H5 { s5 with heap:=h' })->Q0 (.ref D) H5->H5 C=none->C≠X.env.locals->X.s₀.heap.objs.size<=C->(∀y c,X.env.cells.lookup y=some c->c≠C)->(∀p∈X.pn++pins,p.1≠C)->compPost (model X.prog X.w) X.A X.xe use PP (.ref D) C (.ok .next) s5):
 wpAny (model X.prog X.w) X.A (comprehension (.ListComp elt [⟨tg,iter,ifs,0⟩] scope pos) scope X.env pos' (newList []) false (eval iter X.env) use) PP X.xe s:=by
 subst hX;subst hN;obtain⟨σ,M,Q,hst,hv,ht,hk⟩:=hw;obtain⟨cl,hclos,hcl1,hcl2⟩:=Qo scope λy hy hf=>I.ok.has y.1 (eR y hy hf)
 refine wpAny_comprehension_free (use:=use) (cl:=cl) rfl hs hclos bI cq ?_;refine wpAny_mono (hi pins s σ0 H (λJ H1=>∃xs ok un M1,Ext H H1/\View X.K H1 M1/\iz X.H₀ H X.K J xs ok un H1/\xs.length<sizeLine/\gq bd md ok un tt te ((caps.map Prod.fst).map λi=>(σ[i]?).join) xs [] M1 Q) I ⟨σ,M,_,hst,hv,ht,λxs ok un M' J H' q e w hJ=>⟨xs,ok,un,M',e,w,hJ,q.1,q.2⟩⟩)
  (λv s1 h1=>wpAny_mono h1 (λitv s2 h2=>?_) λ_ _ e=>e) λ_ _ e=>e
 obtain⟨it,fp,tn,J,H2,rfl,I2,T,st2,f2,xs,ok,un,M1,e2,w2,hJ,hz,hq⟩:=h2;have kU:∀b∈fp,b<s2.heap.objs.size:=λb hb=>by obtain⟨o,e,_⟩:=T.obj _ _ st2 b hb;exact bG e
 refine wpAny_newObj_type (wpAny_newFunctionEnv bC (by intro y hy;simp at hy) (λh₁ hns₁ hsb₁=>?_) bI)
 dsimp only at hns₁ hsb₁ ⊢;generalize hH2:s2.heap.push { cls:=.type "list",dict:=none,data:=.seq ([]:au).toArray }=hp2 at hns₁ hsb₁ ⊢;have hCs:hp2.objs.size=s2.heap.objs.size+1:=by rw[<-hH2,Heap.size_push]
 have hDC:s2.heap.objs.size≠hp2.objs.size:=by rw[hCs];exact cW (q8 _)
 have hCle:s2.heap.objs.size<=hp2.objs.size:=by rw[hCs];exact Nat.le_succ _
 have old:∀b o,s2.heap.get? b=some o->h₁.get? b=some o:=λb o e=>hsb₁.extBut b o (cW (by rw[hCs];exact lQ (bG e))) (Heap.get?_push_of_some _ (hH2 ▸ Heap.get?_push_of_some _ e))
 have hacc:h₁.get? s2.heap.objs.size=some { cls:=.type "list",data:=.seq ([]:au).toArray }:=hsb₁.extBut _ _ hDC (Heap.get?_push_of_some _ (hH2 ▸ Heap.get?_push_size _ rfl));generalize hD:s2.heap.objs.size=D at*;generalize hCg:hp2.objs.size=C at*;have hDfp:∀b∈fp,b≠D:=λb hb=>cW (kU b hb)
 have okB:(cZ X scope cl C (nm++caps.map Prod.snd) s2 H2 fp).Ok:=VL I2 f2 (by rw[hD];exact kU) bI (by rw[hD];exact hCle) hcl1 hcl2 bC
 have fr:∀b,D<=b->H2 b=none:=λb hb=>I2.av.fresh (by rw[hD];exact hb)
 have capsV:∃cv:List (Option V),cv.length=caps.length/\(∀(j:Nat) v,cv[j]? =some (some v)->∃p,caps[j]? =some p/\σ0[p.1]? =some (some v))/\
  ∀(j:Nat) r,((caps.map Prod.fst).map λi=>(σ[i]?).join)[j]? =some (some r)->∃v,cv[j]? =some (some v)/\Rep X.K H2 r v:=by
  refine⟨caps.map λp=>(σ0[p.1]?).join,by simp,λj v e=>?_,λj r e=>?_⟩
  . rw[List.getElem?_map]at e
    cases q:caps[j]? with
    |none=>rw[q]at e;cases e
    |some p=>
     rw[q]at e;have e':(σ0[p.1]?).join=some v:=Option.some.inj e;refine⟨p,rfl,?_⟩;cases z:σ0[p.1]? with
     |none=>rw[z]at e';cases e'
     |some o=>rw[z]at e';have:o=some v:=e';rw[this]
  . rw[List.getElem?_map,List.getElem?_map]at e
    cases q:caps[j]? with
    |none=>rw[q]at e;cases e
    |some p=>
     rw[q]at e;have e':(σ[p.1]?).join=some r:=Option.some.inj e;have e'':σ[p.1]? =some (some r):=by
      cases z:σ[p.1]? with
      |none=>rw[z]at e';cases e'
      |some o=>rw[z]at e';have:o=some r:=e';rw[this]
     obtain⟨v,h1,h2⟩:=hst.2 p.1 r e'';refine⟨v,?_,Rep.ext e2 r v h2⟩;rw[List.getElem?_map,q];show some ((σ0[p.1]?).join)=_;rw[h1];rfl
 obtain⟨cv,cvl,cv1,cv2⟩:=capsV;have I3:Inv (cZ X scope cl C (nm++caps.map Prod.snd) s2 H2 fp) [(D,{ cls:=.type "list",data:=.seq ([]:au).toArray })] (List.replicate nm.length none++cv) H2 { s2 with heap:=h₁,toks:=s2.toks+([]:List (Str×Value)).length }:=by
  refine⟨okB,rfl,I2.bare,Un.kept old,⟨_,hns₁,λi y v a b c=>?_⟩,λy c e=>?_,fr C hCle,λy c e=>I2.bP y c (hcl1 y c e),λp hp=>?_,I2.av.kept old,?_⟩
  . by_cases hi0:i<nm.length
    . rw[List.getElem?_append_left (by rw[ym];exact hi0),List.getElem?_replicate]at b
      split at b<;>cases b
    . obtain⟨j,rfl⟩:=Nat.exists_eq_add_of_le (Nat.le_of_not_lt hi0)
      rw[List.getElem?_append_right (by rw[ym];omega),ym,yh]at b
      have a:(caps.map Prod.snd)[j]? =some y:=by
       have a':(nm++caps.map Prod.snd)[nm.length+j]? =some y:=a;rw[List.getElem?_append_right (by omega),yh]at a';exact a'
      obtain⟨p,q1,q2⟩:=cv1 j v b;have hy:p.2=y:=by
       have a':(caps.map Prod.snd)[j]? =some y:=a;rw[List.getElem?_map,q1]at a';exact Option.some.inj a'
      subst hy;obtain⟨z1,z2,z3⟩:=fE p (List.mem_of_getElem? q1);obtain⟨m,hn,hl⟩:=I2.loc;have yg:pU X.env.scope p.2:=by rcases z3 with z|z;exact .inr (.inl z);exact .inr (.inr z)
      obtain⟨u,ru,lk⟩:=hl p.1 p.2 v z1 q2 yg;refine⟨u,ru,.inr ⟨Eg z2,?_⟩⟩;obtain⟨c,ec⟩:=hcl2 (p.2,.free) (PySem.mem_of_lookup z2) rfl;have ec':=hcl1 p.2 c ec;rcases lk with⟨k,_⟩|⟨_,c',e',ic⟩
      . have k':X.env.scope.names.lookup p.2=some .local:=k
        rcases z3 with z|z<;>(rw[z]at k';cases k')
      . rw[ec']at e';cases e'
        obtain⟨o,ho,hd⟩:=ic;exact⟨c,ec,o,old c o ho,hd⟩
  . obtain⟨v,o,ho,hd⟩:=I2.cell y c (hcl1 y c e)
    exact⟨v,o,old c o ho,hd⟩
  . have hp':p=(D,{ cls:=.type "list",data:=.seq ([]:au).toArray }):=by simpa[cZ]using hp
    subst hp';refine⟨hacc,fr D (aU _),hDC,λz=>?_,λv=>by simp⟩
    have:=I2.fT D z;rcases cj.mp (I2.fU D z)with e|e
    . exact absurd I2.lt (by rw[<-e,hD];exact lW _)
    . exact I2.rU (by rw[hD];exact aU _) e
  . show(List.replicate nm.length none++cv).length=(nm++caps.map Prod.snd).length
    simp[cvl]
 have W:∀s3:Shared,s3= { s2 with heap:=h₁,toks:=s2.toks+([]:List (Str×Value)).length }->codeAny (model X.prog X.w) X.A (.compLoop (.ListComp elt [⟨tg,iter,ifs,0⟩] scope pos) 0 (.ref it) (.ref D) (compEnvC scope cl C X.env))
  (compPost (model X.prog X.w) X.A X.xe use PP (.ref D) C) s3:=by
  rintro s3 rfl;refine Q4 (λn s'=>∃(i:Nat) (v0:List (Option V)) (H':Hp) (M':RM) (accR:LR) (accV:LV) (ae:au) (k:Nat),n=xs.length-i/\v0.length=nm.length/\i<=xs.length/\accR.length<=i/\
   Inv (cZ X scope cl C (nm++caps.map Prod.snd) s2 H2 fp) [(D,{ cls:=.type "list",data:=.seq ae.toArray k })] (v0++cv) H' s'/\View X.K H' M'/\Ext H2 H'/\ab X.K H' accR accV/\Vals accV ae/\tn i s'.heap/\(∀b∈fp,H' b=none)/\
   gq bd md ok un tt te ((caps.map Prod.fst).map λi=>(σ[i]?).join) (xs.drop i) accR M' Q) ?_ xs.length ⟨0,List.replicate nm.length none,H2,M1,[],[],[],0,rfl,by simp,Nat.zero_le _,aU _,I3,w2,.refl _,ab.nil,.nil,T.keep _ _ _ st2 λb _ o e=>old b o e,λb hb=>(f2 b hb).1,by simpa using hq⟩
  rintro n s' ⟨i,v0,H',M',accR,accV,ae,k,rfl,hv0,hi,hal,I4,w4,e4,ra,rl,st4,f4,hq4⟩;have fpB:∀(pins':aG) (H'':Hp),(∀b∈fp,H'' b=none)->(∀p∈pins',∀b∈fp,p.1≠b)->∀b∈fp,lL (cZ X scope cl C (nm++caps.map Prod.snd) s2 H2 fp) pins' H'' b:=λpins' H'' h1 h2 b hb=>
   ⟨h1 b hb,(okB.rK b hb).1,okB.hR b hb,.inl hb,(okB.rK b hb).2,λp hp=>h2 p (by simpa[cZ]using hp) b hb⟩
  have pD:∀(o:Obj),∀p∈[(D,o)],∀b∈fp,p.1≠b:=λo p hp b hb=>by
   have:p=(D,o):=by simpa using hp
   subst this;exact(hDfp b hb).symm
  by_cases hlt:i<xs.length
  . have ed:xs.drop i=xs[i]::xs.drop (i+1):=by simp
    rw[ed]at hq4;obtain⟨av,hq4⟩:=hq4;obtain⟨hgo,hy⟩:=hJ.turn i H' M' e4 w4 av xs[i] (by simp)
    refine aA (T.item (cZ X scope cl C (nm++caps.map Prod.snd) s2 H2 fp) rfl rfl rfl hc i _ s' _ H' Nv I4 (fpB _ _ f4 (pD _)) st4 hgo) λr s5 ⟨u,hr,h5⟩=>.inr ⟨u,hr,?_⟩
    refine aA h5 λ_ s6 zz=>?_;obtain⟨xv,H6,I6,r6,y6,st6,f6⟩:=zz
    obtain⟨e6,w6,rr6⟩:=hy xv H6 y6;have I6':=I6.pinned (fpB _ _ f6 (pD _)) (T.obj _ _ st6);obtain⟨bs,ebs,hq4⟩:∃bs,bd xs[i]=some bs/\tt (bs.map some++(caps.map Prod.fst).map λi=>(σ[i]?).join) M' λc M1=>(c=true->te (bs.map some++(caps.map Prod.fst).map λi=>(σ[i]?).join) M1 λv M2=>gq bd md ok un tt te ((caps.map Prod.fst).map λi=>(σ[i]?).join) (xs.drop (i+1)) (accR++ [v]) M2 Q)/\(c=false->gq bd md ok un tt te ((caps.map Prod.fst).map λi=>(σ[i]?).join) (xs.drop (i+1)) accR M1 Q):=by
     split at hq4
     . rename_i bs e;exact⟨bs,e,hq4⟩
     . exact hq4.elim
    refine hpg cl C s2 H2 fp _ s6 v0 cv H6 xs[i] xv u bs _ hv0 I6' r6 rr6 ebs λvs6 s7 rp6 I7=>?_
    have lv6:vs6.length=nm.length:=by rw[<-rp6.length];exact hb _ _ ebs
    have base:∀{Hx:Hp},Ext H6 Hx->aK X.K Hx (bs.map some++(caps.map Prod.fst).map λi=>(σ[i]?).join) (vs6.map some++cv):=λ{Hx} ex=>by
     have lb:=rp6.length;refine⟨by simp[cvl,lb],λj r e=>?_⟩
     by_cases hj:j<bs.length
     . rw[List.getElem?_append_left (by simpa using hj),List.getElem?_map]at e
       cases q:bs[j]? with
       |none=>rw[q]at e;cases e
       |some r'=>
        rw[q]at e;have:r'=r:=Option.some.inj (Option.some.inj e);subst this;obtain⟨v,q1,q2⟩:=rp6.get q;exact⟨v,by rw[List.getElem?_append_left (by rw[br];omega),List.getElem?_map,q1];rfl,Rep.ext ex _ _ q2⟩
     . obtain⟨k,rfl⟩:=Nat.exists_eq_add_of_le (Nat.le_of_not_lt hj)
       rw[List.getElem?_append_right (by simp),br,yh]at e
       obtain⟨v,q1,q2⟩:=cv2 k r e;exact⟨v,by rw[List.getElem?_append_right (by rw[br];omega),br,<-lb,yh];exact q1,Rep.ext (e4.trans (e6.trans ex)) r v q2⟩
    have next:∀(M8:RM) (H8:Hp) (s8:Shared) (accR':LR) (accV':LV) (its':au) (k':Nat),accR'.length<=i+1->
     Inv (cZ X scope cl C (nm++caps.map Prod.snd) s2 H2 fp) ([(D,{ cls:=.type "list",data:=.seq its'.toArray k' })]++mz fp s6.heap) (vs6.map some++cv) H8 s8->View X.K H8 M8->Ext H6 H8->ab X.K H8 accR' accV'->Vals accV' its'->
     gq bd md ok un tt te ((caps.map Prod.fst).map λi=>(σ[i]?).join) (xs.drop (i+1)) accR' M8 Q->∃m,m<xs.length-i/\∃(i:Nat) (v0:List (Option V)) (H':Hp) (M':RM) (accR:LR) (accV:LV) (ae:au) (k:Nat),m=xs.length-i/\v0.length=nm.length/\i<=xs.length/\accR.length<=i/\
     Inv (cZ X scope cl C (nm++caps.map Prod.snd) s2 H2 fp) [(D,{ cls:=.type "list",data:=.seq ae.toArray k })] (v0++cv) H' s8/\View X.K H' M'/\Ext H2 H'/\ab X.K H' accR accV/\Vals accV ae/\tn i s8.heap/\(∀b∈fp,H' b=none)/\
     gq bd md ok un tt te ((caps.map Prod.fst).map λi=>(σ[i]?).join) (xs.drop i) accR M' Q:=by
     intro M8 H8 s8 accR' accV' its' k' hl' I8 w8 e8 ra' rl' hq8;have keep8:∀b∈fp,∀o,s6.heap.get? b=some o->s8.heap.get? b=some o/\H8 b=none:=λb hb o e=>by
      have:=I8.pin (b,o) (iD _ (iD _ (zb hb e)));exact⟨this.1,this.2.1⟩
     refine⟨xs.length-(i+1),by omega,i+1,vs6.map some,H8,M8,accR',accV',its',k',rfl,by rw[br];exact lv6,hlt,hl',I8.dj,w8,e4.trans (e6.trans e8),ra',rl',T.keep _ _ _ st6 λb hb o e=>(keep8 b hb o e).1,λb hb=>?_,hq8⟩
     obtain⟨o,e,_⟩:=T.obj _ _ st6 b hb;exact(keep8 b hb o e).2
    refine aA (hif cl C s2 H2 fp _ s7 _ H6 (λoc H8=>∃M8,View X.K H8 M8/\Ext H6 H8/\(oc=true->te (bs.map some++(caps.map Prod.fst).map λi=>(σ[i]?).join) M8 λv M2=>gq bd md ok un tt te ((caps.map Prod.fst).map λi=>(σ[i]?).join) (xs.drop (i+1)) (accR++ [v]) M2 Q)/\
     (oc=false->gq bd md ok un tt te ((caps.map Prod.fst).map λi=>(σ[i]?).join) (xs.drop (i+1)) accR M8 Q)) I7 ⟨_,M',_,base (.refl _),w6 M' w4,hq4,λb M8 H8 q e w=>⟨M8,w,e,q.1,q.2⟩⟩) λoc s8 ⟨H8,I8,M8,w8,e8,qt,qf⟩=>?_
    cases oc with
    |false=>
     exact next M8 H8 s8 accR accV ae k (by omega) I8 w8 e8 (ab.ext (e6.trans e8) _ _ ra) rl (qf rfl)
    |true=>
     refine aA (hel cl C s2 H2 fp _ s8 _ H8 (λv H9=>∃rv M9,View X.K H9 M9/\Ext H8 H9/\Rep X.K H9 rv v/\gq bd md ok un tt te ((caps.map Prod.fst).map λi=>(σ[i]?).join) (xs.drop (i+1)) (accR++ [rv]) M9 Q) I8 ⟨_,M8,_,base e8,w8,qt rfl,λrv M9 v H9 q e w r=>⟨rv,M9,w,e,r,q⟩⟩) λy s9 zz=>?_;obtain⟨yv,H9,I9,r9,rv,M9,w9,e9,rr9,hq9⟩:=zz
     have pD9:=I9.pin (D,{ cls:=.type "list",data:=.seq ae.toArray k }) (iD _ (yn _ iC));have hlen:ae.length<=i:=by rw[<-rl.length,<-ra.length];exact hal
     refine call_meets F.slot_list_append ⟨_,pD9.1,rfl⟩ F.entry_list_append (F.args_list_append_2 _ _) (PySem.list_append D ae.toArray k y (by rw[eQ];omega)) ⟨pD9.1,?_⟩
     have q:=PySem.IsL.update pD9.1 (λx_1=>x_1.push y)
     have hpush:ae.toArray.push y=(ae++ [y]).toArray:=by simp
     rw[hpush]at q;obtain⟨k',q⟩:∃k',(s9.heap.update D (Obj.mapSeq λx_1=>x_1.push y)).get? D=some { cls:=.type "list",data:=.seq (ae++ [y]).toArray k' }:=⟨_,q⟩
     have I10:Inv (cZ X scope cl C (nm++caps.map Prod.snd) s2 H2 fp) (mz fp s6.heap) (vs6.map some++cv) H9 { s9 with heap:=s9.heap.update D (Obj.mapSeq λx_1=>x_1.push y),toks:=s9.toks }:=by
      refine Inv.turned (it:=D) (I9.eV λp hp=>I9.pin p (iD _ (iD _ hp))) (λb o hb e=>(Heap.get?_update_other _ _ (Ne.symm hb)).trans e) pD9.2.1 pD9.2.2.1 (.inr (by show s2.heap.objs.size<=D;rw[hD];exact aU _)) (λz c e=>?_) λp hp=>?_
      . obtain⟨v,o,ho,hd⟩:=I2.cell z c (hcl1 z c e)
        exact cW (by have:=bG ho;rw[hD]at this;exact this)
      . have hp':p∈mz fp s6.heap:=by simpa[cZ]using hp
        exact hDfp p.1 (E2 hp').1
     have I11:Inv (cZ X scope cl C (nm++caps.map Prod.snd) s2 H2 fp) ([(D,{ cls:=.type "list",data:=.seq (ae++ [y]).toArray k' })]++mz fp s6.heap) (vs6.map some++cv) H9 { s9 with heap:=s9.heap.update D (Obj.mapSeq λx_1=>x_1.push y),toks:=s9.toks }:=by
      refine I10.eV λp hp=>?_
      rcases eZ.mp hp with hp|hp
      . have:p=(D,{ cls:=.type "list",data:=.seq (ae++ [y]).toArray k' }):=by simpa using hp
        subst this;exact⟨q,pD9.2.1,pD9.2.2.1,pD9.2.2.2.1,λv=>by simp⟩
      . exact I10.pin p (iD _ hp)
     exact next M9 H9 _ (accR++ [rv]) (accV++ [yv]) (ae++ [y]) k' (by rw[dH,List.length_singleton];omega) I11 w9 (e8.trans e9) ((ab.ext (e6.trans (e8.trans e9)) _ _ ra).append (ab.cons rr9 ab.nil)) (rl.append (.cons r9 .nil)) hq9
  . have ei:i=xs.length:=by omega
    subst ei;refine aA (T.done (cZ X scope cl C (nm++caps.map Prod.snd) s2 H2 fp) rfl rfl rfl hc _ _ s' _ H' Nv I4 (fpB _ _ f4 (pD _)) st4 (hJ.stop _ H' M' e4 w4 (by rw[List.drop_length]at hq4;exact hq4.1) (aU _))) λr s5 ⟨hr,I5⟩=>.inl ⟨hr,?_⟩
    rw[List.drop_length]at hq4;obtain⟨hok4,hq4⟩:=hq4;obtain⟨m5,hn5,_⟩:=I5.loc;have pD5:=I5.pin (D,{ cls:=.type "list",data:=.seq ae.toArray k }) (iD _ iC);have hC5:H' C=none:=I5.free;have lC:X.env.locals<C:=eF I2.lt (by rw[hD];exact hCle)
    obtain⟨HD,oHD,wHD,qHD⟩:∃HD:HO,(∀h':Heap,h'.get? D=some { cls:=.type "list",data:=.seq ae.toArray k }->accV.length<=sizeLine->aD X.prog X.w (upd H' D HD) h' D HD)/\(∀o u,HD= .aV o u->jk u=false)/\∃H5,fh X.H₀ (upd H' D HD) H5/\Q0 (.ref D) H5/\H5 C=none:=by
     have keyD:∀(HD:HO),∃H5,fh X.H₀ (upd H' D HD) H5/\H5 C=none/\∃H4,bp H' H4/\Ext H H4/\View X.K H4 (un M')/\H4 D=none/\H5=upd H4 D HD:=λHD=>by
      obtain⟨H4,t4,e4',x4',v4⟩:=hJ.cu H' M' e4 w4 hok4;rcases t4 with h4|⟨d,ob,u,h1,du,h0,rfl⟩
      . rw[h4]at v4 x4'
        exact⟨_,.inl rfl,by rw[aq (Ne.symm hDC)];exact hC5,H',(Ext.refl _).w,x4',v4,pD5.2.1,rfl⟩
      . have nd:d≠D:=λz=>by rw[z,pD5.2.1]at h1;cases h1
        have nc:d≠C:=λz=>by rw[z,hC5]at h1;cases h1
        have h1':upd H' D HD d=some (.aV ob u):=by rw[aq nd];exact h1
        have eq:upd (upd H' D HD) d u=upd (upd H' d u) D HD:=by
         funext b;unfold upd
         by_cases b1:b=d
         . subst b1;rw[if_pos rfl,if_neg nd,if_pos rfl]
         . rw[if_neg b1]
           by_cases b2:b=D
           . rw[if_pos b2,if_pos b2]
           . rw[if_neg b2,if_neg b2,if_neg b1]
        exact⟨_,.inr ⟨d,ob,u,h1',du,h0,rfl⟩,by rw[aq nc.symm,aq (Ne.symm hDC)];exact hC5,_,e4',x4',v4,by rw[aq nd.symm];exact pD5.2.1,eq⟩
     cases md with
     |false=>
      obtain⟨H5,t5,c5,H4,x4,y4,v4,n4,rfl⟩:=keyD (.aV { cls:=.type "list",data:=.seq ae.toArray k } (.lst accV));exact⟨.aV { cls:=.type "list",data:=.seq ae.toArray k } (.lst accV),λh' e z=>⟨e,z,ae,k,rl,e⟩,λo u z=>by cases z;rfl,_,t5,hk _ _ _ _ hq4 (y4.trans (Ext.new n4)) (v4.new n4) (ly n4 (ab.aS x4 _ _ ra)),c5⟩
     |true=>
      obtain⟨H5,t5,c5,H4,x4,y4,v4,n4,rfl⟩:=keyD (.lst accV);exact⟨.lst accV,λh' e z=>⟨z,ae,k,rl,e⟩,λo u z=>(by cases z),_,t5,hk _ _ _ _ (hq4 D (v4.free n4)) (y4.trans (Ext.new n4)) (v4.cU n4 ⟨accV,rfl,ab.aS (x4.trans (Ext.new n4).w) _ _ ra⟩) (by simp only[Rep]),c5⟩
    obtain⟨H5,t5,q5,c5⟩:=qHD;refine fin D C s5 m5 H5 hn5 (λh' sb=>t5.inv ?_) q5 c5 (Nat.ne_of_gt lC) (dJ I2.ok.above (Nat.le_of_lt lC)) (λy c e=>?_) λp hp=>?_
    rotate_left
    . obtain⟨v,o,ho,_⟩:=I2.cell y c e
      exact cW (eF (bG ho) (by rw[hD];exact hCle))
    . exact cW (eF (bG (I2.pin p hp).1) (by rw[hD];exact hCle))
    have hDh:h'.get? D=some { cls:=.type "list",data:=.seq ae.toArray k }:=sb.extBut _ _ hDC pD5.1;have hz':accV.length<=sizeLine:=by rw[<-ra.length];omega
    have hok5:cJ X.prog X.w (upd H' D HD) h':=λb u q=>by
     by_cases hb:b=D
     . subst hb;rw[bQ]at q;cases q
       exact oHD h' hDh hz'
     . rw[aq hb]at q
       refine(I5.av b u q).fu (λc v hcb e=>sb.extBut c v ?_ e) (λc e=>?_) λc ys e=>?_
       . rcases hcb with rfl|e'
         . exact fF q hC5
         . exact fF e' hC5
       . rw[aq (fF e pD5.2.1)];exact e
       . rw[aq (fF e pD5.2.1)];exact e
    have un5:Un (hW X.stack) fp H2 (upd H' D HD) s2.heap h':=by
     have B:Un (hW X.stack) fp H2 H' s2.heap s5.heap:=I5.base;have nC:∀b o,s2.heap.get? b=some o->b≠C:=λb o e=>cW (eF (bG e) (by rw[hD];exact hCle))
     have nD:∀b o,s2.heap.get? b=some o->b≠D:=λb o e=>cW (by have:=bG e;rw[hD]at this;exact this)
     refine⟨λb o a1 a2 a3 a4=>sb.extBut b o (nC b o a1) (B.keep b o a1 a2 a3 a4),λb o a1 a2 a3 a4=>?_,λb o a1 a2 a4=>?_,λb o a1 a4=>?_,λb ys a=>?_,λb o u a=>?_,λb ps a=>?_⟩
     . obtain⟨sl,e⟩:=B.slot b o a1 a2 a3 a4
       exact⟨sl,sb.extBut b _ (nC b o a1) e⟩
     . rw[aq (nD b o a1)];exact B.free b o a1 a2 a4
     . obtain⟨o',e⟩:=B.there b o a1 a4
       exact⟨o',sb.extBut b o' (nC b o a1) e⟩
     . have e:=B.bh b ys a;rw[aq (fF e pD5.2.1)];exact e
     . have e:=B.aI b o u a;rw[aq (fF e pD5.2.1)];exact e
     . obtain⟨more,e⟩:=B.eO b ps a;exact⟨more,by rw[aq (fF e pD5.2.1)];exact e⟩
    have I6:Inv X pins σ0 (upd H' D HD) { s5 with heap:=h' }:=I2.rF (ch:=fp) I5.os un5 hok5 I5.bare λb hb=>⟨(f2 b hb).2.2.2.1,(f2 b hb).2.1,(f2 b hb).2.2.2.2.1,(f2 b hb).2.2.2.2.2⟩
    exact I6
 exact codeAny_compStart_list (W _ rfl) (T.self X.A 0 _ _ _ (T.keep _ _ _ st2 λb _ o e=>old b o e) (W _ rfl))
def mG:aW->Option (az)
 | []=>some []
 | .Name x _::r=>(mG r).map (x:: ·)
 |_::_=>none
def Nb(n:Nat):RV->Option (LR)
 | .tup xs=>if xs.length=n then some xs else none
 |_=>none
def Nf(r:RV):Option (LR):=some [r]
theorem Fy{es:aW}{xs:az}:∀(es:aW) (xs:az) (j:Nat),mG es=some xs->X.N.Nodup->(∀i x,xs[i]? =some x->X.N[j+i]? =some x)->(∀x∈xs,X.env.scope.names.lookup x=some .local)->ng X es (lG (List.range' j xs.length))/\(assignEach es X.env).length=xs.length/\(assignEach es X.env).findIdx? (·.1)=none
 | [],xs,j,h,_,_,_=>by cases h;exact⟨GK,rfl,rfl⟩
 |e::r,xs,j,h,jr,hN,hl=>by
  cases e<;>first|(cases h;done)|skip
  rename_i x p;cases e:mG r with
  |none=>simp only[mG,e]at h;cases h
  |some ys=>
   simp only[mG,e]at h;cases h;obtain⟨a,b,c⟩:=Fy (es:=es) (xs:=xs) r ys (j+1) e jr (λi y I=>by have:=hN (i+1) y (by simpa using I);rw[<-this];congr 1;omega) λy I=>hl y (gA _ I)
   have hx:=hl x iC;have hd:(assignEach (.Name x p::r) X.env)=(false,assign (.Name x p) X.env)::assignEach r X.env:=rfl;refine⟨?_,by rw[hd,eG,b];rfl,?_⟩
   . rw[eG,List.range'_succ]
     exact FV (xh (i:=j) jr (by simpa using hN 0 x rfl) (.inl hx) (.inr hx)) a
   . rw[hd,List.findIdx?_cons,c];rfl
theorem Hh:∀(vs:LV) (pre vs0 cv:List (Option V)),vs0.length=vs.length->Q (pre++(vs.map some++cv)) H->lG (List.range' pre.length vs.length) vs (pre++(vs0++cv)) H Q
 | [],pre,vs0,cv,h,q=>by
  have:vs0= []:=List.eq_nil_of_length_eq_zero h;subst this;exact⟨rfl,q⟩
 |v::vs,pre,vs0,cv,h,q=>by
  cases vs0 with
  |nil=>cases h
  |cons o r=>
   rw[eG,List.range'_succ];refine⟨v,vs,rfl,?_⟩;show lG _ vs ((pre++(o::r++cv)).set pre.length (some v)) H Q;have e:(pre++(o::r++cv)).set pre.length (some v)=(pre++ [some v])++(r++cv):=by simp
   rw[e];have:=Hh (H:=H) (Q:=Q) vs (pre++ [some v]) r cv (by simpa using h) (by simpa using q)
   simpa using this
def uu(tup:Bool)(tg:Expr)(nm:az):Prop:=match tup,tg with
 |false,.Name x _=>nm= [x]
 |true,.Tuple es _ _=>mG es=some nm
 |_,_=>False
def gP(tup:Bool)(n:Nat):RV->Option (LR):=match tup with
 |true=>Nb n
 |false=>Nf
theorem Ge{tup md:Bool}(caps:List (Nat×Str)){osc:Scope}{oN:az}(htg:uu tup tg nm)
 (hc:X.calm=true) (hi:gH X tg iter ti)
 (hif:∀cl C s H fp,pH (cZ X scope cl C (nm++caps.map Prod.snd) s H fp) ifs tt)
 (hel:∀cl C s H fp,ah (cZ X scope cl C (nm++caps.map Prod.snd) s H fp) elt te)
 (hX:X.env.scope=osc) (hN:X.N=oN)
 (fE:∀p∈caps,oN[p.1]? =some p.2/\scope.names.lookup p.2=some .free/\(osc.names.lookup p.2=some .cell∨osc.names.lookup p.2=some .free))
 (eR:∀y∈scope.names,y.2= .free->(osc.names.lookup y.1=some .cell∨osc.names.lookup y.1=some .free))
 (bC:∀y∈scope.names,y.2≠.cell) (bI:scope.kind= .function) (cq:∀y∈scope.names,y.2= .local->scope.names.lookup y.1=some .local) (hx:∀x∈nm,scope.names.lookup x=some .local) (jr:(nm++caps.map Prod.snd).Nodup)
 (hs:∀v,foldedSetIterable iter X.env v=pure v) {s:Shared} (I:Inv X pins σ0 H s) (hw:up X.K (qx (gP tup nm.length) md ti (caps.map Prod.fst) tt te) σ0 H Q0)
 (fin:∀(D C:Addr) (s5:Shared) (m5:bq) (H5:Hp),s5.heap.Ns C m5->(∀h',Heap.SameBut C s5.heap h'->Inv X pins σ0 H5 { s5 with heap:=h' })->Q0 (.ref D) H5->H5 C=none->C≠X.env.locals->X.s₀.heap.objs.size<=C->(∀y c,X.env.cells.lookup y=some c->c≠C)->(∀p∈X.pn++pins,p.1≠C)->compPost (model X.prog X.w) X.A X.xe use PP (.ref D) C (.ok .next) s5):
 wpAny (model X.prog X.w) X.A (comprehension (.ListComp elt [⟨tg,iter,ifs,0⟩] scope pos) scope X.env pos' (newList []) false (eval iter X.env) use) PP X.xe s:=by
 refine Q5 (bd:=gP tup nm.length) (md:=md) (nm:=nm) caps hc hi hif hel hX hN fE eR bC bI cq (λr bs e=>?_) (λcl C s2 H2 fp pins' s6 vs0 cv H6 rv xv u bs Q1 hl I6 r6 rr6 eb hQ=>?_) hs I hw fin
 . cases tup with
   |false=>
    cases tg<;>first|(exact False.elim htg)|skip
    have htg:nm=_:=htg;subst htg;cases e;rfl
   |true=>
    cases r<;>first|(cases(show none=some bs from e))|skip
    rename_i xs;have e':(if xs.length=nm.length then some xs else none)=some bs:=e
    split at e'
    . rename_i hh;cases e';exact hh
    . cases e'
 . have hls:∀x∈nm,(cZ X scope cl C (nm++caps.map Prod.snd) s2 H2 fp).env.scope.names.lookup x=some .local:=λx h=>lookup_relabel_local (hx x h)
   cases tup with
   |false=>
    cases tg<;>first|(exact False.elim htg)|skip
    rename_i x px;have htg:nm=_:=htg;subst htg;cases eb;obtain⟨v0,rfl⟩:=List.length_eq_one_iff.mp hl;have hx0:=hls x (by simp)
    refine aA (xh (X:=cZ X scope cl C (x::caps.map Prod.snd) s2 H2 fp) (i:=0) jr rfl (.inl hx0) (.inr hx0) _ s6 _ H6 xv u (λσ' H'=>σ'=(some xv::cv)/\H'=H6) I6 r6 ⟨rfl,rfl⟩) λ_ s7 h7=>?_
    obtain⟨σ7,H7,I7,q7,q7'⟩:=h7;subst q7 q7';exact hQ [xv] s7 (ab.cons rr6 ab.nil) I7
   |true=>
    cases tg<;>first|(exact False.elim htg)|skip
    rename_i es tk tp;have htg:mG es=some nm:=htg;cases rv<;>first|(cases(show none=some bs from eb))|skip
    rename_i xs;have e':(if xs.length=nm.length then some xs else none)=some bs:=eb
    split at e'
    . rename_i hh;cases e'
      simp only[Rep]at rr6;obtain⟨pa,pvs,rfl,sq6,rp6⟩:=rr6;have hlen:pvs.length=nm.length:=by rw[<-rp6.length];exact hh
      obtain⟨g1,g2,g3⟩:=Fy (X:=cZ X scope cl C (nm++caps.map Prod.snd) s2 H2 fp) (es:=es) (xs:=nm) es nm 0 htg jr (λi x e=>by
       show(nm++caps.map Prod.snd)[0+i]? =some x;rw[Nat.zero_add,List.getElem?_append_left (List.getElem?_eq_some_iff.mp e).1];exact e) hls
      have pg:PG (cZ X scope cl C (nm++caps.map Prod.snd) s2 H2 fp) (.Tuple es tk tp) (Dr X.K nm.length (lG (List.range' 0 nm.length))):=HE (n:=nm.length) hc g1 g2 g3;refine aA (pg _ s6 _ H6 _ u (λσ' H'=>σ'=(pvs.map some++cv)/\H'=H6) I6 r6 ⟨pa,pvs,rfl,bS.of sq6,hlen,?_⟩) λ_ s7 h7=>?_
      . have:=Hh (H:=H6) (Q:=λσ' H'=>σ'=(pvs.map some++cv)/\H'=H6) pvs [] vs0 cv (by rw[hlen];exact hl) ⟨rfl,rfl⟩
        rw[hlen]at this;exact this
      . obtain⟨σ7,H7,I7,q7,q7'⟩:=h7
        subst q7 q7';exact hQ pvs s7 rp6 I7
    . cases e'
end
def fZ:RV->Option Key
 | .int i=>some (.inl i)
 | .str x=>some (.inr x)
 |_=>none
def fR(kvs:List (Key×α))(k:Key):Option α:=(kvs.find? λp=>decide (p.1=k)).map (·.2)
theorem qi{K:ag}{a:RV}{x:V}(e:fZ a=some k)(r:Rep K H a x):x=kV k:=by
 cases a with
 |int i=>cases e;simp only[Rep]at r;exact r
 |str y=>cases e;simp only[Rep]at r;exact r
 |_=>cases e
theorem vX{K:ag}:∀{kvs:bW} {ws:List (Key×V)},aF K H kvs ws->(∀r,fR kvs k=some r->∃v,fX ws k=some v/\Rep K H r v)/\(fR kvs k=none->fX ws k=none)
 | [],ws,h=>by
  have h:ws= []:=h;subst h;exact⟨λr e=>(by cases e),λ_=>rfl⟩
 |(j,x)::t,ws,h=>by
  obtain⟨v,u,rfl,h1,h2⟩:=h;have J:=vX (k:=k) h2;unfold fR;rw[List.find?_cons]
  by_cases I:j=k
  . rw[decide_eq_true (show(j,x).1=k from I)]
    refine⟨λr e=>⟨v,tj (p:=(j,v)) I,?_⟩,λe=>(by cases e)⟩
    cases e;exact h1
  . rw[decide_eq_false (show ¬(j,x).1=k from I)]
    refine⟨λr e=>?_,λe=>?_⟩
    . rw[oI (p:=(j,v)) I];exact J.1 r e
    . rw[oI (p:=(j,v)) I];exact J.2 e
structure KTab(P:Program)(w:World)(K:ag)(mg:bq)(x:Str)(kvs:bW):Prop where
 ex:∃(a:Addr) (vs:List (Key×Value)) (ws:List (Key×V)),mg x=some (.ref a)/\(a==sysModules)=false/\(∀h:Heap,K.In h->h.DictOf (eM P w) a vs)/\KV ws vs/\∀H,aF K H kvs ws
def uk(w:World):List DictEntry->List (Str×Value)->Prop
 | [],[]=>True
 |e::es,(x,v)::r=>(∃t,e.key= .str x t)/\e.hash=hashStr w x/\e.val=v/\uk w es r
 |_,_=>False
theorem Ew{P:Program}{w:World}:∀{es:List DictEntry} {vs:List (Str×Value)},uk w es vs->
 (∀e∈es,∃k,(eM P w).is k e.key=true/\e.hash=(eM P w).hash k)/\Pairs (eM P w) es (vs.map λp=>((Sum.inr p.1:Key),p.2))
 | [],[],_=>⟨λ_ h=>(by cases h),Pairs.nil⟩
 |e::es,(x,v)::r,h=>by
  obtain⟨⟨t,h1⟩,h2,Y,Z⟩:=h;obtain⟨J,W⟩:=Ew (P:=P) (w:=w) Z;have hi:(eM P w).is (.inr x) e.key=true:=by rw[h1];exact Er P w x t
  refine⟨λe' I=>?_,?_⟩
  . rcases cj.mp I with rfl|I
    . exact⟨.inr x,hi,h2⟩
    . exact J e' I
  . subst Y
    exact Pairs.cons hi rfl W
theorem E3:∀{l:az},l.Nodup->(l.map (Sum.inr:Str->Key)).Nodup
 | [],_=>lV
 |a::r,h=>by
  obtain⟨h1,h2⟩:=gU.mp h;rw[bT];refine gU.mpr ⟨λm=>?_,E3 h2⟩
  obtain⟨b,I,e⟩:=bu.mp m;cases e;exact h1 I
theorem Gz{P:Program}{w:World}{K:ag}{x:Str}{a:Addr}{sl:Array (cR)}{vs:List (Str×Value)}
 (Y:mg x=some (.ref a)) (l:K.lookup a=some ⟨.type "dict",none,.dict es ep,sl⟩) (J:(a==sysModules)=false) (hr:uk w es.toList vs) (Z:(vs.map Prod.fst).Nodup)
 (I:Obj.ExactDict ⟨.type "dict",none,.dict es ep,sl⟩) (hk:KV ws (vs.map λp=>((Sum.inr p.1:Key),p.2))) (hp:∀H,aF K H kvs ws):KTab P w K mg x kvs:=by
 obtain⟨h1,h2⟩:=Ew (P:=P) hr;refine⟨a,_,ws,Y,J,λh X=>⟨_,es,ep,X _ _ l,I,rfl,λe W=>h1 e (by simpa using W),h2,?_⟩,hk,hp⟩
 have:(vs.map λp=>((Sum.inr p.1:Key),p.2)).map (·.1)=(vs.map Prod.fst).map Sum.inr:=by simp[bV,Function.comp_def]
 rw[this];exact E3 Z
section
variable {X:Cx}
def xI(kvs:bW)(te:ar):ar:=λσ M Q=>te σ M λk M1=>match fZ k with
 |some key=>(match fR kvs key with|some v=>Q v M1|none=>False)
 |none=>False
theorem Nw{x:Str}{e:Expr}{p pos:Pos}(T:KTab X.prog X.w X.K X.mg x kvs)(he:ah X e te)(hs:x8 e:=by intro _ _;rfl)(hg:Gl X x:=by rfl)(hd:(x==("__debug__":Str))=false:=by decide):
 ah X (.Subscript (.Name x p) e pos) (xI kvs te):=by
 obtain⟨a,vs,ws,hm,ha,Z,hk,hr⟩:=T.ex;intro pins s Y H Q0 I h;obtain⟨σ,M,Q,J,hv,ht,hq⟩:=h;refine Gk PySem.F.slot_dict_getitem.lookup hs (oM I hg hm (aA (he pins s Y H (λv H1=>∃r M1,Rep X.K H1 r v/\Ext H H1/\View X.K H1 M1/\(match fZ r with
  |some key=>(match fR kvs key with|some v=>Q v M1|none=>False)
  |none=>False)) I ⟨σ,M,_,J,hv,ht,λr M1 v H1 q e w r1=>⟨r,M1,r1,e,w,q⟩⟩) λiv s2 ⟨y,H2,I2,ry,r,M2,rr,e2,w2,q2⟩=>?_) hd)
 have dd:=Z _ I2.et;refine⟨dd.typeIs,?_⟩;cases ek:fZ r with
 |none=>rw[ek]at q2;exact q2.elim
 |some key=>
  rw[ek]at q2;simp only at q2;cases el:fR kvs key with
  |none=>rw[el]at q2;exact q2.elim
  |some rv=>
   rw[el]at q2;simp only at q2;obtain⟨v,e1,r1⟩:=(vX (k:=key) (hr H2)).1 rv el;have:=qi ek rr;subst this;obtain⟨w',hw,W⟩:=bN.some_of (v:=v) (o:=valueAt vs key) (by rw[<-e1];exact hk.val key)
   exact wpAny_getItem_of (lD ry) dd.mapOf hw ⟨v,H2,I2.tok _,W,hq rv M2 v H2 q2 e2 w2 r1⟩
theorem P0{K:ag}{vs:List (Key×Value)}(hk:KV ws vs)(I:aF K H kvs ws):(valueAt vs key).isSome=(fR kvs key).isSome:=by
 rw[<-(hk.val key).bb];cases el:fR kvs key with
 |none=>rw[(vX (k:=key) I).2 el];rfl
 |some rv=>obtain⟨v,e1,_⟩:=(vX (k:=key) I).1 rv el;rw[e1];rfl
def drop(M:RM)(p:Addr):RM:=λb=>if b=p then none else M b
def vB(l:List (Str×Int)):bW:=l.map λp=>((Sum.inr p.1:Key),RV.int p.2)
def Be(l:List (Str×Int)):List (Key×V):=l.map λp=>((Sum.inr p.1:Key),V.int p.2)
theorem Ij{K:ag}:∀l:List (Str×Int),aF K H (vB l) (Be l)
 | []=>rfl
 |p::r=>⟨V.int p.2,Be r,rfl,by simp only[Rep],Ij r⟩
end
theorem Xm{P:Program}{w:World}{K:ag}{x qual:Str}{st:Stmt}{sp:bX}{t:dR}(F:rh K x qual st f fd)(S:qk N ps (fW st))
 (len:∀rs M Q,sp rs M Q->rs.length=ps.length)
 (term:∀(cdv:Value),fd.code=cdv->∀(A:Around) (outer:List Env) (s:Shared) (H:Hp) (E:XK),aH k (A.deeper (envOfC qual (fW st) s.heap.objs.size f cdv))->jB (mN fz P w K mg base N qual (fW st) f cdv A outer s H E).p7 (oQ st) t)
 (body:∀rs M Q,sp rs M Q->t { nx:=λ_ M'=>Q .ak M',rt:=Q } (iK N rs) M):dz P w K mg base fz (k+1) f fd ps (fS K sp):=by
 refine F.ok S (λvs H Q0 E h=>?_) λcdv hcd A outer s H vs Q0 E hr h=>?_
 . obtain⟨rs,M,Q,rr,hv,hq,hk⟩:=h
   rw[<-rr.length];exact len rs M Q hq
 . obtain⟨rs,M,Q,rr,hv,hq,hk⟩:=h
   refine⟨_,term cdv hcd A outer s H E hr,iK N rs,M,{ nx:=λ_ M'=>Q .ak M',rt:=Q },P8 rr,hv,body rs M Q hq,⟨λσ M' σ0 H' q e w r=>hk .ak M' .ak H' q e w (by simp only[Rep]),hk,λ_ _ _ _ z=>z.elim,λ_ _ _ _ z=>z.elim⟩⟩
theorem VH:bootBuiltins "len" =some (.builtin "len"):=by decide+kernel
theorem Oq:bootBuiltins "isinstance" =some (.builtin "isinstance"):=by decide+kernel
theorem VG:bootBuiltins "ord" =some (.builtin "ord"):=by decide+kernel
theorem VJ:bootBuiltins "all" =some (.builtin "all"):=by decide+kernel
theorem Gg:bootBuiltins "tuple" =some (.type "tuple"):=by decide+kernel
theorem xb:bootBuiltins "list" =some (.type "list"):=by decide+kernel
theorem Ip:bootBuiltins "int" =some (.type "int"):=by decide+kernel
theorem Uc:bootBuiltins "bool" =some (.type "bool"):=by decide+kernel
theorem VX:bootBuiltins "str" =some (.type "str"):=by decide+kernel
section
variable {X:Cx}{pos:Pos}
theorem SQ(J:X.mg "int" =none)(I:Gl X "int":=by rfl):ah X (.Name "int" pos) (rC (.ty "int")):=uc J Ip (v:=.ty "int") rfl (λH=>by simp only[Rep]) I
theorem RU(J:X.mg "bool" =none)(I:Gl X "bool":=by rfl):ah X (.Name "bool" pos) (rC (.ty "bool")):=uc J Uc (v:=.ty "bool") rfl (λH=>by simp only[Rep]) I
theorem SO(J:X.mg "str" =none)(I:Gl X "str":=by rfl):ah X (.Name "str" pos) (rC (.ty "str")):=uc J VX (v:=.ty "str") rfl (λH=>by simp only[Rep]) I
theorem Qe(J:X.mg "tuple" =none)(I:Gl X "tuple":=by rfl):ah X (.Name "tuple" pos) (rC (.ty "tuple")):=uc J Gg (v:=.ty "tuple") rfl (λH=>by simp only[Rep]) I
theorem RT(J:X.mg "list" =none)(I:Gl X "list":=by rfl):ah X (.Name "list" pos) (rC (.ty "list")):=uc J xb (v:=.ty "list") rfl (λH=>by simp only[Rep]) I
def AX(mg:bq)(x:Str)(i:Int):Prop:=∃t,mg x=some (.int i t)
theorem X9{x:Str}{i:Int}(h:AX X.mg x i)(I:Gl X x:=by rfl)(hd:(x==("__debug__":Str))=false:=by decide):ah X (.Name x pos) (rC (.int i)):=by
 obtain⟨t,J⟩:=h;exact Jd J (v:=.int i) ⟨t,rfl⟩ (λH=>by simp only[Rep]) I hd
def uC(K:ag)(a:Addr)(I:az):Prop:=∃(o:Obj) (ae:Array Value) (n:Nat),K.lookup a=some o/\o.cls= .type "tuple"/\o.data= .seq ae n/\ae.size<=sizeLine/\Vals (I.map V.str) ae.toList
def pG(K:ag)(mg:bq)(x:Str)(I:az):Prop:=∃a,mg x=some (.ref a)/\uC K a I
def K1(K:ag)(I:az):ar:=λ_ M Q=>∀p,uC K p I->Q (.ref p) M
theorem Lc{x:Str}(h:pG X.K X.mg x ss)(I:Gl X x:=by rfl)(hd:(x==("__debug__":Str))=false:=by decide):ah X (.Name x pos) (K1 X.K ss):=by
 obtain⟨a,J,W⟩:=h;refine PE.imp (Jd (r:=.ref a) J (v:=.ref a) rfl (λH=>by simp only[Rep]) I hd) λσ0 H Q0 h=>?_
 obtain⟨σ,M,Q,hs,Z,Y,hk⟩:=h;exact⟨σ,M,Q,hs,Z,Y a W,hk⟩
end
theorem Tf{K:ag}{x:Str}{a:Addr}{I:az}{ae:Array Value}{n:Nat}{sl:Array (cR)}(J:mg x=some (.ref a))(l:K.lookup a=some ⟨.type "tuple",d,.seq ae n,sl⟩)(hz:ae.size<=sizeLine)
 (W:Vals (I.map V.str) ae.toList):pG K mg x I:=⟨a,J,_,ae,n,l,rfl,rfl,hz,W⟩
structure Iu(N:az)(sc:Scope):Prop where
 nd:N.Nodup
 loc:∀x∈N,sc.names.lookup x=some .local∨sc.names.lookup x=some .cell
 iG:∀x∈N,(x==("__debug__":Str))=false/\(x==("__classdict__":Str))=false
section
variable {X:Cx}{x:Str}{pos pos':Pos}
structure Lq(X:Cx):Prop where
 yg:∀x∈X.N,pU X.env.scope x
 iG:∀x∈X.N,(x==("__debug__":Str))=false/\(x==("__classdict__":Str))=false
theorem Lx{scope:Scope}{s:Shared}(h:scope.names.lookup x=some .globalImplicit):Gl (cZ X scope cl C Nc s H fp) x:=by
 show(scope.names.map (gh X.env)).lookup x=_;rw[vQ];rw[vR]at h;cases e:scope.names.find? λp=>x==p.1 with
 |none=>rw[e]at h;cases h
 |some p=>
  rw[e]at h;have h':p.2= .globalImplicit:=Option.some.inj h;show some (gh X.env p).2=_;rcases zx X.env p with z|z
  . rw[z,h']
  . rw[h']at z;cases z.2
end
def Ai(w:World):List DictEntry->List (Str×Int)->Prop
 | [],[]=>True
 |e::es,(x,i)::r=>(∃t,e.key= .str x t)/\e.hash=hashStr w x/\(∃t,e.val= .int i t)/\Ai w es r
 |_,_=>False
theorem HP{w:World}:∀{es:List DictEntry} {l:List (Str×Int)},Ai w es l->∃vs:List (Str×Value),uk w es vs/\vs.map Prod.fst=l.map Prod.fst/\KV (Be l) (vs.map λp=>((Sum.inr p.1:Key),p.2))
 | [],[],_=>⟨[],trivial,rfl,.nil⟩
 |e::es,(x,i)::r,h=>by
  obtain⟨h1,h2,⟨t,I⟩,J⟩:=h;obtain⟨vs,a,b,c⟩:=HP J;exact⟨(x,.int i t)::vs,⟨h1,h2,I,a⟩,by simp[b],.cons ⟨rfl,t,rfl⟩ c⟩
theorem RH{P:Program}{w:World}{K:ag}{x:Str}{a:Addr}{l:List (Str×Int)}
 (W:mg x=some (.ref a)) (lk:K.lookup a=some ⟨.type "dict",none,.dict es ep,#[]⟩) (J:(a==sysModules)=false) (Z:Ai w es.toList l) (Y:(l.map Prod.fst).Nodup):KTab P w K mg x (vB l):=by
 obtain⟨vs,h1,h2,I⟩:=HP Z;exact Gz W lk J h1 (by rw[h2];exact Y) ⟨rfl,rfl,rfl⟩ I λH=>Ij l
theorem Hb{e:Value->Bool}{p:RV->Bool}:∀{xs:LR} {us:au},ay h xs us->(∀x∈xs,∀u,Den h x u->e u=p x)->us.any e=xs.any p
 | [],us,d,_=>by simp only[ay]at d;subst d;rfl
 |x::xs,us,d,k=>by
  simp only[ay]at d;obtain⟨u,r,rfl,d1,d2⟩:=d;rw[jE,jE,k x iC u d1,Hb d2 λy I=>k y (gA _ I)]
theorem GW:∀{xs:LR} {us:au},ay h xs us->∀u∈us,∃x∈xs,Den h x u
 | [],us,d,u,I=>by simp only[ay]at d;subst d;cases I
 |x::xs,us,d,u,I=>by
  simp only[ay]at d;obtain⟨w,r,rfl,d1,d2⟩:=d;rcases cj.mp I with rfl|I
  . exact⟨x,iC,d1⟩
  . obtain⟨y,W,J⟩:=GW d2 u I
    exact⟨y,gA _ W,J⟩
open Classical in
noncomputable def lZ (h:Heap)(a:RV)(w:Value):Bool:=if q:∃r,aB 15 r=true/\Den h r w then bA (choose q) a else false
theorem Il{a x:RV}(o:aB 15 x=true)(d:Den h x u):lZ h a u=bA x a:=by
 have q:∃r,aB 15 r=true/\Den h r u:=⟨x,o,d⟩;unfold lZ;rw[dif_pos q];have e:=zN 15 _ x u (Classical.choose_spec q).1 o (Classical.choose_spec q).2 d;rw[e]
def inR(x:RV)(xs:LR):Bool:=xs.any λy=>bA y x
def xP(neg:Bool):cA:=λx y M Q=>match y with
 | .tup xs=>aB 15 x=true/\xs.all (aB 15)=true/\Q (.bl (if neg then !inR x xs else inR x xs)) M
 | .ls xs=>aB 15 x=true/\xs.all (aB 15)=true/\Q (.bl (if neg then !inR x xs else inR x xs)) M
 |_=>False
section
variable {X:Cx}
theorem tJ{s:Shared}{A:Around}{xs:LR}{ae:au}{a:RV}{v:Value}(W:A.units+15<cLine)(os:xs.all (aB 15)=true)(Z:aB 15 a=true)(d:ay s.heap xs ae)(da:Den s.heap a v):
 (∀w,w∈ae.toArray->SeqAt.EqAt A s w v (lZ s.heap a w))/\ae.toArray.any (lZ s.heap a)=inR a xs:=by
 have I:∀x∈xs,aB 15 x=true:=by simpa[gB]using os
 refine⟨λw Y=>?_,?_⟩
 . obtain⟨x,hx,dx⟩:=GW d w (by simpa using Y)
   rw[Il (I x hx) dx];exact zt 15 x a A s w v (I x hx) Z dx da W
 . rw[show ae.toArray.any (lZ s.heap a)=ae.any (lZ s.heap a) by simp]
   exact Hb d λx hx u J=>Il (I x hx) J
theorem xy{xs:LR}(os:xs.all (aB 15)=true):aB 16 (.tup xs)=true/\aB 16 (.ls xs)=true:=⟨os,os⟩
theorem LQ(hu:X.A.units+64<cLine):cY X (compareOp .In) (xP false):=by
 intro pins s σ H x y v u Q0 I rx ry h;obtain⟨a,b,M,Q,ra,rb,Z,J,hk⟩:=h;cases b with
 |tup xs=>
  obtain⟨W,os,J⟩:=J;have d:=jf I 16 (.tup xs) y u (xy os).1 rb ry;simp only[Den]at d;obtain⟨p,ae,rfl,Y,ds⟩:=d;have z:=tJ (A:=X.A.in1) (by rw[in1_units];omega) os W ds (jf I 15 a x v W ra rx)
  refine SeqAt.in_tupleAt _ Y z.1 ⟨.bl (inR a xs),H,I,by rw[z.2];rfl,hk _ M _ H J (.refl H) Z (by simp only[Rep];rfl)⟩
 |ls xs=>
  obtain⟨W,os,J⟩:=J;have d:=jf I 16 (.ls xs) y u (xy os).2 rb ry;simp only[Den]at d;obtain⟨p,ae,rfl,Y,ds⟩:=d;have z:=tJ (A:=X.A.in1) (by rw[in1_units];omega) os W ds (jf I 15 a x v W ra rx)
  refine SeqAt.in_listAt _ Y z.1 ⟨.bl (inR a xs),H,I,by rw[z.2];rfl,hk _ M _ H J (.refl H) Z (by simp only[Rep];rfl)⟩
 |_=>exact(show False from J).elim
theorem VA(hu:X.A.units+64<cLine):cY X (compareOp .NotIn) (xP true):=by
 intro pins s σ H x y v u Q0 I rx ry h;obtain⟨a,b,M,Q,ra,rb,Z,J,hk⟩:=h;cases b with
 |tup xs=>
  obtain⟨W,os,J⟩:=J;have d:=jf I 16 (.tup xs) y u (xy os).1 rb ry;simp only[Den]at d;obtain⟨p,ae,rfl,Y,ds⟩:=d;have z:=tJ (A:=X.A.in1) (by rw[in1_units];omega) os W ds (jf I 15 a x v W ra rx)
  refine SeqAt.notIn_tupleAt _ Y z.1 ⟨.bl (!inR a xs),H,I,by rw[z.2];rfl,hk _ M _ H J (.refl H) Z (by simp only[Rep];rfl)⟩
 |ls xs=>
  obtain⟨W,os,J⟩:=J;have d:=jf I 16 (.ls xs) y u (xy os).2 rb ry;simp only[Den]at d;obtain⟨p,ae,rfl,Y,ds⟩:=d;have z:=tJ (A:=X.A.in1) (by rw[in1_units];omega) os W ds (jf I 15 a x v W ra rx)
  refine SeqAt.notIn_listAt _ Y z.1 ⟨.bl (!inR a xs),H,I,by rw[z.2];rfl,hk _ M _ H J (.refl H) Z (by simp only[Rep];rfl)⟩
 |_=>exact(show False from J).elim
def DQ:LR->RM->aj->Prop:=λrs M Q=>match rs with
 | [.str x]=>x.length=1/\Q (.int (x.cps.getD 0 0:Nat)) M
 |_=>False
theorem Nq:dw X (.builtin "ord") (fC X.K DQ):=by
 intro pins s σ H xs us Q0 I rl h;obtain⟨rs,M,Q,W,Z,J,hk⟩:=h
 match rs,J with
 | [.str x],J=>
  obtain⟨Y,J⟩:=J;simp only[ab,Rep]at W;obtain⟨v,r,rfl,rfl,rfl⟩:=W;exact Sq pins s σ H _ us Q0 I rl ⟨x,rfl,Y,hk _ M _ H J (.refl H) Z (by simp only[Rep])⟩
def xN(K:ag)(neg:Bool):cA:=λx y M Q=>match y with
 | .ref p=>∃I,uC K p I/\aB 15 x=true/\Q (.bl (if neg then !inR x (I.map RV.str)else inR x (I.map RV.str))) M
 |_=>False
theorem Fn:∀{I:az} {ae:au},Vals (I.map V.str) ae->ay h (I.map RV.str) ae
 | [],_,r=>by rw[pS]at r;cases r;simp only[pS,ay]
 |s::I,_,r=>by
  rw[bT]at r;cases r with
  |cons a t=>rw[bT];simp only[ay,Den];exact⟨_,_,rfl,a,Fn t⟩
theorem Ho{s:Shared}(hu:X.A.units+64<cLine)(I:Inv X pins σ H s){a:RV}{x:V}{v:Value}{p:Addr}(Y:uC X.K p ss)(W:aB 15 a=true)(ra:Rep X.K H a x)(rx:RelV x v):
 ∃ae:au,IsTup s.heap p ae.toArray/\(∀w,w∈ae.toArray->SeqAt.EqAt X.A.in1 s w v (lZ s.heap a w))/\ae.toArray.any (lZ s.heap a)=inR a (ss.map RV.str):=by
 obtain⟨ae,J,Z,_⟩:=I.tuple (a:=p) (xs:=ss.map V.str) (.inr Y);have os:(ss.map RV.str).all (aB 15)=true:=by simp[gB,aB]
 have z:=tJ (A:=X.A.in1) (by rw[in1_units];omega) os W (Fn J) (jf I 15 a x v W ra rx)
 exact⟨ae,Z,z.1,z.2⟩
theorem NS(Z:X.A.units+64<cLine):cY X (compareOp .In) (xN X.K false):=by
 intro pins s σ H x y v u Q0 I rx ry h;obtain⟨a,b,M,Q,ra,rb,hv,J,hk⟩:=h;cases b with
 |ref p=>
  obtain⟨ss,W,oa,J⟩:=J;simp only[Rep]at rb;subst rb;cases(show u=Value.ref p from ry)
  obtain⟨ae,Y,z1,z2⟩:=Ho Z I W oa ra rx;exact SeqAt.in_tupleAt _ Y z1 ⟨.bl (inR a (ss.map RV.str)),H,I,by rw[z2];rfl,hk _ M _ H J (.refl H) hv (by simp only[Rep];rfl)⟩
 |_=>exact(show False from J).elim
theorem TM(Z:X.A.units+64<cLine):cY X (compareOp .NotIn) (xN X.K true):=by
 intro pins s σ H x y v u Q0 I rx ry h;obtain⟨a,b,M,Q,ra,rb,hv,J,hk⟩:=h;cases b with
 |ref p=>
  obtain⟨ss,W,oa,J⟩:=J;simp only[Rep]at rb;subst rb;cases(show u=Value.ref p from ry)
  obtain⟨ae,Y,z1,z2⟩:=Ho Z I W oa ra rx;exact SeqAt.notIn_tupleAt _ Y z1 ⟨.bl (!inR a (ss.map RV.str)),H,I,by rw[z2];rfl,hk _ M _ H J (.refl H) hv (by simp only[Rep];rfl)⟩
 |_=>exact(show False from J).elim
def qS(neg:Bool)(I:az)(ty:ar):ar:=λσ M Q=>ty σ M λx M1=>aB 15 x=true/\Q (.bl (if neg then !inR x (I.map RV.str)else inR x (I.map RV.str))) M1
def Dj:LR->RM->aj->Prop:=λrs M Q=>∃bs:List Bool,rs= [.ls (bs.map RV.bl)]/\Q (.bl (bs.all id)) M
theorem zL{K:ag}:∀{bs:List Bool} {vs:LV},ab K H (bs.map RV.bl) vs->vs=bs.map V.bl
 | [],vs,h=>by simpa only[pS,ab]using h
 |b::bs,vs,h=>by
  simp only[bT,ab,Rep]at h;obtain⟨v,r,rfl,rfl,h2⟩:=h;rw[zL h2];rfl
theorem zH:∀{bs:List Bool} {us:au},Vals (bs.map V.bl) us->us=bs.map Value.bool
 | [],us,h=>by cases h;rfl
 |b::bs,us,h=>by
  obtain⟨u,r,rfl,h1,h2⟩:=Vals.cons_inv h;cases h1;rw[zH h2];rfl
theorem range_all(bs:List Bool):(List.range bs.length).all (λi=>bs.getD i true)=bs.all id:=by
 induction bs with
 |nil=>rfl
 |cons b bs ih=>
  rw[eG,yl,ff,List.all_map,ff];have:((λi=>(b::bs).getD i true) ∘ Nat.succ)=λi=>bs.getD i true:=by funext i;rfl
  rw[this,ih];rfl
theorem Ss(hc:X.calm=true):dw X (.builtin "all") (fC X.K Dj):=by
 intro pins s σ H xs us Q0 I rl h;obtain⟨rs,M,Q,rr,hv,⟨bs,rfl,hq⟩,hk⟩:=h;obtain⟨v,rfl,r1⟩:=rr.one;simp only[Rep]at r1;obtain⟨a,vs,rfl,h1,h2⟩:=r1;have:=zL h2;subst this;obtain⟨u,rfl,ru⟩:=rl.one;cases ru;obtain⟨ae,rv,p,hz⟩:=I.list h1.sq;have:=zH rv;subst this;have hlt:a<s.heap.objs.size:=by obtain⟨o,n,e,_⟩:=p;exact bG e
 refine call_all_walk (wpAny_pyIter_list p.isList ?_);have hd:X.A.in1.handled=none:=I.ok.hd hc;refine⟨s.heap.objs.size,_,_,_,_,_,λi=>bs.getD i true,rfl,Walks.list hd s.heap.objs.size a (cW hlt) (bs.map Value.bool).toArray,⟨⟨_,Heap.get?_push_size _ rfl,rfl,rfl⟩,p.isList.push _⟩,?_,?_⟩
 . intro i v s' Q' E' hP Y
   have J:(bs.map Value.bool)[i]? =some v:=by simpa using hP
   rw[List.getElem?_map]at J;cases e:bs[i]? with
   |none=>rw[e]at J;cases J
   |some b=>
    rw[e]at J;have Z:bs.getD i true=b:=by rw[List.getD_eq_getElem?_getD,e];rfl
    cases J;have W:Q' (bs.getD i true) s':=Y;rw[Z]at W;exact wpAny_truthy_bool W
 . intro h' tk hk'
   have I1:Inv X pins σ H { s with heap:=s.heap.push { cls:=.type "list_iterator",data:=.fields #[.ref a,.int 0 0] } }:=I.kept (t':=s.toks) λb o e=>Heap.get?_push_of_some _ e
   obtain⟨f0,f1,f2,f3,f4,f5⟩:=I.fK (aU _) (I.av.fresh (aU _));have I2:Inv X pins σ H { s with heap:=h',toks:=tk }:=by
    have z:=I1.turned (h':=h') (t':=tk) (it:=s.heap.objs.size) (λb o Z e=>hk' b o (by simpa using Z) e) f0 f1 f3 f4 f5
    exact z
   refine⟨.bl (bs.all id),H,I2,?_,hk _ M _ H hq (.refl H) hv (by simp only[Rep])⟩
   show _=_;rw[<-range_all];simp
def uV(x:Str):It:=⟨λi _=>i<x.cps.size,λi H v H'=>H'=H/\∃c,x.cps[i]? =some c/\v= .str ⟨#[c]⟩,λi _=>x.cps.size<=i⟩
def lx(x:Str):LR:=x.cps.toList.map λc=>.str ⟨#[c]⟩
theorem FK{P:Program}{w:World}{K:ag}(it)(n:String)(x:Str)(t)
 (hn:["enumerate","zip","dict_itemiterator","dict_reverseitemiterator","odict_iterator","itertools.zip_longest","itertools.pairwise"].contains n=false)
 (W:∀A:Around,A.handled=none->Walks P w A it [it] [it] x.cps.size (SignAt x) (λi h=>h.IsStrIter it n x t i))
 (Z:∀(A:Around) (i:Nat) (s:Shared) (Q:cR->Shared->Prop) (E:aP),A.handled=none->s.heap.IsStrIter it n x t i->x.cps.size<=i->(∀h',(∀b o,b≠it->s.heap.get? b=some o->h'.get? b=some o)->Q none { s with heap:=h' })->wpAny (model P w) A (pyNext (.ref it)) Q E s)
 (Y:∀A i s Q E,s.heap.IsStrIter it n x t i->Q (.ref it) s->wpAny (model P w) A (pyIter (.ref it)) Q E s):
 Turn P w K tg (uV x) [it] it (λi h=>h.IsStrIter it n x t i) where
 mem:=by simp
 obj:=λi h st b J=>by
  have e:b=it:=by simpa using J
  subst e;obtain⟨o,e,c,d⟩:=st;exact⟨o,e,λv z=>by rw[d]at z;cases z⟩
 keep:=λi h h' st k=>by
  obtain⟨o,e,r⟩:=st;exact⟨o,k it (by simp) o e,r⟩
 item:=by
  intro X hP hw hK hc i pins s σ H E I hf st hg;subst hP hw hK;obtain⟨f0,f1,f2,f3,f4,f5⟩:=hf it (by simp)
  refine(W X.A (I.ok.hd hc)).item i s _ _ hg st λv h' tk hv st' kk=>?_
  obtain⟨c,u,hcu,rfl⟩:=hv;have I1:Inv X pins σ H { s with heap:=h',toks:=tk }:=I.turned (λb o J e=>kk b o (by simpa using J) e) f0 f1 f3 f4 f5
  obtain⟨o,e,hcl,hd⟩:=id st';exact⟨_,rfl,uo (s:={ s with heap:=h',toks:=tk }) (n:=n) e hcl hd hn ⟨.str ⟨#[c]⟩,H,I1,⟨u,rfl⟩,⟨rfl,c,hcu,rfl⟩,st',λb J=>(hf b J).1⟩⟩
 done:=by
  intro X hP hw hK hc i pins s σ H E I hf st hg;subst hP hw hK;obtain⟨f0,f1,f2,f3,f4,f5⟩:=hf it (by simp)
  exact Z X.A i s _ _ (I.ok.hd hc) st hg λh' eb=>⟨rfl,I.turned (t':=s.toks) (λb o J e=>eb b o J e) f0 f1 f3 f4 f5⟩
 self:=Y
theorem HS{K:ag}{H1:Hp}(x)(es:Ext Hs H1):iz H0 Hs K (uV x) (lx x) cV id H1 where
 turn:=λi H M e _ _ r J=>by
  have hi:i<x.cps.size:=by have:=(List.getElem?_eq_some_iff.mp J).1;simpa[lx]using this
  refine⟨hi,λv' H' y=>?_⟩
  obtain⟨rfl,c,I,rfl⟩:=y;refine⟨.refl _,λ_ w=>w,?_⟩
  have:r= .str ⟨#[c]⟩:=by
   have h2:x.cps.toList[i]? =some c:=by simpa using I
   simp only[lx,List.getElem?_map,h2,Option.map_some,Option.some.injEq]at J;exact J.symm
  subst this;simp only[Rep]
 stop:=λi H M e _ _ hi=>by
  have:(lx x).length=x.cps.size:=by simp[lx]
  rw[this]at hi;exact hi
 cu:=mn es
def CZ(te:ar):gn:=λσ M Q=>te σ M λv M1=>match v with| .str x=>Q (lx x) cV id M1|_=>False
theorem NW{l:Expr}(hl:ah X l te):gH X tg l (CZ te):=by
 intro pins s Z H R I h;obtain⟨σ,M,Q,hs,hv,ht,hk⟩:=h;refine aA (hl pins s Z H (λv H1=>∃x M1,v= .str x/\Q (lx x) cV id M1/\Ext H H1/\View X.K H1 M1) I ⟨σ,M,_,hs,hv,ht,λrv M1 v H1 q e1 Y r1=>?_⟩) λv s1 ⟨xv,H1,I1,r1,q1⟩=>?_
 . cases rv with
   |str x=>simp only[Rep]at r1;exact⟨x,M1,r1,q,e1,Y⟩
   |_=>exact(show False from q).elim
 . obtain⟨x,M1,rfl,q,e1,Y⟩:=q1
   obtain⟨t,rfl⟩:=r1;have hf:∀b∈[s1.heap.objs.size],lL X pins H1 b:=λb hb=>by
    have e:b=s1.heap.objs.size:=by simpa using hb
    subst e;exact I1.fK (aU _) (I1.av.fresh (aU _))
   cases ha:x.cps.all (. < 128)
   . refine wpAny_pyIter_wide ha ?_
     exact⟨s1.heap.objs.size,[s1.heap.objs.size],_,uV x,H1,rfl,I1.kept (t':=s1.toks) λb o e=>Heap.get?_push_of_some _ e,FK _ "str_iterator" x t (by decide) (λA J=>Walks.strWide J _ x t) (λA i s Q E J st hi W=>wpAny_pyNext_wide_end J st (by simp;exact hi) W) (λA i s Q E st W=>wpAny_pyIter_striter_wide st W),⟨_,Heap.get?_push_size _ rfl,rfl,rfl⟩,hf,hk _ cV id M1 _ H1 q e1 Y (HS x e1)⟩
   . refine wpAny_pyIter_ascii ha ?_
     exact⟨s1.heap.objs.size,[s1.heap.objs.size],_,uV x,H1,rfl,I1.kept (t':=s1.toks) λb o e=>Heap.get?_push_of_some _ e,FK _ "str_ascii_iterator" x t (by decide) (λA J=>Walks.strAscii J _ x t) (λA i s Q E J st hi W=>wpAny_pyNext_ascii_end J st (by simp;exact hi) W) (λA i s Q E st W=>wpAny_pyIter_striter_ascii st W),⟨_,Heap.get?_push_size _ rfl,rfl,rfl⟩,hf,hk _ cV id M1 _ H1 q e1 Y (HS x e1)⟩
def xR(to:ar)(t:bR):ar:=λσ M Q=>to σ M λx M1=>match x with
 | .ref p=>(∃ys,M1 p=some (.lst ys))/\t σ M1 λrs M2=>∃ys y,rs= [y]/\M2 p=some (.lst ys)/\ys.length<sizeLine/\Q .ak (put M2 p (.lst (ys++ [y])))
 |_=>False
theorem S3{o e:Expr}{t:bR}{apos cpos:Pos}(ho:ah X o to)(ha:fv X [e] t)
 (J:attributeBase o "append" X.env (eval o X.env)=eval o X.env:=by rfl)
 (Y:((backTo cpos (starEach [e] X.env)).all (λx=>!x.1)&&(backToKw cpos (keywordEach [] X.env)).all (λx=>x.1.isSome)&&decide ([e].length+([]:List Keyword).length+(if([]:List Keyword).isEmpty then 0 else 1)<30))=true:=by rfl)
 (W:(apos.endLine==cpos.line)=true:=by rfl) (hs:starEach [e] X.env=(false,eval e X.env)::starEach [] X.env:=by rfl) (I:(backTo cpos (starEach [] X.env)).any (·.1)=false:=by rfl):
 ah X (.Call (.Attribute o "append" apos) [e] [] cpos) (xR to t):=PE.imp (W8 PySem.F.plainAttrs_list PySem.F.slot_list_append PySem.F.type_list_append QU ho ha J Y W hs I) λσ0 H Q0 h=>by
 obtain⟨σ,M,Q,hs,hv,ht,hk⟩:=h;refine⟨σ,M,_,hs,hv,ht,λrx M1 x H1 q e1 v1 r1=>?_⟩
 cases rx with
 |ref p=>
  obtain⟨⟨ys,hm⟩,q⟩:=q;simp only[Rep]at r1;subst r1;obtain⟨ho',e0,r0⟩:=v1 p _ hm;obtain⟨vs0,rfl,rr0⟩:=r0;refine⟨.inl ⟨rfl,_,cB.of e0⟩,σ,M1,_,hs.ext e1,v1,q,λrs M2 vs H2 q2 e2 v2 r2=>?_⟩
  obtain⟨ys2,y,rfl,Z,hz,q2⟩:=q2;obtain⟨v,rfl,r3⟩:=r2.one;obtain⟨ho2,e3,r4⟩:=v2 p _ Z;obtain⟨vs2,rfl,rr2⟩:=r4;have ex:Ext H2 (upd H2 p (.lst (vs2++ [v]))):=Ext.write e3 rfl;refine⟨p,vs2,v,rfl,rfl,e3,by rw[<-rr2.length];exact hz,hk _ _ _ _ q2 ((e1.trans e2).trans ex) (v2.write Z ⟨_,rfl,?_⟩) (by simp only[Rep])⟩
  exact(ab.ext ex _ _ rr2).append (ab.cons (Rep.ext ex _ _ r3) ab.nil)
 |_=>exact(show False from q).elim
def An:LR->RM->aj->Prop:=λrs M Q=>match rs with
 | [.tup xs]=>Q (.ls xs) M
 | [.ls xs]=>Q (.ls xs) M
 |_=>False
theorem XE:dw X (.type "list") (fC X.K An):=by
 intro pins s σ H xs us Q0 I rl h;obtain⟨rs,M,Q,rr,hv,J,hk⟩:=h;have Z:∀p vs ys,xs= [.ref p]->(cB X.K H p vs∨bS X.K H p vs)->ab X.K H ys vs->Q (.ls ys) M->wpAny (model X.prog X.w) X.A (call (.type "list") us) (EP X pins σ Q0) X.xe s:=by
  intro p vs ys e W Y J;subst e;refine aA (O6 pins s σ H _ us (λv H'=>∃H1 p xs,v= .ref p/\H1 p=none/\H'=upd H1 p (.lst xs)/\∀o,Q0 (.ref p) (upd H1 p (.aV o (.lst xs)))) I rl ⟨p,vs,rfl,W,λl hl=>⟨H,l,vs,rfl,hl,rfl,λo=>?_⟩⟩) λ_ _ e=>frozen e
  exact hk _ M _ _ J (Ext.new hl) (hv.new hl) (ly hl Y)
 unfold An at J;split at J
 . obtain⟨v,rfl,r1⟩:=rr.one
   simp only[Rep]at r1;obtain⟨q,vs,rfl,W,Y⟩:=r1;exact Z q vs _ rfl (.inr W) Y J
 . obtain⟨v,rfl,r1⟩:=rr.one
   simp only[Rep]at r1;obtain⟨q,vs,rfl,W,Y⟩:=r1;exact Z q vs _ rfl (.inl W.sq) Y J
 . exact J.elim
def HC(fs:List (Addr×bX))(tx:ar)(t:bR):ar:=λσ M Q=>tx σ M λv M1=>match v with
 | .ref f=>∃sp,(f,sp)∈fs/\t σ M1 λrs M2=>sp rs M2 Q
 |_=>False
theorem Uq{x:Str}{p pos:Pos}{e:Expr}{t:bR}{tx:ar}(fs:List (Addr×bX))
 (hF:∀q∈fs,∃fd ps k,aH k X.A/\PySem.W.keepIn X.K (.ref q.1)=true/\Binds X.K fd ps []/\dz X.prog X.w X.K X.mg X.base fz k q.1 fd ps (fS X.K q.2)) (hx:ah X (.Name x p) tx) (ha:fv X (e::es) t)
 (he:starEach (e::es) X.env=(false,eval e X.env)::starEach es X.env:=by rfl) (hpl:(backTo pos (starEach es X.env)).any (·.1)=false:=by rfl):ah X (.Call (.Name x p) (e::es) [] pos) (HC fs tx t):=by
 intro pins s J H Q0 I h;obtain⟨σ,M,Q,hs,hv,ht,hk⟩:=h;refine wpAny_Call_Name_kw (aA (hx pins s J H (λv H1=>∃f sp M1,v= .ref f/\(f,sp)∈fs/\Ext H H1/\View X.K H1 M1/\t σ M1 λrs M2=>sp rs M2 Q) I ⟨σ,M,_,hs,hv,ht,λrv M1 v H1 q e1 v1 r1=>?_⟩) λv s1 ⟨y,H1,I1,r1,q1⟩=>?_)
 . cases rv with
   |ref f=>simp only[Rep]at r1;obtain⟨sp,Z,q⟩:=q;exact⟨f,sp,M1,r1,Z,e1,v1,q⟩
   |_=>exact(show False from q).elim
 . obtain⟨f,sp,M1,rfl,Z,e1,v1,q⟩:=q1
   cases r1;obtain⟨fd,ps,k,hr,Y,hb,F⟩:=hF _ Z;refine yo (h₀:=X.base) I1.ok.mod.js Y (aA (ha pos pins s1 J H1 (λvs H2=>fS X.K sp (vs++ []) H2 Q0 (λ_ _ _=>False)) I1 ⟨σ,M1,_,hs.ext e1,v1,q,λrs M2 vs H2 q2 e2 v2 r2=>?_⟩) λus s2 ⟨vs,H2,I2,r,q⟩=>⟨I2.et,?_⟩) he hpl
   . exact⟨rs,M2,Q,by rw[m9];exact r2,v2,q2,hk.ext (e1.trans e2)⟩
   . exact tY F hr hb .nil oZ I2 r q
end
theorem QO{P:Program}{w:World}{vs:List (Key×Value)}(h:Pairs (eM P w) es vs):Pairs (optKind P w) es (vs.map λp=>(some p.1,p.2)):=by
 induction h with
 |nil=>exact .nil
 |cons a b _ ih=>exact .cons (kv:=(some _,_)) a b ih
theorem EG:∀{l:List Key},l.Nodup->(l.map some).Nodup
 | [],_=>lV
 |a::r,h=>by
  obtain⟨h1,h2⟩:=gU.mp h;rw[bT];refine gU.mpr ⟨λm=>?_,EG h2⟩
  obtain⟨b,I,e⟩:=bu.mp m;cases e;exact h1 I
theorem Rq{P:Program}{w:World}{h:Heap}{a:Addr}{vs:List (Key×Value)}(d:h.DictOf (eM P w) a vs):h.DictOf (optKind P w) a (vs.map λp=>(some p.1,p.2)):=by
 obtain⟨o,es,ep,h1,h2,I,J,W,Y⟩:=d;refine⟨o,es,ep,h1,h2,I,λe Z=>?_,QO W,?_⟩
 . obtain⟨k,q1,q2⟩:=J e Z
   exact⟨some k,q1,q2⟩
 . rw[bV]
   have:((λx:Option Key×Value=>x.1) ∘ λp:Key×Value=>(some p.1,p.2))=some ∘ λp=>p.1:=rfl
   rw[this,<-bV];exact EG Y
theorem TQ{vs:List (Key×Value)}:valueAt (vs.map λp=>(some p.1,p.2)) (none:Option Key)=none:=by
 unfold valueAt;rw[List.find?_eq_none.mpr]
 . rfl
 . intro x hx
   obtain⟨p,_,rfl⟩:=bu.mp hx;simp
section
variable {X:Cx}
def Ac(neg:Bool)(kvs:bW)(Q:aj):aj:=λk M1=>match fZ k with
 |some key=>Q (.bl (if neg then !(fR kvs key).isSome else(fR kvs key).isSome)) M1
 |none=>False
def wR(kvs:bW)(Q:aj):aj:=λk M1=>match k with
 | .ak=>Q (.bl true) M1
 |k=>Ac true kvs Q k M1
def zy(kvs:bW)(te:ar):ar:=λσ M Q=>te σ M (wR kvs Q)
theorem Ov{x:Str}{kvs:bW}{e:Expr}{te:ar}{p:Pos}(T:KTab X.prog X.w X.K X.mg x kvs)(he:ah X e te)(hg:Gl X x)(hd:(x==("__debug__":Str))=false):
 PC X .NotIn e (.Name x p) (up X.K (zy kvs te)):=by
 obtain⟨a,vs,ws,hm,ha,hD,hk,hr⟩:=T.ex;intro pins s σ0 H Q0 I h;obtain⟨σ,M,Q,hs',hv,ht,hq⟩:=h;refine aA (he pins s σ0 H (λv H1=>∃r M1,Rep X.K H1 r v/\Ext H H1/\View X.K H1 M1/\wR kvs Q r M1) I ⟨σ,M,_,hs',hv,ht,λr M1 v H1 q e w r1=>⟨r,M1,r1,e,w,q⟩⟩) λiv s2 zz=>?_;obtain⟨y,H2,I2,ry,r,M2,rr,e2,w2,q2⟩:=zz
 refine oM I2 hg hm ?_ hd;have dd:=hD _ I2.et
 by_cases hn:r= .ak
 . subst hn
   have q2:Q (.bl true) M2:=q2;have:y=V.ak:=by simpa only[Rep]using rr
   subst this;have:iv=Value.none:=ry;subst this;refine wpAny_notIn_of (knd:=optKind X.prog X.w) (k:=none) rfl ha (Rq dd).mapOf ?_;rw[TQ];exact⟨.bl true,H2,I2.tok _,rfl,hq _ M2 _ H2 q2 e2 w2 (by simp only[Rep])⟩
 . have q2:Ac true kvs Q r M2:=by
    cases r<;>first|exact q2|exact absurd rfl hn
   unfold Ac at q2;cases ek:fZ r with
   |none=>rw[ek]at q2;exact q2.elim
   |some key=>
    rw[ek]at q2;simp only at q2;have:=qi ek rr;subst this;refine wpAny_notIn_of (lD ry) ha dd.mapOf ?_;rw[P0 hk (hr H2)];exact⟨.bl (!(fR kvs key).isSome),H2,I2.tok _,rfl,hq _ M2 _ H2 q2 e2 w2 (by simp only[Rep];rfl)⟩
theorem Qf{x:Str}{e:Expr}{p pos:Pos}(T:KTab X.prog X.w X.K X.mg x kvs)(I:ah X e te)(J:Gl X x:=by rfl)(hd:(x==("__debug__":Str))=false:=by decide)(h1:behindInMarks .NotIn (Expr.Name x p)=false:=by with_unfolding_all rfl):
 eI X (.Compare e [.NotIn] [.Name x p] pos) (lE (zy kvs te)):=PT.imp (zT (Ov T I J hd) h1) λσ0 H Q0 h=>by
 obtain⟨σ,M,Q,hs,Y,W,hk⟩:=h;exact⟨σ,M,_,hs,Y,W,oK hk⟩
end
theorem vP{K:ag}:∀{fs:List (Str×RV)} {gs:List (Str×V)} {v:RV},aF K H fs gs->fs.lookup f=some v->∃u,gs.lookup f=some u/\Rep K H v u
 | [],gs,v,h,e=>by cases e
 |(g,x)::r,gs,v,h,e=>by
  obtain⟨u,t,rfl,h1,h2⟩:=h;rw[m7]at e;cases hb:f==g with
  |true=>rw[hb]at e;cases e;exact⟨u,by rw[m7,hb],h1⟩
  |false=>
   rw[hb]at e;obtain⟨w,e1,r1⟩:=vP h2 e;exact⟨w,by rw[m7,hb];exact e1,r1⟩
theorem zf{K:ag}:∀{fs:List (Str×RV)} {gs:List (Str×V)},aF K H fs gs->fs.lookup f=none->gs.lookup f=none
 | [],gs,h,e=>by have h':gs= []:=h;subst h';rfl
 |(g,x)::r,gs,h,e=>by
  obtain⟨u,t,rfl,h1,h2⟩:=h;rw[m7]at e ⊢;cases hb:f==g with
  |true=>rw[hb]at e;cases e
  |false=>rw[hb]at e;exact zf h2 e
def jx(f:Str)(v:RV):List (Str×RV)->List (Str×RV)
 | []=>[(f,v)]
 |(g,x)::r=>if g=f then(g,v)::r else(g,x)::jx f v r
theorem ze{K:ag}{v:RV}(I:Rep K H v u):∀{fs:List (Str×RV)} {gs:List (Str×V)},aF K H fs gs->aF K H (jx f v fs) (fA f u gs)
 | [],gs,h=>by have h':gs= []:=h;subst h';exact⟨u,[],rfl,I,rfl⟩
 |(g,x)::r,gs,h=>by
  obtain⟨w,t,rfl,h1,h2⟩:=h;unfold jx fA
  by_cases e:g=f
  . rw[if_pos e,if_pos e];exact⟨u,t,rfl,I,h2⟩
  . rw[if_neg e,if_neg e];exact⟨w,_,rfl,h1,ze I h2⟩
theorem ip{K:ag}:∀{fs:List (κ×RV)} {gs:List (κ×V)},aF K H fs gs->fs.length=gs.length
 | [],gs,h=>by have h':gs= []:=h;subst h';rfl
 |(g,x)::r,gs,h=>by
  obtain⟨w,t,rfl,h1,h2⟩:=h;rw[eG,eG,ip h2]
section
variable {X:Cx}{o e value:Expr}{f:Str}{pos pos':Pos}{ta tv:ar}{C:Addr}
def NK(C:Addr)(f:Str)(ta:ar):ar:=λσ M Q=>ta σ M λx M1=>match x with
 | .ref a=>∃fs v,M1 a=some (.ins C fs)/\fs.lookup f=some v/\Q v M1
 |_=>False
theorem NA(Z:cI X.K C)(hn:aR X.K C f)(he:ah X e ta)(Y:attributeBase e f X.env (eval e X.env)=eval e X.env:=by rfl):ah X (.Attribute e f pos) (NK C f ta):=PE.imp (Vo he Y) λσ0 H Q0 h=>by
 obtain⟨σ,M,Q,hs,hv,ht,hk⟩:=h;refine⟨σ,M,_,hs,hv,ht,λrx M1 x H1 q e1 I r1=>?_⟩
 cases rx with
 |ref a=>
  obtain⟨fs,v,hm,hl,q⟩:=q;simp only[Rep]at r1;subst r1;obtain⟨ho,J,dx,W,rfl,hg⟩:=I a _ hm;obtain⟨u,hu,ru⟩:=vP hg hl;exact⟨a,C,dx,W,u,rfl,J,Z,hn,hu,hk _ M1 _ H1 q e1 I ru⟩
 |_=>exact(show False from q).elim
def Xu(C:Addr)(f:Str)(ta tv:ar):dR:=λD σ M=>tv σ M λy M1=>ta σ M1 λx M2=>match x with
 | .ref a=>∃fs,M2 a=some (.ins C fs)/\fs.length<1000/\D.nx σ (put M2 a (.ins C (jx f y fs)))
 |_=>False
theorem MT(hc:cI X.K C)(hn:aR X.K C f)(ha:ah X o ta)(W:ah X value tv)(hs:swapsWith value (some (.Attribute o f pos')) pos.line X.env=pure false:=by rfl):fg X (.Assign [.Attribute o f pos'] value pos) (Xu C f ta tv):=PS.imp (Uh ha W hs) λD0 σ0 H h=>by
 obtain⟨σ,M,D,hs,W,ht,hd⟩:=h;refine⟨σ,M,_,hs,W,ht,λry M1 y H1 q e1 v1 r1=>⟨σ,M1,_,hs.ext e1,v1,q,λrx M2 x H2 I J v2 r2=>?_⟩⟩
 cases rx with
 |ref a=>
  obtain⟨fs,hm,hl,I⟩:=I;simp only[Rep]at r2;subst r2;obtain⟨ho,Y,dx,Z,rfl,hg⟩:=v2 a _ hm;have ex:Ext H2 (upd H2 a (.ins C dx (fA f y Z))):=Ext.write Y rfl;refine⟨a,C,dx,Z,rfl,Y,hc,hn,by rw[<-ip hg];exact hl,hd.nx σ _ _ _ I ((e1.trans J).trans ex) (v2.write hm ⟨dx,_,rfl,?_⟩) (hs.ext ((e1.trans J).trans ex))⟩
  exact ze (Rep.ext (J.trans ex) _ _ r1) (hg.ext ex)
 |_=>exact(show False from I).elim
end
section
variable {K:ag}{H:Hp}{k:Key}{v:RV}{u:V}
theorem FR:∀{xs:List (κ×RV)} {ws:List (κ×V)} {ys:List (κ×RV)} {zs:List (κ×V)},aF K H xs ws->aF K H ys zs->aF K H (xs++ys) (ws++zs)
 | [],ws,ys,zs,h,t=>by have h':ws= []:=h;subst h';exact t
 |(j,x)::r,ws,ys,zs,h,t=>by
  obtain⟨w,t',rfl,h1,h2⟩:=h;exact⟨w,_,rfl,h1,FR h2 t⟩
end
section
variable {X:Cx}{o i value:Expr}{pos pos':Pos}{td ty tv:ar}
def IZ:ar:=λ_ M Q=>∀p,M p=none->Q (.ref p) (put M p (.dk []))
theorem Xn:ah X (.Dict [] [] pos) IZ:=PE.imp Se λσ0 H Q0 h=>by
 obtain⟨σ,M,Q,hs,J,W,hk⟩:=h;intro p I;exact hk _ _ _ _ (W p (J.free I)) (Ext.new I) (J.cU I ⟨[],rfl,rfl⟩) (by simp only[Rep])
def atKey(M:RM)(x y:RV)(P:Addr->bW->Key->Prop):Prop:=match x with
 | .ref a=>(match M a with|some (.dk kvs)=>(match fZ y with|some k=>P a kvs k|none=>False)|_=>False)
 |_=>False
end
section
variable {X:Cx}{x m:Str}{p pos apos:Pos}{o e:Expr}{es:aW}{t:bR}{ta:ar}{k:Nat}{ps:az}{sp:bX}{C g:Addr}{fd:FuncData}
def ua(C:Addr)(m:Str)(sp:bX)(ta:ar)(t:bR):ar:=λσ M Q=>ta σ M λx M1=>match x with
 | .ref a=>∃fs,M1 a=some (.ins C fs)/\fs.lookup m=none/\t σ M1 λrs M2=>sp (.ref a::rs) M2 Q
 |_=>False
theorem QV(h:up X.K (ua C m sp ta t) σ0 H Q0):Aq C m (fS X.K sp) [] (λ_ _ _=>False) (up X.K ta) (A9 X.K t) σ0 H Q0:=by
 obtain⟨σ,M,Q,hs,hv,ht,hk⟩:=h;refine⟨σ,M,_,hs,hv,ht,λrx M1 x H1 q e1 I r1=>?_⟩
 cases rx with
 |ref a=>
  obtain⟨fs,hm,hl,q⟩:=q;simp only[Rep]at r1;subst r1;obtain⟨ho,W,dx,Y,rfl,Z⟩:=I a _ hm;refine⟨a,dx,Y,rfl,W,zf Z hl,σ,M1,_,hs.ext e1,I,q,λrs M2 vs H2 q2 J v2 r2=>?_⟩
  exact⟨.ref a::rs,M2,Q,by rw[m9];exact ab.cons (by simp only[Rep]) r2,v2,q2,hk.ext (e1.trans J)⟩
 |_=>exact(show False from q).elim
theorem Xk{pl:Sem Bool}(Z:ah X o ta)(c:cI X.K C)(hm:Meth X.K C m g)(F:dz X.prog X.w X.K X.mg X.base fz k g fd ps (fS X.K sp))(hr:aH k X.A)(Y:Binds X.K fd ps [])(W:fv X (e::es) t)
 (J:starEach (e::es) X.env=(false,eval e X.env)::starEach es X.env:=by rfl) (I:(backTo pos (starEach es X.env)).any (·.1)=false:=by rfl)
 (ht:eval (.Call (.Attribute o m apos) (e::es) [] pos) X.env=(do
  let ov<-eval o X.env
  standAt apos.atName
  let(f,first) <-holding [ov] (getMethod ov m pl)
  callWith pos f first (backTo pos (starEach (e::es) X.env)) (backToKw pos (keywordEach [] X.env))):=by rfl):
 ah X (.Call (.Attribute o m apos) (e::es) [] pos) (ua C m sp ta t):=PE.imp (Sz Z c hm F hr Y .nil oZ W J I ht) λσ0 H Q0 h=>QV h
def qD(C:Addr)(sp:bX)(t:bR):ar:=λσ M Q=>t σ M λrs M1=>∀a,M1 a=none->sp (.ref a::rs) (put M1 a (.ins C [])) (λv M2=>v= .ak/\Q (.ref a) M2)
theorem Xl{h0:Nat}(W:Mk X.K C g)(F:dz X.prog X.w X.K X.mg X.base fz k g fd ps (fS X.K sp))(hr:aH (k+1) X.A)(hm:X.mg x=some (.ref C))(hb:Binds X.K fd ps [])(ha:fv X (e::es) t)(hg:Gl X x:=by rfl)(Z:(x==("__debug__":Str))=false:=by decide)
 (he:starEach (e::es) X.env=(false,eval e X.env)::starEach es X.env:=by rfl) (hpl:(backTo pos (starEach es X.env)).any (·.1)=false:=by rfl):ah X (.Call (.Name x p) (e::es) [] pos) (qD C sp t):=PE.imp (SA W F hr hg hm hb .nil oZ ha Z he hpl) λσ0 H Q0 h=>by
 obtain⟨σ,M,Q,hs,hv,ht,hk⟩:=h;refine⟨σ,M,_,hs,hv,ht,λrs M1 vs H1 q e1 v1 r1 a dx na nd ne=>?_⟩
 have Y:Ext H1 (upd H1 dx (.own a)):=Ext.new nd;have J:(upd H1 dx (.own a)) a=none:=by rw[aq (Ne.symm ne)];exact na
 have I:Ext H1 (upd (upd H1 dx (.own a)) a (.ins C dx [])):=Y.trans (Ext.new J);refine⟨.ref a::rs,put M1 a (.ins C []),_,by rw[m9];exact ab.cons (by simp only[Rep]) (ab.ext I _ _ r1),(v1.new nd).cU J ⟨dx,[],rfl,rfl⟩,q a (v1.free na),λrv M2 v H2 q2 e2 v2 r2=>?_⟩
 obtain⟨rfl,q2⟩:=q2;simp only[Rep]at r2;exact⟨r2,hk _ M2 _ H2 q2 ((e1.trans I).trans e2) v2 (by simp only[Rep])⟩
end
section
variable {X:Cx}{o e f:Expr}{apos cpos:Pos}{td ty tx:ar}
def Xv:LR->RM->aj->Prop:=λrs M Q=>∃a kvs,rs= [.ref a]/\M a=some (.dk kvs)/\Q (.int kvs.length) M
theorem XG:dw X (.builtin "len") (fC X.K Xv):=by
 intro pins s σ H xs us Q0 I rl h;obtain⟨rs,M,Q,rr,J,⟨a,kvs,rfl,Z,hq⟩,hk⟩:=h;obtain⟨v,rfl,r1⟩:=rr.one;simp only[Rep]at r1;subst r1;obtain⟨ho,W,ws,rfl,Y⟩:=J a _ Z;exact Q8 pins s σ H _ us Q0 I rl ⟨a,ws,rfl,W,hk _ M _ H hq (.refl H) J (by simp only[Rep];rw[ip Y])⟩
end
section
variable {X:Cx}{m:Str}{p pos apos:Pos}{o a b tg:Expr}{ta t1 t2:ar}{k:Nat}{ps:az}{sp:bX}{C g:Addr}{fd:FuncData}
theorem US{pl:Sem Bool}(he:ah X o ta)(c:cI X.K C)(I:Meth X.K C m g)(F:dz X.prog X.w X.K X.mg X.base fz k g fd ps (fS X.K sp))(hr:aH k X.A)(hb:Binds X.K fd ps [])
 (J:eval (.Call (.Attribute o m apos) [] [] pos) X.env=(do
  let ov<-eval o X.env
  standAt apos.atName
  let(f,first) <-holding [ov] (getMethod ov m pl)
  callWith pos f first (backTo pos (starEach [] X.env)) (backToKw pos (keywordEach [] X.env))):=by rfl):
 ah X (.Call (.Attribute o m apos) [] [] pos) (ua C m sp ta lK):=PE.imp (R7 he c I F hr hb .nil oZ J) λσ0 H Q0 h=>by
 obtain⟨σ,M,Q,hs,hv,J,hk⟩:=h;refine⟨σ,M,_,hs,hv,J,λrx M1 x H1 q e1 W r1=>?_⟩
 cases rx with
 |ref a=>
  obtain⟨fs,I,hl,q⟩:=q;simp only[Rep]at r1;subst r1;obtain⟨ho,Y,dx,Z,rfl,hg⟩:=W a _ I;exact⟨a,dx,Z,rfl,Y,zf hg hl,[.ref a],M1,Q,ab.cons (by simp only[Rep]) ab.nil,W,q,hk.ext e1⟩
 |_=>exact(show False from q).elim
def wM(lo:Int)(n:Nat):LR:=(List.range n).map λ(i:Nat)=>RV.int (lo+(i:Int))
end
theorem QT{P:Program}{w:World}{a:Addr}(x:aD P w H h a o):∃u,h.get? a=some u:=by
 cases o with
 |lst xs=>obtain⟨_,_,_,_,e⟩:=x;exact⟨_,e⟩
 |tup xs=>obtain⟨_,_,_,o,e,_⟩:=x;exact⟨o,e⟩
 |dK kvs=>obtain⟨_,_,_,_,o,_,_,e,_⟩:=x;exact⟨_,e⟩
 |dT kvs=>obtain⟨_,_,_,_,o,_,_,e,_⟩:=x;exact⟨_,e⟩
 |set S n=>obtain⟨o,_,_,_,e,_⟩:=x;exact⟨_,e⟩
 |ins C dx fs=>obtain⟨_,_,_,e,_⟩:=x;exact⟨_,e⟩
 |own y=>obtain⟨_,e⟩:=x;exact⟨_,e⟩
 |xd fs=>obtain⟨_,⟨_,_,_,e,_⟩,_⟩:=x;exact⟨_,e⟩
 |yc lo hi=>obtain⟨_,_,_,e⟩:=x;exact⟨_,e⟩
 |aV ob u=>obtain⟨e,_⟩:=x;exact⟨_,e⟩
 |mV ps=>exact⟨_,(show h.get? a=some _ from x)⟩
 |met f y=>exact⟨_,(show h.get? a=some _ from x)⟩
 |ext φ=>obtain⟨_,⟨_,e⟩,_⟩:=x;exact⟨_,e⟩
section
variable {X:Cx}{pins:aG}{σ:L2.St}{H:Hp}{s:Shared}{h':Heap}{a:Addr}{o:HO}
theorem none_of(I:Inv X pins σ H s)(J:s.heap.get? a=none):H a=none:=by
 cases q:H a with
 |none=>rfl
 |some u=>
  obtain⟨v,e⟩:=QT (I.av a u q);rw[J]at e;cases e
end
theorem E8{K:ag}:∀(ns:List Int),ab K H (ns.map RV.int) (ns.map V.int)
 | []=>ab.nil
 |n::r=>ab.cons (by simp only[Rep]) (E8 r)
open PySem.W
section
variable {X:Cx}{pins:aG}{σ:L2.St}{H:Hp}{s:Shared}
def de(M:RM):RV->RV
 | .ref a=>(match M a with|some (.lst xs)=>.ls xs|_=>.ref a)
 |x=>x
theorem Hj(I:Inv X pins σ H s){n:Nat}:∀{rs:LR} {vs:LV} {us:au},rs.all (aB n)=true->ab X.K H rs vs->Vals vs us->ay s.heap rs us
 | [],vs,us,_,r,w=>by
  have e:vs= []:=by simpa only[ab]using r
  subst e;cases w;simp only[ay]
 |x::rs,vs,us,o,r,w=>by
  rw[ff,bj]at o;simp only[ab]at r;obtain⟨v,Y,rfl,r1,W⟩:=r;obtain⟨u,J,rfl,Z,w2⟩:=Vals.cons_inv w;simp only[ay];exact⟨u,J,rfl,jf I n x v u o.1 r1 Z,Hj I o.2 W w2⟩
theorem wV(I:Inv X pins σ H s)(Y:View X.K H M){a:RV}{x:V}{v:Value}(o:aB 16 (de M a)=true)(ra:Rep X.K H a x)(J:RelV x v):Den s.heap (de M a) v:=by
 cases a with
 |ref p=>
  cases q:M p with
  |none=>rw[show de M (.ref p)= .ref p by simp only[de,q]]at o;cases o
  |some ob=>
   cases ob with
   |lst xs=>
    have e:de M (.ref p)= .ls xs:=by simp only[de,q]
    rw[e]at o ⊢;simp only[Rep]at ra;subst ra;cases J;obtain⟨ho,e0,vs,rfl,W⟩:=Y p _ q;obtain⟨ae,rv,pl,hz⟩:=I.list (cB.of e0);simp only[Den];exact⟨p,ae,rfl,pl.isList,Hj I (n:=15) o W rv⟩
   |_=>rw[show de M (.ref p)= .ref p by simp only[de,q]]at o;cases o
 |_=>exact jf I 16 _ x v o ra J
def Dg:cA:=λx y M Q=>aB 16 (de M x)=true/\aB 16 (de M y)=true/\Q (.bl (bA (de M x) (de M y))) M
def DT:cA:=λx y M Q=>aB 16 (de M x)=true/\aB 16 (de M y)=true/\Q (.bl (!bA (de M x) (de M y))) M
theorem NT(hu:X.A.units+64<cLine):cY X (compareOp .Eq) Dg:=by
 intro pins s σ H x y v u Q0 I Z ry h;obtain⟨a,b,M,Q,ra,rb,J,⟨o1,W,Y⟩,hk⟩:=h;exact RX 15 _ _ X.A s v u o1 W (wV I J o1 ra Z) (wV I J W rb ry) (by omega) _ _ _ _ ⟨.bl _,H,I,rfl,hk _ M _ H Y (.refl H) J (by simp only[Rep])⟩
theorem NP(hu:X.A.units+64<cLine):cY X (compareOp .NotEq) DT:=by
 intro pins s σ H x y v u Q0 I Z ry h;obtain⟨a,b,M,Q,ra,rb,J,⟨o1,W,Y⟩,hk⟩:=h;exact Pt 15 _ _ X.A s v u o1 W (wV I J o1 ra Z) (wV I J W rb ry) (by omega) _ _ _ _ ⟨.bl _,H,I,rfl,hk _ M _ H Y (.refl H) J (by simp only[Rep])⟩
end
section
variable {X:Cx}
def rQ(Q:aj):LR->RM->Prop:=λrs M=>match rs with
 | [.int i,.int j]=>(-1000000<=i/\i<=1000000/\-1000000<=j/\j<=1000000)/\(j-i).toNat<=1000/\Q (.ls (wM i (j-i).toNat)) M
 |_=>False
def Hz(ta tb:ar):ar:=λσ M Q=>qE ta (qE tb lK) σ M (rQ Q)
theorem ES(a:Int):∀(vs:au) (k:Nat),(∀(j:Nat) v,vs[j]? =some v->∃t,v= .int (a+((k+j:Nat):Int)) t)->Vals ((List.range' k vs.length).map λ(j:Nat)=>V.int (a+(j:Int))) vs
 | [],_,_=>.nil
 |v::vs,k,h=>by
  obtain⟨t,e⟩:=h 0 v rfl;rw[eG,List.range'_succ,bT];refine .cons ⟨t,e⟩ (ES a vs (k+1) λj u J=>?_)
  obtain⟨t',I⟩:=h (j+1) u (by simpa using J)
  refine⟨t',?_⟩;rw[I,show k+(j+1)=k+1+j by omega]
theorem E9{K:ag}(a:Int):∀(l:List Nat),ab K H (l.map λ(j:Nat)=>RV.int (a+(j:Int))) (l.map λ(j:Nat)=>V.int (a+(j:Int)))
 | []=>ab.nil
 |j::r=>ab.cons (by simp only[Rep]) (E9 a r)
theorem boot_list:bootBuiltins "list" =some (.type "list"):=by decide+kernel
theorem UU{a b:Expr}{p1 p2 J pos:Pos}(hml:X.mg "list" =none)(hmr:X.mg "range" =none)(hc:X.calm=true)(ha:ah X a t1)(hb:ah X b t2)(hgl:Gl X "list")(hgr:Gl X "range")
 (hst:starEach [a,b] X.env= [(false,eval a X.env),(false,eval b X.env)]:=by rfl) (hs2:starEach [b] X.env= [(false,eval b X.env)]:=by rfl)
 (he1:starEach [a,b] X.env=(false,eval a X.env)::starEach [b] X.env:=by rfl) (he2:starEach [b] X.env=(false,eval b X.env)::starEach [] X.env:=by rfl)
 (Y:starEach [Expr.Call (.Name "range" p2) [a,b] [] J] X.env=(false,eval (Expr.Call (.Name "range" p2) [a,b] [] J) X.env)::starEach [] X.env:=by rfl):
 ah X (.Call (.Name "list" p1) [.Call (.Name "range" p2) [a,b] [] J] [] pos) (Hz t1 t2):=by
 intro pins s σ0 H Q0 I h;obtain⟨σ,M,Q,hs,hv,ht,hk⟩:=h;have args:fv X [a,b] (qE t1 (qE t2 lK)):=xF ha (xF hb AU he2) he1;refine Call_ (mB I hgl hml boot_list (uK ?_ Y rfl));rw[Y];show wpAny _ _ (spliced ((false,eval (Expr.Call (.Name "range" p2) [a,b] [] J) X.env)::backTo pos (starEach [] X.env))) _ _ s;refine Calls.spliced_cons (Call_ (mB I hgr hmr boot_range (uK (aA (args J pins s σ0 H (λvs H1=>∃i j M1,vs= [V.int i,V.int j]/\rQ Q [.int i,.int j] M1/\Ext H H1/\View X.K H1 M1) I ⟨σ,M,_,hs,hv,ht,λrs M1 vs H1 q e1 v1 r1=>?_⟩) λus s1 q1=>?_) (by rw[hst,hs2]) (by rw[hs2];rfl))))
 . unfold rQ at q
   split at q
   . simp only[ab,Rep]at r1
     obtain⟨v,r,rfl,rfl,v',r',rfl,rfl,rfl⟩:=r1;exact⟨_,_,M1,rfl,q,e1,v1⟩
   . exact q.elim
 . obtain⟨vs,H1,I1,rv,i,j,M1,rfl,q,e1,v1⟩:=q1
   obtain⟨u1,us1,rfl,q1,rv⟩:=Vals.cons_inv rv;obtain⟨u2,us2,rfl,q2,rv⟩:=Vals.cons_inv rv;cases rv;obtain⟨tt1,rfl⟩:=q1;obtain⟨tt2,rfl⟩:=q2;obtain⟨⟨b1,b2,b3,b4⟩,hn,q⟩:=q;refine call_range_2 ?_;have I2:=I1.kept (h':=s1.heap.push { cls:=.type "range",data:=.fields #[.int i tt1,.int j tt2,.int 1 s1.toks] }) (t':=s1.toks+1) (λb o e=>Heap.get?_push_of_some _ e)
   refine Calls.spliced_nil ?_;have hsz:Builtin.Range.rangeSize i j 1=((j-i).toNat:Int):=by rw[rangeSize_one];split<;>omega
   refine call_list_range (I2.ok.hd hc) (IsRange.new s1.heap i j 1 tt1 tt2 s1.toks) (small_one (by omega) (by omega) (by omega) (by omega)) hsz (by omega) λh' tk W c' kp Z hit=>?_
   have eR:=I2.av.fresh (aU _);have hv2:Vals ((List.range (j-i).toNat).map λ(k:Nat)=>V.int (i+(k:Int))) W.toList:=by
    have:=ES i W.toList 0 λk v e=>by
     obtain⟨t,e'⟩:=hit.2 k v (by rw[<-Array.getElem?_toList];exact e)
     exact⟨t,by rw[e'];simp⟩
    rw[Array.length_toList,hit.1]at this;rw[List.range_eq_range'];exact this
   refine frozen ⟨.ref _,_,I2.laid kp (aU _) (o:=.lst ((List.range (j-i).toNat).map λ(k:Nat)=>V.int (i+(k:Int)))) ⟨by rw[br,List.length_range];exact dJ hn (by decide),W.toList,c',hv2,by rw[Array.toArray_toList];exact Z⟩,rfl,H1,_,_,rfl,eR,rfl,λo=>?_⟩
   exact hk _ M1 _ _ q (e1.trans (Ext.new eR)) (v1.new eR) (ly eR (E9 i _))
end
structure rB(P:Program)(w:World)(K:ag)(mg:bq)(base:Heap)(C:Addr)(k:Nat)(m:Str)(ps:az)(sp:bX):Prop where
 ex:∃(g:Addr) (fd:FuncData),Meth K C m g/\Binds K fd ps []/\dz P w K mg base fz k g fd ps (fS K sp)
structure yt(P:Program)(w:World)(K:ag)(mg:bq)(base:Heap)(C:Addr)(k:Nat)(ps:az)(sp:bX):Prop where
 ex:∃(g:Addr) (fd:FuncData),Mk K C g/\Binds K fd ps []/\dz P w K mg base fz k g fd ps (fS K sp)
section
variable {X:Cx}{x m:Str}{p pos apos:Pos}{o e:Expr}{es:aW}{t:bR}{ta:ar}{k:Nat}{ps:az}{sp:bX}{C:Addr}
theorem UR{pl:Sem Bool}(F:rB X.prog X.w X.K X.mg X.base C k m ps sp)(c:cI X.K C)(hr:aH k X.A)(Z:ah X o ta)(W:fv X (e::es) t)
 (J:starEach (e::es) X.env=(false,eval e X.env)::starEach es X.env:=by rfl) (I:(backTo pos (starEach es X.env)).any (·.1)=false:=by rfl)
 (ht:eval (.Call (.Attribute o m apos) (e::es) [] pos) X.env=(do
  let ov<-eval o X.env
  standAt apos.atName
  let(f,first) <-holding [ov] (getMethod ov m pl)
  callWith pos f first (backTo pos (starEach (e::es) X.env)) (backToKw pos (keywordEach [] X.env))):=by rfl):
 ah X (.Call (.Attribute o m apos) (e::es) [] pos) (ua C m sp ta t):=by
 obtain⟨g,fd,hm,Y,F⟩:=F.ex;exact Xk Z c hm F hr Y W J I ht
theorem SW{pl:Sem Bool}(F:rB X.prog X.w X.K X.mg X.base C k m ps sp)(c:cI X.K C)(Y:aH k X.A)(J:ah X o ta)
 (Z:eval (.Call (.Attribute o m apos) [] [] pos) X.env=(do
  let ov<-eval o X.env
  standAt apos.atName
  let(f,first) <-holding [ov] (getMethod ov m pl)
  callWith pos f first (backTo pos (starEach [] X.env)) (backToKw pos (keywordEach [] X.env))):=by rfl):
 ah X (.Call (.Attribute o m apos) [] [] pos) (ua C m sp ta lK):=by
 obtain⟨g,fd,W,I,F⟩:=F.ex;exact US J c W F Y I Z
theorem UT(F:yt X.prog X.w X.K X.mg X.base C k ps sp)(hr:aH (k+1) X.A)(hm:X.mg x=some (.ref C))(Y:fv X (e::es) t)(hg:Gl X x:=by rfl)(I:(x==("__debug__":Str))=false:=by decide)
 (he:starEach (e::es) X.env=(false,eval e X.env)::starEach es X.env:=by rfl) (J:(backTo pos (starEach es X.env)).any (·.1)=false:=by rfl):ah X (.Call (.Name x p) (e::es) [] pos) (qD C sp t):=by
 obtain⟨g,fd,W,Z,F⟩:=F.ex;exact Xl (h0:=0) W F hr hm Z Y hg I he J
end
section
variable {X:Cx}
def IW:LR->RM->aj->Prop:=λrs M Q=>match rs with
 | [.ref a,.ty T']=>T'= "list"/\(match M a with|some (.lst _)=>Q (.bl true) M|_=>False)
 |_=>False
theorem Qq:dw X (.builtin "isinstance") (fC X.K IW):=by
 intro pins s σ H xs us Q0 I rl h;obtain⟨rs,M,Q,rr,Y,J,hk⟩:=h;unfold IW at J;split at J
 . rename_i a T'
   obtain⟨rfl,J⟩:=J;obtain⟨v,w,rfl,r1,Z⟩:=rr.two;obtain⟨u,u',rfl,w1,w2⟩:=vals2 rl;simp only[Rep]at r1 Z;subst r1;subst Z;obtain rfl:u'=Value.type "list":=w2;cases(show u=Value.ref a from w1)
   split at J
   . rename_i ys em
     obtain⟨ho,e,r⟩:=Y a _ em;obtain⟨vs,rfl,hr⟩:=r;obtain⟨ae,_,pt,_⟩:=I.list (cB.of e);obtain⟨o,h1,h2,_⟩:=pt.isList;exact pP PySem.W.kitx_list I.et ⟨o,h1,h2⟩ (Ex X.K) (λz=>nomatch z) λtk=>⟨.bl true,H,I.tok tk,rfl,hk _ M _ H J (.refl H) Y (by simp only[Rep])⟩
   . exact J.elim
 . exact J.elim
end
abbrev TK:=List (Option Key)
def xX:RV->Option (Option Key)
 | .ak=>some none
 | .int i=>some (some (.inl i))
 | .str x=>some (some (.inr x))
 |_=>none
def qT:LR->Option TK
 | []=>some []
 |r::rs=>match xX r,qT rs with
  |some k,some ks=>some (k::ks)
  |_,_=>none
def eY:RV->Option TK
 | .tup rs=>qT rs
 |_=>none
def CQ:List (TK×Str)->List (TK×Addr×Value)->Prop
 | [],[]=>True
 |(k,y)::r,(k',_,v)::r'=>k=k'/\(∃t,v= .str y t)/\CQ r r'
 |_,_=>False
structure AL(P:Program)(w:World)(K:ag)(mg:bq)(x:Str)(kvs:List (TK×Str)):Prop where
 ex:∃a xs,mg x=some (.ref a)/\(a==sysModules)=false/\(∀h:Heap,K.In h->h.DictOfH (tupleKind (optKind P w)) a xs)/\CQ kvs xs
section
variable {κ:Type}[DecidableEq κ]{K:ag}{H:Hp}{k:κ}{v:RV}{u:V}
def lk(kvs:List (κ×α))(k:κ):Option α:=(kvs.find? λp=>decide (p.1=k)).map (·.2)
theorem fm{x:α}:lk ((j,x)::r) k=if j=k then some x else lk r k:=by
 unfold lk;rw[List.find?_cons]
 by_cases h:j=k
 . rw[if_pos h,decide_eq_true (show(j,x).1=k from h)];rfl
 . rw[if_neg h,decide_eq_false (show ¬(j,x).1=k from h)]
def pt(kvs:List (κ×α))(k:κ)(v:α):List (κ×α):=
 if(kvs.any λkv=>decide (kv.1=k))=true then kvs.map (λkv=>if kv.1=k then(kv.1,v)else kv)else kvs++ [(k,v)]
theorem ja:∀{kvs:List (κ×RV)} {ws:List (κ×V)},aF K H kvs ws->(∀r,lk kvs k=some r->∃v,fX ws k=some v/\Rep K H r v)/\(lk kvs k=none->fX ws k=none)
 | [],ws,h=>by
  have h:ws= []:=h;subst h;exact⟨λr e=>(by cases e),λ_=>rfl⟩
 |(j,x)::t,ws,h=>by
  obtain⟨v,u,rfl,h1,h2⟩:=h;have J:=ja h2;rw[fm]
  by_cases I:j=k
  . rw[if_pos I]
    refine⟨λr e=>⟨v,tj (p:=(j,v)) I,?_⟩,λe=>(by cases e)⟩
    cases e;exact h1
  . rw[if_neg I]
    exact⟨λr e=>by rw[oI (p:=(j,v)) I];exact J.1 r e,λe=>by rw[oI (p:=(j,v)) I];exact J.2 e⟩
theorem Fc:∀{kvs:List (κ×RV)} {ws:List (κ×V)},aF K H kvs ws->(kvs.any λkv=>decide (kv.1=k))=ws.any λkv=>decide (kv.1=k)
 | [],ws,h=>by have h':ws= []:=h;subst h';rfl
 |(j,x)::r,ws,h=>by
  obtain⟨w,t,rfl,h1,h2⟩:=h;rw[jE,jE,Fc h2]
theorem zg(I:Rep K H v u):∀{kvs:List (κ×RV)} {ws:List (κ×V)},aF K H kvs ws->aF K H (kvs.map λkv=>if kv.1=k then(kv.1,v)else kv) (ws.map λkv=>if kv.1=k then(kv.1,u)else kv)
 | [],ws,h=>by have h':ws= []:=h;subst h';rfl
 |(j,x)::r,ws,h=>by
  obtain⟨w,t,rfl,h1,h2⟩:=h;rw[bT,bT]
  by_cases e:j=k
  . rw[if_pos (show(j,x).1=k from e),if_pos (show(j,w).1=k from e)];exact⟨u,_,rfl,I,zg I h2⟩
  . rw[if_neg (show ¬(j,x).1=k from e),if_neg (show ¬(j,w).1=k from e)];exact⟨w,_,rfl,h1,zg I h2⟩
theorem Gu(I:Rep K H v u)(h:aF K H kvs ws):aF K H (pt kvs k v) (putK ws k u):=by
 unfold pt putK;rw[Fc h];split
 . exact zg I h
 . exact FR h ⟨u,[],rfl,I,rfl⟩
end
theorem Rt{K:ag}{x:V}(e:xX r=some k)(h:Rep K H r x):x=oV k:=by
 cases r<;>first|(cases e;simp only[Rep]at h;exact h)|cases e
theorem FX{K:ag}:∀{rs:LR} {vs:LV} {ks:TK},qT rs=some ks->ab K H rs vs->vs=ks.map oV
 | [],vs,ks,e,h=>by cases e;exact h
 |r::rs,vs,ks,e,h=>by
  simp only[ab]at h;obtain⟨v,t,rfl,h1,h2⟩:=h;unfold qT at e;split at e
  . rename_i a b e1 I
    cases e;rw[Rt e1 h1,FX I h2];rfl
  . cases e
theorem wQ{K:ag}{x:V}(e:eY r=some k)(h:Rep K H r x):∃b,x= .ref b/\H b=some (.tup (k.map oV)):=by
 cases r with
 |tup rs=>
  simp only[Rep]at h;obtain⟨a,vs,rfl,h1,h2⟩:=h;exact⟨a,rfl,by rw[h1,FX e h2]⟩
 |_=>cases e
def qL(o:RO)(y:RV):Option (Option RV):=match o with
 | .dk kvs=>(fZ y).map (lk kvs)
 | .dt kvs=>(eY y).map (lk kvs)
 | .fk kvs=>(fZ y).map (lk kvs)
 | .ft kvs=>(eY y).map (lk kvs)
 |_=>none
def pY(M:RM)(x y:RV):Option (Option RV):=match x with
 | .ref a=>(M a).bind (qL . y)
 |_=>none
def rM(M:RM)(x:RV):Prop:=match x with
 | .ref a=>match M a with
  |some (.dk _)=>True
  |some (.dt _)=>True
  |some (.fk _)=>True
  |some (.ft _)=>True
  |_=>False
 |_=>False
def rH(M:RM)(x y v:RV)(N:RM->Prop):Prop:=match x with
 | .ref a=>match M a with
  |some (.dk kvs)=>match fZ y with
   |some k=>kvs.length<sizeLine/\N (put M a (.dk (pt kvs k v)))
   |none=>False
  |some (.dt kvs)=>match eY y with
   |some k=>kvs.length<sizeLine/\N (put M a (.dt (pt kvs k v)))
   |none=>False
  |_=>False
 |_=>False
section
variable {X:Cx}{M:RM}{H:Hp}{x y:RV}{vx vy:V}
theorem zO{K:ag}(hv:View K H M)(e:pY M x y=some r)(J:Rep K H x vx)(Z:Rep K H y vy):
 ∃a r0,vx= .ref a/\bY H a vy r0/\(∀z,r=some z->∃v,r0=some v/\Rep K H z v)/\(r=none->r0=none):=by
 unfold pY at e;split at e
 . rename_i a
   simp only[Rep]at J;cases q:M a with
   |none=>rw[q]at e;cases e
   |some o=>
    rw[q]at e
    replace e:qL o y=some r:=e
    obtain⟨ho,Y,ro⟩:=hv a o q;unfold qL at e;split at e
    . rename_i kvs
      obtain⟨W,rfl,I⟩:=ro;cases ek:fZ y with
      |none=>rw[ek]at e;cases e
      |some k=>
       rw[ek]at e;have e:lk kvs k=r:=Option.some.inj e;have:=qi ek Z;subst this;exact⟨a,_,J,bY.k Y,λz hz=>(ja (k:=k) I).1 z (e.trans hz),λhz=>(ja (k:=k) I).2 (e.trans hz)⟩
    . rename_i kvs
      obtain⟨W,rfl,I⟩:=ro;cases ek:eY y with
      |none=>rw[ek]at e;cases e
      |some k=>
       rw[ek]at e;have e:lk kvs k=r:=Option.some.inj e;obtain⟨b,rfl,hb⟩:=wQ ek Z;exact⟨a,_,J,bY.t Y hb,λz hz=>(ja (k:=k) I).1 z (e.trans hz),λhz=>(ja (k:=k) I).2 (e.trans hz)⟩
    . rename_i kvs
      obtain⟨ob,W,rfl,I⟩:=ro;cases ek:fZ y with
      |none=>rw[ek]at e;cases e
      |some k=>
       rw[ek]at e;have e:lk kvs k=r:=Option.some.inj e;have:=qi ek Z;subst this;exact⟨a,_,J,.inl ⟨W,k,.inr ⟨ob,Y⟩,rfl,rfl⟩,λz hz=>(ja (k:=k) I).1 z (e.trans hz),λhz=>(ja (k:=k) I).2 (e.trans hz)⟩
    . rename_i kvs
      obtain⟨ob,W,rfl,I⟩:=ro;cases ek:eY y with
      |none=>rw[ek]at e;cases e
      |some k=>
       rw[ek]at e;have e:lk kvs k=r:=Option.some.inj e;obtain⟨b,rfl,hb⟩:=wQ ek Z;exact⟨a,_,J,.inr ⟨W,k,b,.inr ⟨ob,Y⟩,rfl,hb,rfl⟩,λz hz=>(ja (k:=k) I).1 z (e.trans hz),λhz=>(ja (k:=k) I).2 (e.trans hz)⟩
    . cases e
 . cases e
theorem Tx{K:ag}(Y:View K H M)(d:rM M x)(W:Rep K H x vx):∃a,vx= .ref a/\yq H a:=by
 unfold rM at d;split at d
 . rename_i a
   simp only[Rep]at W;split at d
   . rename_i kvs e;obtain⟨ho,I,J,rfl,Z⟩:=Y a _ e;exact⟨a,W,.inl ⟨J,.inl I⟩⟩
   . rename_i kvs e;obtain⟨ho,I,J,rfl,Z⟩:=Y a _ e;exact⟨a,W,.inr ⟨J,.inl I⟩⟩
   . rename_i kvs e;obtain⟨ho,I,ob,J,rfl,Z⟩:=Y a _ e;exact⟨a,W,.inl ⟨J,.inr ⟨ob,I⟩⟩⟩
   . rename_i kvs e;obtain⟨ho,I,ob,J,rfl,Z⟩:=Y a _ e;exact⟨a,W,.inr ⟨J,.inr ⟨ob,I⟩⟩⟩
   . exact d.elim
 . exact d.elim
theorem Tt{K:ag}{v:RV}(Y:View K H M)(d:rH M x y v N)(rx:Rep K H x vx)(ry:Rep K H y vy)(rv:Rep K H v vv):
 ∃a H' M',vx= .ref a/\fI H a vy vv H'/\N M'/\Ext H H'/\View K H' M':=by
 unfold rH at d;split at d
 . rename_i a
   simp only[Rep]at rx;split at d
   . rename_i kvs I
     obtain⟨ho,J,ws,rfl,W⟩:=Y a _ I;split at d
     . rename_i k Z
       have:=qi Z ry;subst this;have ex:Ext H (upd H a (.dK (putK ws k vv))):=Ext.write J rfl;exact⟨a,_,_,rx,fI.k J (by rw[<-ip W];exact d.1),d.2,ex,Y.write I ⟨_,rfl,Gu (Rep.ext ex _ _ rv) (W.ext ex)⟩⟩
     . exact d.elim
   . rename_i kvs I
     obtain⟨ho,J,ws,rfl,W⟩:=Y a _ I;split at d
     . rename_i k Z
       obtain⟨b,rfl,hb⟩:=wQ Z ry;have ex:Ext H (upd H a (.dT (putK ws k vv))):=Ext.write J rfl;exact⟨a,_,_,rx,fI.t J hb (by rw[<-ip W];exact d.1),d.2,ex,Y.write I ⟨_,rfl,Gu (Rep.ext ex _ _ rv) (W.ext ex)⟩⟩
     . exact d.elim
   . exact d.elim
 . exact d.elim
end
section
variable {X:Cx}{o i value e f:Expr}{pos pos' apos cpos:Pos}{td ty tv tx:ar}
def uw(Q:aj)(x y:RV)(M:RM):Prop:=match pY M x y with
 |some (some v)=>Q v M
 |_=>False
def IL(td ty:ar):ar:=λσ M Q=>td σ M λx M1=>ty σ M1 λy M2=>uw Q x y M2
theorem Td{x y:RV}(h:uw Q x y M):∃v,pY M x y=some (some v)/\Q v M:=by
 unfold uw at h;split at h
 . rename_i v e;exact⟨v,e,h⟩
 . exact h.elim
theorem WG(hu:X.A.units+1<cLine)(ho:ah X o td)(hi:ah X i ty)(hs:x8 i):ah X (.Subscript o i pos) (IL td ty):=PE.imp (SD hu ho hi hs) λσ0 H Q0 h=>by
 obtain⟨σ,M,Q,hs,hv,Z,hk⟩:=h;refine⟨σ,M,_,hs,hv,Z,λrx M1 x H1 q e1 v1 r1=>⟨σ,M1,_,hs.ext e1,v1,q,λry M2 y H2 I W Y r2=>?_⟩⟩
 obtain⟨v,ev,I⟩:=Td I;obtain⟨a,r0,rfl,g,g1,_⟩:=zO Y ev (Rep.ext W _ _ r1) r2;obtain⟨w,rfl,J⟩:=g1 v rfl;exact⟨a,w,rfl,g,hk _ M2 _ H2 I (e1.trans W) Y J⟩
def yf(neg:Bool)(Q:aj)(x y:RV)(M:RM):Prop:=match pY M x y with
 |some r=>Q (.bl (if neg then !r.isSome else r.isSome)) M
 |none=>False
def qN(neg:Bool)(ty td:ar):ar:=λσ M Q=>ty σ M λy M1=>td σ M1 λx M2=>yf neg Q x y M2
theorem vW(h:up X.K (qN neg ty td) σ0 H Q0):up X.K ty σ0 H λy H1=>up X.K td σ0 H1 λx H2=>∃a r,x= .ref a/\bY H2 a y r/\Q0 (.bl (if neg then !r.isSome else r.isSome)) H2:=by
 obtain⟨σ,M,Q,hs,hv,Z,hk⟩:=h;refine⟨σ,M,_,hs,hv,Z,λry M1 y H1 q e1 v1 r1=>⟨σ,M1,_,hs.ext e1,v1,q,λrx M2 x H2 I J W r2=>?_⟩⟩
 unfold yf at I;split at I
 . rename_i r Y
   obtain⟨a,r0,rfl,g,g1,g2⟩:=zO W Y r2 (Rep.ext J _ _ r1);refine⟨a,r0,rfl,g,hk _ M2 _ H2 I (e1.trans J) W ?_⟩;have:r0.isSome=r.isSome:=by
    cases r with
    |none=>rw[g2 rfl];rfl
    |some z=>obtain⟨v,rfl,_⟩:=g1 z rfl;rfl
   rw[this];simp only[Rep]
 . exact I.elim
theorem Mv(I:X.A.units+1<cLine)(hi:ah X i ty)(ho:ah X o td)(h1:behindInMarks .In o=false):ah X (.Compare i [.In] [o] pos) (qN false ty td):=PE.imp (HG (HH I hi ho) h1) λσ0 H Q0 h=>vW h
theorem Te(I:X.A.units+1<cLine)(hi:ah X i ty)(ho:ah X o td)(h1:behindInMarks .NotIn o=false):ah X (.Compare i [.NotIn] [o] pos) (qN true ty td):=PE.imp (HG (Fg I hi ho) h1) λσ0 H Q0 h=>vW h
theorem WE(J:X.A.units+1<cLine)(hi:ah X i ty)(ho:ah X o td)(h1:behindInMarks .In o=false):eI X (.Compare i [.In] [o] pos) (lE (qN false ty td)):=PT.imp (zT (HH J hi ho) h1) λσ0 H Q0 h=>by
 obtain⟨σ,M,Q,hs,W,I,hk⟩:=h;exact vW (neg:=false) ⟨σ,M,_,hs,W,I,oK hk⟩
theorem QX(J:X.A.units+1<cLine)(hi:ah X i ty)(ho:ah X o td)(h1:behindInMarks .NotIn o=false):eI X (.Compare i [.NotIn] [o] pos) (lE (qN true ty td)):=PT.imp (zT (Fg J hi ho) h1) λσ0 H Q0 h=>by
 obtain⟨σ,M,Q,hs,W,I,hk⟩:=h;exact vW (neg:=true) ⟨σ,M,_,hs,W,I,oK hk⟩
def ud(Q:aj)(x y z:RV)(M:RM):Prop:=match pY M x y with
 |some r=>Q (r.getD z) M
 |none=>False
def Ib(td ty:ar):ar:=λσ M Q=>td σ M λx M1=>rM M1 x/\ty σ M1 λy M2=>ud Q x y .ak M2
theorem QY{K:ag}{x y z:RV}{a:Addr}(h:ud Q x y z M)(Y:View K H M)(Z:Rep K H x (.ref a))(ry:Rep K H y vy)(rz:Rep K H z vz):
 ∃r r0,Q r M/\bY H a vy r0/\Rep K H r (r0.getD vz):=by
 unfold ud at h;split at h
 . rename_i r W
   obtain⟨a',r0,J,g,g1,g2⟩:=zO Y W Z ry;cases J;refine⟨_,r0,h,g,?_⟩;cases r with
   |none=>rw[g2 rfl];exact rz
   |some q=>obtain⟨v,rfl,I⟩:=g1 q rfl;exact I
 . exact h.elim
theorem T7(hu:X.A.units+1<cLine)(ho:ah X o td)(Y:ah X e ty)(m:M1 X o "get" apos e cpos):ah X (.Call (.Attribute o "get" apos) [e] [] cpos) (Ib td ty):=PE.imp (Sf hu ho Y m) λσ0 H Q0 h=>by
 obtain⟨σ,M,Q,hs,hv,Z,hk⟩:=h;refine⟨σ,M,_,hs,hv,Z,λrx M1 x H1 q e1 J r1=>?_⟩
 obtain⟨a,rfl,d⟩:=Tx J q.1 r1;refine⟨a,rfl,d,σ,M1,_,hs.ext e1,J,q.2,λry M2 y H2 q2 I W r2=>?_⟩
 obtain⟨r,r0,q3,g,rr⟩:=QY q2 W (Rep.ext I _ _ r1) r2 (show Rep X.K H2 .ak .ak by simp only[Rep])
 exact⟨r0,g,hk _ M2 _ H2 q3 (e1.trans I) W rr⟩
def HZ(td ty tv:ar):dR:=λD σ M=>tv σ M λv M1=>td σ M1 λx M2=>ty σ M2 λy I=>rH I x y v (D.nx σ)
theorem T5(hu:X.A.units+1<cLine)(ho:ah X o td)(hi:ah X i ty)(Y:ah X value tv)(hs:swapsWith value (some (.Subscript o i pos')) pos.line X.env=pure false):fg X (.Assign [.Subscript o i pos'] value pos) (HZ td ty tv):=PS.imp (Sv hu ho hi Y hs) λD0 Z H h=>by
 obtain⟨σ,M,D,hs,Y,ht,hd⟩:=h;refine⟨σ,M,_,hs,Y,ht,λrv M1 v H1 q e1 v1 r1=>⟨σ,M1,_,hs.ext e1,v1,q,λrx M2 x H2 q2 J v2 r2=>⟨σ,M2,_,hs.ext (e1.trans J),v2,q2,λry M3 y H3 q3 W v3 r3=>?_⟩⟩⟩
 obtain⟨a,H4,M4,rfl,g,n,ex,w⟩:=Tt v3 q3 (Rep.ext W _ _ r2) r3 (Rep.ext (J.trans W) _ _ r1);have I:=((e1.trans J).trans W).trans ex;exact⟨a,H4,rfl,g,hd.nx σ M4 Z H4 n I w (hs.ext I)⟩
def HB:ar:=λ_ M Q=>∀p,M p=none->Q (.ref p) (put M p (.dt []))
theorem UX:ah X (.Dict [] [] pos) HB:=PE.imp Sd λσ0 H Q0 h=>by
 obtain⟨σ,M,Q,hs,J,W,hk⟩:=h;exactλp I=>hk _ _ _ _ (W p (J.free I)) (Ext.new I) (J.cU I ⟨[],rfl,rfl⟩) (by simp only[Rep])
end
section
variable {prog:Program}{w:World}{K:Type}[DecidableEq K]{knd:HeapKind prog w K}{A:Around}{E:aP}{s:Shared}{d a:Addr}{k:K}{xs:List (K×Addr×Value)}
theorem Rb{xs:List (K×Addr×Value)}(I:(xs.map (·.1)).Nodup):∀{j:Nat} {p:Addr×Value},xs[j]? =some (k,p)->xs.eraseIdx j=xs.filter λx=>decide (x.1≠k):=by
 induction xs with
 |nil=>intro j p h;simp at h
 |cons x r ih=>
  intro j p h;rw[bT,gU]at I;cases j with
  |zero=>
   simp at h;subst h;rw[List.eraseIdx_cons_zero,lS];simp only[ne_eq,not_true_eq_false,decide_false,jC,if_false];exact(pR.mpr λy J=>by
    have:y.1≠k:=λz=>I.1 (bu.mpr ⟨y,J,z⟩)
    simpa using this).symm
  |succ j=>
   rw[List.eraseIdx_cons_succ,lS];have h':r[j]? =some (k,p):=by simpa using h
   have:x.1≠k:=λz=>I.1 (z ▸ bu.mpr ⟨_,List.mem_of_getElem? h',rfl⟩)
   rw[if_pos (decide_eq_true this),ih I.2 h']
theorem ON{Q:Option DictEntry->Shared->Prop}(hu:knd.room A)(hkey:knd.is s.heap k a)(hm:s.heap.DictOfH knd d xs)(ht:(PySem.atKey xs k).isSome=true)
 (hQ:∀e h',h'.DictOfH knd d (xs.filter λx=>decide (x.1≠k))->Heap.SameBut d s.heap h'->Q (some e) { s with heap:=h',toks:=s.toks+knd.draws k }) (hsz:xs.length<=sizeLine):wpAny (model prog w) A (Builtin.Dict.takeOut d (.ref a)) Q E s:=by
 obtain⟨o,es,ep,ho,hc,hd,he,his,hn⟩:=hm;unfold Builtin.Dict.takeOut
 try with_reducible refine wpAny_holding ?_
 refine wpAny_bind (knd.pyHash hu hkey ?_);refine wpAny_bind (wpAny_dictFind_heap (s:={ s with toks:=s.toks+knd.draws k }) hu hkey ho hd he his hn (λhno=>?_) λj p hj=>?_)
 . rw[atKey_none_of_get hno]at ht;cases ht
 . refine wpAny_bind (wpAny_dictEntries (s:={ s with toks:=s.toks+knd.draws k }) ho hd ?_)
   rw[entry_at he j,hj];refine wpAny_bind (wpAny_updateDictKeys (hz:=by have e:=size_of_entries he;omega) (s:={ s with toks:=s.toks+knd.draws k }) ho hd (wpAny_pure (hQ _ _ ⟨_,_,ep+1,Heap.get?_update_self _ ho (Obj.isFreed_of_dict (Obj.data_mapDictKeys hd _)),hc.mapDictKeys _,Obj.data_mapDictKeys hd _,?_,λx hx=>?_,?_⟩ (Heap.SameBut.update ..))))
   . rw[<-Rb hn hj]
     have:(xs.eraseIdx j).map (entryOfKey knd)=es.toList.eraseIdx j:=by rw[he,List.eraseIdx_eq_take_drop_succ,List.eraseIdx_eq_take_drop_succ,fe,List.map_take,List.map_drop]
     rw[this];obtain⟨l⟩:=es;simp
   . exact knd.keeps (his x ((cH.mp hx).1)) ho hd (Heap.SameBut.update ..)
   . exact hn.sublist (List.filter_sublist.map _)
end
theorem TX(r:KT H kvs xs)(k:List bM):KT H (ji kvs k) (xs.filter λx=>decide (x.1≠k)):=by
 unfold ji
 induction r with
 |nil=>exact .nil
 | @cons p q ps qs h t ih=>
  rw[lS,lS,h.1];split
  . exact .cons h ih
  . exact ih
section
variable {X:Cx}{pins:aG}{σ:L2.St}{H:Hp}{s:Shared}{a b:Addr}{kvs:List (List bM×V)}{k:List bM}{A:Around}{E:aP}
theorem VU(hu:A.units+1<cLine)(I:Inv X pins σ H s)(e:H a=some (.dT kvs))(Y:H b=some (.tup (k.map oV)))(l:(fX kvs k).isSome=true)(h:∀s',Inv X pins σ (upd H a (.dT (ji kvs k))) s'->Q () s'):
 wpAny (model X.prog X.w) A (delItem (.ref a) (.ref b)) Q E s:=by
 obtain⟨z,hd,xs,rel,dd⟩:=Av I.av e;have hz:xs.length<=sizeLine:=by rw[<-Paired.length rel];exact z
 refine wpAny_delItem_slot dd.typeIs (by decide) PySem.F.slot_dict_delitem (wpAny_call_entry PySem.F.slot_dict_delitem dd.typeIs PySem.F.entry_dict_delitem ?_ (PySem.F.args_dict_delitem_2 _ _))
 unfold Builtin.«dict.__delitem__»;refine wpAny_bind ?_;unfold Builtin.Dict.dictSlotArgs;refine wpAny_bind (wpAny_notOrdered_dict dd.typeIs ?_);show wpAny _ _ (pure (Value.ref a,Value.ref b)) _ _ s;refine wpAny_pure ?_;show wpAny _ _ (Builtin.Dict.takeOut a (.ref b) >>= _) _ _ s;refine wpAny_bind (ON (tupleKind_room_in1 hu) (oT I.av Y) dd (by rw[<-mY,<-(rel.val k).bb];exact l) (λen h' J hs=>?_) hz)
 refine wpAny_bind (wpAny_letGo (wpAny_pure ⟨.none,rfl,h _ ?_⟩));obtain⟨q,es,ep,W,h2,Z,h4,_,h5⟩:=J;refine wZ I (by rw[e];exact True.intro) hs ⟨q,W⟩ ⟨dJ (gY _ _) z,hd,_,(TX rel k).keeps λc ys ec=>?_,q,es,ep,W,h2,Z,h4,h5⟩
 rw[aq (jh ec e (λz=>nomatch z))]
 exact ec
end
def dr[DecidableEq κ](kvs:List (κ×β))(k:κ):List (κ×β):=kvs.filter λp=>decide (p.1≠k)
theorem zM[DecidableEq κ]{K:ag}:∀{xs:List (κ×RV)} {ws:List (κ×V)},aF K H xs ws->aF K H (dr xs k) (ji ws k)
 | [],_,h=>by cases h;exact rfl
 |(j,x)::r,_,h=>by
  obtain⟨v,t,rfl,h1,h2⟩:=h;have I:=zM (k:=k) h2;unfold dr ji at I ⊢;rw[lS,lS];split
  . exact⟨v,_,rfl,h1,I⟩
  . exact I
def pZ(M:RM)(x y:RV)(N:RM->Prop):Prop:=match x with
 | .ref a=>match M a with
  |some (.dk kvs)=>match fZ y with
   |some k=>(lk kvs k).isSome=true/\N (put M a (.dk (dr kvs k)))
   |none=>False
  |some (.dt kvs)=>match eY y with
   |some k=>(lk kvs k).isSome=true/\N (put M a (.dt (dr kvs k)))
   |none=>False
  |_=>False
 |_=>False
section
variable {X:Cx}{o i:Expr}{td ty:ar}{pos tpos:Pos}
def Ia(td ty:ar):dR:=λD σ M=>td σ M λx M1=>ty σ M1 λy M2=>pZ M2 x y (D.nx σ)
theorem T6(hu:X.A.units+1<cLine)(ho:ah X o td)(hi:ah X i ty):fg X (.Delete [.Subscript o i tpos] pos) (Ia td ty):=by
 intro pins s W H D0 I h;obtain⟨σ,M,D,hs,hv,ht,hd⟩:=h;refine wpAny_Delete (wpAny_deleteEach_cons (wpAny_delete_Subscript (aA (ho pins s W H (λx H1=>∃rx M1,(ty σ M1 λy M2=>pZ M2 rx y (D.nx σ))/\Ext H H1/\View X.K H1 M1/\Rep X.K H1 rx x) I ⟨σ,M,_,hs,hv,ht,λrx M1 x H1 q e1 v1 r1=>⟨rx,M1,q,e1,v1,r1⟩⟩) λu s1 ⟨x,H1,I1,ru,rx,M1,q1,e1,v1,r1⟩=>
  aA (hi pins s1 W H1 (λy H2=>∃ry M2,pZ M2 rx ry (D.nx σ)/\Ext H1 H2/\View X.K H2 M2/\Rep X.K H2 ry y) I1 ⟨σ,M1,_,hs.ext e1,v1,q1,λry M2 y H2 q e2 Z r2=>⟨ry,M2,q,e2,Z,r2⟩⟩) λiv s2 ⟨y,H2,I2,riv,ry,M2,q2,e2,Z,r2⟩=>?_)))
 have r1:=Rep.ext e2 _ _ r1;have J:=e1.trans e2;unfold pZ at q2;split at q2
 . rename_i a _ _
   simp only[Rep]at r1;subst r1;obtain rfl:u=Value.ref a:=ru;split at q2
   . rename_i kvs em
     obtain⟨ho',eo,ws,rfl,hg⟩:=Z a _ em;split at q2
     . rename_i k ek
       have:=qi ek r2;subst this;have ex:Ext H2 (upd H2 a (.dK (ji ws k))):=Ext.write eo rfl;obtain⟨z,hz⟩:=uL.mp q2.1;obtain⟨z',Y,_⟩:=(ja (k:=k) hg).1 z hz;exact Rh I2 eo riv (by rw[Y];rfl) λs3 I3=>wpAny_deleteEach_nil ⟨W,_,I3,hd.nx σ _ _ _ q2.2 (J.trans ex) (Z.write em ⟨_,rfl,zM (hg.ext ex)⟩) (hs.ext (J.trans ex))⟩
     . exact q2.elim
   . rename_i kvs em
     obtain⟨ho',eo,ws,rfl,hg⟩:=Z a _ em;split at q2
     . rename_i k ek
       obtain⟨b,rfl,hb⟩:=wQ ek r2;obtain rfl:iv=Value.ref b:=riv;have ex:Ext H2 (upd H2 a (.dT (ji ws k))):=Ext.write eo rfl;obtain⟨z,hz⟩:=uL.mp q2.1;obtain⟨z',Y,_⟩:=(ja (k:=k) hg).1 z hz;exact VU hu I2 eo hb (by rw[Y];rfl) λs3 I3=>wpAny_deleteEach_nil ⟨W,_,I3,hd.nx σ _ _ _ q2.2 (J.trans ex) (Z.write em ⟨_,rfl,zM (hg.ext ex)⟩) (hs.ext (J.trans ex))⟩
     . exact q2.elim
   . exact q2.elim
 . exact q2.elim
end
section
variable {X:Cx}{pins:aG}{σ:L2.St}{H:Hp}{s:Shared}{a:Addr}{A:Around}{E:aP}
theorem VS(I:Inv X pins σ H s)(e:H a=some (.dT kvs))(h:∀t s',Inv X pins σ H s'->Q (.int kvs.length t) s'):wpAny (model X.prog X.w) A (call (.builtin "len") [.ref a]) Q E s:=by
 obtain⟨z,hd,xs,rel,dd⟩:=Av I.av e;have ty:=dd.typeIs;obtain⟨o,es,ep,ho,Z,J,W,_,_⟩:=dd;have Y:es.size=kvs.length:=by rw[size_of_entries W,Paired.length rel]
 refine Calls.call_function_entry kind_len plain_len entry_len (args_len1 _) ?_;unfold Builtin.«len»;refine wpAny_bind (m:=oneArg "len" _) (wpAny_pure ?_);refine wpAny_bind (m:=callSpecial? (.ref a) (Str.ofString "__len__")) (wpAny_callSpecial?_slot (name:=Str.ofString "__len__") ty F.slot_dict_len (wpAny_call_entry F.slot_dict_len ty F.entry_dict_len ?_ (F.args_dict_len_1 _)));show wpAny _ _ (dictSize a >>= _) _ _ s;unfold dictSize;refine wpAny_bind (wpAny_bind (wpAny_dictEntries ho J (wpAny_pure ?_)));show wpAny _ _ (Builtin.Dict.pendingCount a >>= _) _ _ s;refine wpAny_bind (wpAny_pendingCount_other hd ?_);refine wpAny_ret_mkInt ?_;rw[Y];show wpAny _ _ _ _ _ { s with toks:=s.toks+1 }
 refine wpAny_bind (wpAny_holding (wpAny_pure ?_));refine wpAny_bind (wpAny_letGo ?_);rw[sizeLine_eq]at z;show wpAny _ _ (if((kvs.length:Nat):Int)<0 then _ else _) _ _ _
 rw[if_neg (by omega)]
 show wpAny _ _ (if((kvs.length:Nat):Int) ≥ 2 ^ 63 then _ else _) _ _ _
 rw[if_neg (by omega)]
 exact wpAny_bind (wpAny_mkInt (wpAny_pure ⟨_,rfl,h _ _ (I.tok _)⟩))
theorem XF:dw X (.builtin "len") (fC X.K λrs M Q=>∃a kvs,rs= [.ref a]/\M a=some (.dt kvs)/\Q (.int kvs.length) M):=by
 intro pins s σ H xs us Q0 I rl h;obtain⟨rs,M,Q,rr,J,⟨a,kvs,rfl,hm,hq⟩,hk⟩:=h;obtain⟨v,rfl,r1⟩:=rr.one;simp only[Rep]at r1;subst r1;obtain⟨ho,Y,ws,rfl,Z⟩:=J a _ hm;obtain⟨u,rfl,ru⟩:=vals1 rl;cases ru;exact VS I Y λt s' W=>⟨.int ws.length,H,W,⟨t,rfl⟩,hk _ M _ H hq (.refl H) J (by simp only[Rep];rw[ip Z])⟩
end
section
variable {X:Cx}
def DP(i j:Nat)(ta:bR):dR:=λD σ M=>ta σ M λrs M1=>match rs with
 | [v,w]=>D.nx ((σ.set i (some v)).set j (some w)) M1
 |_=>False
theorem MQ{i j:Nat}{x y:Str}{a b:Expr}{ta:bR}{J W pt:Pos}{kt k2:Nat}(hc:X.calm=true)(hN:X.N.Nodup)(hi:X.N[i]? =some x)(hj:X.N[j]? =some y)(I:i≠j)
 (hx:X.env.scope.names.lookup x=some .local) (hy:X.env.scope.names.lookup y=some .local) (ha:fv X [a,b] ta)
 (hw:swappedStores [.Tuple [.Name x J,.Name y W] kt pt] (.Tuple [a,b] k2 pt2) X.env=pure (some [x,y])):
 fg X (.Assign [.Tuple [.Name x J,.Name y W] kt pt] (.Tuple [a,b] k2 pt2) pos) (DP i j ta):=PS.imp (UE hc hN hi hj I hx hy ha hw) λD0 σ0 H h=>by
 obtain⟨σ,M,D,hs,hv,ht,hd⟩:=h;refine⟨σ,M,_,hs,hv,ht,λrs M1 vs H1 q e1 v1 r1=>?_⟩
 split at q
 . rename_i v w
   obtain⟨v',w',rfl,Y,Z⟩:=r1.two;exact⟨v',w',rfl,hd.nx _ M1 _ H1 q e1 v1 (((hs.ext e1).set Y i).set Z j)⟩
 . exact q.elim
noncomputable def rO (C:Addr)(f:Str)(tv:ar)(σ:bB)(N:RM->Prop):aj:=λx M=>match x with
 | .ref a=>match M a with
  |some (.ins C' fs)=>C'=C/\match fs.lookup f with
   |some (.int i)=>tv σ M λy M2=>match y with
    | .int j=>match M2 a with
     |some (.ins C2 fs2)=>C2=C/\fs2.length<1000/\N (put M2 a (.ins C (jx f (.int (i+j)) fs2)))
     |_=>False
    |_=>False
   |_=>False
  |_=>False
 |_=>False
def Lg(C:Addr)(f:Str)(ta tv:ar):dR:=λD σ M=>ta σ M (rO C f tv σ (D.nx σ))
theorem Yh{ta tv:ar}(hc:cI X.K C)(hn:aR X.K C f)(ha:ah X o ta)(hv:ah X value tv):fg X (.AugAssign (.Attribute o f tpos) .Add value pos) (Lg C f ta tv):=PS.imp (QK ha hv U3) λD0 σ0 H h=>by
 obtain⟨σ,M,D,hs,hv,ht,hd⟩:=h;refine⟨σ,M,_,hs,hv,ht,λrx M1 x H1 q e1 v1 r1=>?_⟩
 cases rx with
 |ref a=>
  simp only[Rep]at r1;subst r1;unfold rO at q;simp only at q;split at q
  . rename_i C' fs em
    obtain⟨rfl,q⟩:=q;split at q
    . rename_i i el
      obtain⟨ho,eo,dx,gs,rfl,hg⟩:=v1 a _ em;obtain⟨u,eu,ru⟩:=vP hg el;refine⟨a,C',dx,gs,u,rfl,eo,hc,hn,eu,σ,M1,_,hs.ext e1,v1,q,λry M2 y H2 q2 e2 v2 r2=>?_⟩
      cases ry with
      |int j=>
       simp only[Rep]at r2 ru;subst r2 ru;simp only at q2;split at q2
       . rename_i C2 fs2 W
         obtain⟨rfl,hl,n⟩:=q2;obtain⟨ho2,Y,I,Z,rfl,hg2⟩:=v2 a _ W;have ex:Ext H2 (upd H2 a (.ins C2 I (fA f (.int (i+j)) Z))):=Ext.write Y rfl;have J:=(e1.trans e2).trans ex;exact⟨i,j,rfl,rfl,I,Z,Y,by rw[<-ip hg2];exact hl,hd.nx σ _ σ0 _ n J (v2.write W ⟨I,_,rfl,ze (by simp only[Rep]) (hg2.ext ex)⟩) (hs.ext J)⟩
       . exact q2.elim
      |_=>exact(show False from q2).elim
    . exact q.elim
  . exact q.elim
 |_=>exact(show False from q).elim
end
def ck(h:Heap)(d:Addr)(es:Array DictEntry)(ep:Nat):Prop:=∃o,h.get? d=some o/\o.ExactDict/\o.data= .dict es ep
section
variable {prog:Program}{w:World}{A:Around}{E:aP}{s:Shared}{d it:Addr}{es:Array DictEntry}{ep i:Nat}
theorem ck.ty(x:ck s.heap d es ep):s.TypeIs (.ref d) "dict":=by
 obtain⟨o,h1,h2,I⟩:=x;exact⟨o,h1,h2.1⟩
theorem Ee(I:s.heap.IsValIter it d i es.size ep)(hm:ck s.heap d es ep)(hi:i<es.size)
 (Z:∀h',h'.IsValIter it d (i+1) es.size ep->Heap.SameBut it s.heap h'->Q (some es[i].val) { s with heap:=h' }):wpAny (model prog w) A (pyNext (.ref it)) Q E s:=by
 obtain⟨o,ho,hc,hd⟩:=id I;obtain⟨od,Y,hcd,W⟩:=id hm;have ow:Builtin.Dict_items.ownsTuple "dict_valueiterator" =false:=by decide
 unfold pyNext;refine wpAny_bind (wpAny_attempt (wpAny_callSpecial?_slot (name:=Str.ofString "__next__") I.typeIs F.slot_dict_valueiterator_next (wpAny_call_entry F.slot_dict_valueiterator_next I.typeIs F.entry_dict_valueiterator_next ?_ (F.args_dict_valueiterator_next_1 _))));refine wpAny_bind (wpAny_pure (wpAny_bind (wpAny_bind ?_)))
 first|refine wpAny_bind (wpAny_typeNameOfWhole_valiter I.typeIs (wpAny_pure (wpAny_bind (wpAny_fieldsOf ho hd ?_))))|refine wpAny_bind (wpAny_typeNameOf_valiter I.typeIs (wpAny_pure (wpAny_bind (wpAny_fieldsOf ho hd ?_))))
 simp only[ow,jC,if_false];refine(?_:wpAny _ _ (if(Value.ref d==Value.none)=true then _ else _) _ _ s)
 rw[if_neg (show ¬(Value.ref d==Value.none)=true fromλz=>iE z)]
 refine wpAny_bind (wpAny_pure (wpAny_bind (wpAny_dictEntries Y W ?_)));rw[if_neg (by simp)];refine wpAny_bind (wpAny_pure (wpAny_bind (wpAny_dictEpoch Y W ?_)))
 rw[if_neg (by simp)];refine wpAny_pure ?_
 simp only[show ¬((i:Int)<0) by omega,if_false,Int.toNat_natCast,Array.getElem?_eq_getElem hi]
 first|refine wpAny_bind (wpAny_bind (wpAny_typeNameOfWhole_valiter I.typeIs (wpAny_pure (wpAny_bind (wpAny_isOneOf_valiter I.typeIs ?_)))))|refine wpAny_bind (wpAny_bind (wpAny_typeNameOf_valiter I.typeIs (wpAny_pure (wpAny_bind (wpAny_isOneOf_valiter I.typeIs ?_)))))
 refine(?_:wpAny _ _ (setField (.ref it) 1 (rawInt ((i:Int)+1)) >>= _) _ _ s);refine wpAny_bind (wpAny_setField ho hd (by simp) ?_)
 have J:(s.heap.update it (Obj.mapFields λa=>a.setIfInBounds 1 (rawInt ((i:Int)+1)))).IsValIter it d (i+1) es.size ep:=⟨_,Heap.get?_update_self _ ho (Obj.isFreed_of_fields (Obj.data_mapFields hd _)),(Obj.cls_mapFields ..).trans hc,by rw[Obj.data_mapFields hd];simp[rawInt]⟩
 refine wpAny_bind (wpAny_holding (wpAny_bind (wpAny_isOneOf_valiter (s:={ s with heap:=s.heap.update it (Obj.mapFields λa=>a.setIfInBounds 1 (rawInt ((i:Int)+1))) }) J.typeIs ?_)))
 refine wpAny_bind (wpAny_isOneOf_valiter (s:={ s with heap:=s.heap.update it (Obj.mapFields (·.setIfInBounds 1 (rawInt ((i:Int)+1)))) }) J.typeIs (?_:_))
 refine(?_:wpAny _ _ (pure es[i].val) _ _ _);exact wpAny_pure (wpAny_pure ⟨_,rfl,wpAny_pure (Z _ J (Heap.SameBut.update ..))⟩)
theorem Ef(hh:A.handled=none)(I:s.heap.IsValIter it d i es.size ep)(hm:ck s.heap d es ep)(hi:es.size<=i)(Y:∀h',Heap.ExtBut it s.heap h'->Q none { s with heap:=h' }):
 wpAny (model prog w) A (pyNext (.ref it)) Q E s:=by
 obtain⟨o,ho,hc,hd⟩:=id I;obtain⟨od,W,Z,J⟩:=id hm;have ow:Builtin.Dict_items.ownsTuple "dict_valueiterator" =false:=by decide
 unfold pyNext;refine wpAny_bind (wpAny_attempt (wpAny_callSpecial?_slot (name:=Str.ofString "__next__") I.typeIs F.slot_dict_valueiterator_next (wpAny_call_entry F.slot_dict_valueiterator_next I.typeIs F.entry_dict_valueiterator_next ?_ (F.args_dict_valueiterator_next_1 _))));refine wpAny_bind (wpAny_pure (wpAny_bind (wpAny_bind ?_)))
 first|refine wpAny_bind (wpAny_typeNameOfWhole_valiter I.typeIs (wpAny_pure (wpAny_bind (wpAny_fieldsOf ho hd ?_))))|refine wpAny_bind (wpAny_typeNameOf_valiter I.typeIs (wpAny_pure (wpAny_bind (wpAny_fieldsOf ho hd ?_))))
 simp only[ow,jC,if_false];refine(?_:wpAny _ _ (if(Value.ref d==Value.none)=true then _ else _) _ _ s)
 rw[if_neg (show ¬(Value.ref d==Value.none)=true fromλz=>iE z)]
 refine wpAny_bind (wpAny_pure (wpAny_bind (wpAny_dictEntries W J ?_)));rw[if_neg (by simp)];refine wpAny_bind (wpAny_pure (wpAny_bind (wpAny_dictEpoch W J ?_)))
 rw[if_neg (by simp)];refine wpAny_pure ?_
 simp only[show ¬((i:Int)<0) by omega,if_false,Int.toNat_natCast,Array.getElem?_eq_none hi]
 first|refine wpAny_bind (wpAny_bind (wpAny_typeNameOfWhole_valiter I.typeIs (wpAny_pure ?_)))|refine wpAny_bind (wpAny_bind (wpAny_typeNameOf_valiter I.typeIs (wpAny_pure ?_)))
 refine(?_:wpAny _ _ (setField (.ref it) 0 .none >>= _) _ _ s);refine wpAny_bind (wpAny_setField ho hd (by simp) ?_)
 refine(?_:wpAny _ _ (newExc (.type "StopIteration") [] >>= _) _ _ _);simp only[newExc,newTuple];refine wpAny_bind (wpAny_bind (wpAny_newObj_type ?_ (by size_fits)))
 refine wpAny_bind (m:=firstArgMember _ _) (wpAny_of_eq (a:=Value.none) (by first|rfl|(simp only[firstArgMember];rfl)) (wpAny_newObj_type ?_ (by size_fits)))
 simp only[raiseNew];refine wpAny_bind (wpAny_handled ?_);rw[show A.in1.handled=none from hh];refine wpAny_bind (wpAny_pure (wpAny_throw ?_));refine wpAny_bind (wpAny_isInstance (T:="StopIteration") (b:=true) ⟨_,Heap.get?_push_size _ rfl,rfl⟩ isSubtype_stop ?_)
 exact wpAny_pure (Y _ (((Heap.SameBut.update ..).extBut.push _).push _))
theorem EE{v:Addr}(Y:s.heap.IsValuesView v d)(hm:ck s.heap d es ep)
 (Z:Q (.ref s.heap.objs.size) { s with heap:=s.heap.push { cls:=.type "dict_valueiterator",data:=.fields #[.ref d,.int 0 0,.int es.size 0,.int ep 0] } }):wpAny (model prog w) A (pyIter (.ref v)) Q E s:=by
 obtain⟨ov,W,hcv,J⟩:=id Y;obtain⟨o,ho,hc,I⟩:=id hm;have ow:Builtin.Dict_items.ownsTuple "dict_valueiterator" =false:=by decide
 refine wpAny_pyIter_slot Y.typeIs F.slot_dict_values_iter (wpAny_call_entry F.slot_dict_values_iter Y.typeIs F.entry_dict_values_iter ?_ (F.args_dict_values_iter_1 _));unfold Builtin.«dict_values.__iter__» Builtin.Dict_items.dictOf Builtin.Dict_items.newIterator;refine wpAny_bind (wpAny_pure (wpAny_bind (wpAny_bind (wpAny_field W J (x:=.ref d) rfl (wpAny_pure (wpAny_bind (wpAny_bind (wpAny_dictEntries ho I (wpAny_bind (wpAny_dictEpoch ho I ?_))))))))));simp only[ow,jC,if_false];refine wpAny_newObj_type (wpAny_pure ⟨_,rfl,"dict_valueiterator",_,⟨_,Heap.get?_push_size _ rfl,rfl⟩,F.slot_dict_valueiterator_next.lookup,?_⟩);simpa[rawInt]using Z
theorem El(hd:(d==sysModules)=false):MeetsIn prog w (Builtin.«dict.values» ⟨[.ref d],[]⟩) (λ_ R s=>(∃es ep,ck s.heap d es ep)/\R (.ok (.ret (.ref s.heap.objs.size))) { s with heap:=s.heap.push { cls:=.type "dict_values",data:=.fields #[.ref d] } }):=
 .of_wp λA R s ⟨⟨es,ep,hm⟩,h⟩=>by
  have e0:Builtin.Dict.showsAll d=pure ():=by unfold Builtin.Dict.showsAll;rw[if_neg (by rw[hd];exact iE)]
  refine wpAny_bind ?_;unfold Builtin.Dict.noArgs;refine wpAny_bind (wpAny_notOrdered_dict hm.ty ?_);refine(wpAny_pure ?_:wpAny _ _ (pure d) _ _ s);refine(?_:wpAny _ _ (Builtin.Dict.showsAll d >>= _) _ _ s);rw[e0];exact wpAny_bind (wpAny_pure (wpAny_bind (wpAny_newObj_type (wpAny_pure ⟨_,rfl,h⟩))))
end
def lJ:HO->Nat
 | .dK kvs=>kvs.length
 | .dT kvs=>kvs.length
 |_=>0
def Jk(u:HO)(i:Nat)(H:Hp)(x:V):Prop:=match u with
 | .dK kvs=>∃kv,kvs[i]? =some kv/\x=kV kv.1
 | .dT kvs=>∃kv b,kvs[i]? =some kv/\x= .ref b/\H b=some (.tup (kv.1.map oV))
 |_=>False
def valAt(u:HO)(i:Nat)(x:V):Prop:=match u with
 | .dK kvs=>∃kv,kvs[i]? =some kv/\x=kv.2
 | .dT kvs=>∃kv,kvs[i]? =some kv/\x=kv.2
 |_=>False
theorem vY:∀{l:List α} {m:List β} {i:Nat} {b:β},Paired F l m->m[i]? =some b->∃a,l[i]? =some a/\F a b
 |_,_,_,_,.nil,e=>by simp at e
 |_,_,0,_,.cons r _,e=>by simp at e;subst e;exact⟨_,rfl,r⟩
 |_,_,i+1,b,.cons _ t,e=>by
  obtain⟨a,h1,h2⟩:=vY (i:=i) t (by simpa using e)
  exact⟨a,by simpa using h1,h2⟩
theorem EU(h:jv k u=true):RelV (kV k) u:=by
 rcases iJ h with⟨i,t,rfl,rfl⟩|⟨x,t,rfl,rfl⟩
 . exact⟨t,rfl⟩
 . exact⟨t,rfl⟩
section
variable {X:Cx}{pins:aG}{σ:L2.St}{H:Hp}{s:Shared}{a:Addr}{o:Obj}{u:HO}
theorem sG(I:Inv X pins σ H s)(h:H a=some (.aV o u))(du:jk u=true):∃es ep,o.data= .dict es ep/\ck s.heap a es ep/\(a==sysModules)=false/\es.size=lJ u/\lJ u<=sizeLine/\
 ∀i (hi:i<es.size),(∃x,Jk u i H x/\RelV x es[i].key)/\∃x,valAt u i x/\RelV x es[i].val:=by
 obtain⟨g,hz⟩:=I.av a _ h;cases u<;>first|(cases du;done)|skip
 . rename_i kvs
   obtain⟨z,y,vs,r,o',es,ep,e,c,dd,ks,ps,nd⟩:=hz;rw[g]at e;cases e;have Y:es.size=kvs.length:=by have:=ps.length;have h2:=Paired.length r;simp at this;omega
   refine⟨es,ep,dd,⟨o,g,c,dd⟩,y,Y,z,λi hi=>?_⟩
   have hv:i<vs.length:=by have:=ps.length;simp at this;omega
   obtain⟨p1,p2⟩:=ps.get? (e:=es[i]) (i:=i) (k:=vs[i].1) (v:=vs[i].2) (by simp[hi]) (by simp[hv])
   obtain⟨kv,k1,k2,Z⟩:=vY (i:=i) r (by simp[hv]:vs[i]? =some vs[i])
   refine⟨⟨kV kv.1,⟨kv,k1,rfl⟩,?_⟩,kv.2,⟨kv,k1,rfl⟩,by rw[p2];exact Z⟩
   rw[k2];exact EU p1
 . rename_i kvs
   obtain⟨z,y,xs,r,o',es,ep,e,c,dd,J,nd⟩:=hz;rw[g]at e;cases e;have Y:es.size=kvs.length:=by have h2:=Paired.length r;have:=congrArg List.length J;simp at this;omega
   refine⟨es,ep,dd,⟨o,g,c,dd⟩,y,Y,z,λi hi=>?_⟩
   have hx:i<xs.length:=by have:=congrArg List.length J;simp at this;omega
   have W:es[i]=entryOfKey (tupleKind (optKind X.prog X.w)) xs[i]:=by
    have:=entry_at (knd:=tupleKind (optKind X.prog X.w)) J i;simpa[hi,hx]using this
   obtain⟨kv,k1,k2,Z,k4⟩:=vY (i:=i) r (by simp[hx]:xs[i]? =some xs[i])
   rw[W];exact⟨⟨.ref xs[i].2.1,⟨kv,xs[i].2.1,k1,rfl,Z⟩,rfl⟩,kv.2,⟨kv,k1,rfl⟩,k4⟩
end
def uS(o:Obj)(a:Addr)(k:Bool):It:=
 ⟨λi H=>∃u,H a=some (.aV o u)/\jk u=true/\i<lJ u,λi H x H'=>H'=H/\∃u,H a=some (.aV o u)/\(if k=true then Jk u i H x else valAt u i x),λi H=>∃u,H a=some (.aV o u)/\jk u=true/\lJ u<=i⟩
section
variable {P:Program}{w:World}{K:ag}{tg:Expr}{o:Obj}{a it:Addr}{es:Array DictEntry}{ep:Nat}
theorem Qv(hd:o.data= .dict es ep):Turn P w K tg (uS o a false) [it] it (λi h=>h.IsValIter it a i es.size ep) where
 mem:=by simp
 obj:=λi h st b hb=>by
  have e:b=it:=by simpa using hb
  subst e;obtain⟨o,e,c,d⟩:=st;exact⟨o,e,λv z=>by rw[d]at z;cases z⟩
 keep:=λi h h' st k=>by obtain⟨o,e,c,d⟩:=st;exact⟨o,k it (by simp) o e,c,d⟩
 item:=by
  intro X hP hw hK hc i pins s σ H E I hf st ⟨u,hg,du,hi⟩;subst hP hw hK;obtain⟨es',ep',d',rd,hS,hl,_,hall⟩:=sG I hg du;rw[hd]at d';cases d';have hi':i<es.size:=by rw[hl];exact hi
  obtain⟨f0,f1,f2,f3,f4,f5⟩:=hf it (by simp)
  refine Ee st rd hi' λh' st' sb=>?_
  have I1:Inv X pins σ H { s with heap:=h' }:=I.turned (t':=s.toks) (λb o hb e=>(sb.2 b hb).trans e) f0 f1 f3 f4 f5
  obtain⟨_,x,k1,k2⟩:=hall i hi';obtain⟨oi,e,c,d⟩:=id st';exact⟨_,rfl,uo (s:={ s with heap:=h' }) e c d (by decide) ⟨x,H,I1,k2,⟨rfl,u,hg,by rw[if_neg (by decide)];exact k1⟩,st',λb hb=>(hf b hb).1⟩⟩
 done:=by
  intro X hP hw hK hc i pins s σ H E I hf st ⟨u,hg,du,hi⟩;subst hP hw hK;obtain⟨es',ep',d',rd,hS,hl,_,hall⟩:=sG I hg du;rw[hd]at d';cases d';obtain⟨f0,f1,f2,f3,f4,f5⟩:=hf it (by simp)
  exact Ef (I.ok.hd hc) st rd (by rw[hl];exact hi) λh' eb=>⟨rfl,I.turned (t':=s.toks) (λb o hb e=>eb b o hb e) f0 f1 f3 f4 f5⟩
 self:=λ_ _ _ _ _ st h=>wpAny_pyIter_valiter st h
end
def kR:Key->RV
 | .inl i=>.int i
 | .inr x=>.str x
def oR:bM->RV
 |none=>.ak
 |some k=>kR k
def lF(k:Bool)(kvs:bW):LR:=if k=true then kvs.map (λkv=>kR kv.1)else kvs.map (·.2)
def jj(k:Bool)(kvs:List (TK×RV)):LR:=if k=true then kvs.map (λkv=>.tup (kv.1.map oR))else kvs.map (·.2)
theorem Aa{K:ag}(k):Rep K H (kR k) (kV k):=by cases k<;>simp only[kR,kV,Rep]
theorem UW{K:ag}(k):Rep K H (oR k) (oV k):=by
 cases k with
 |none=>simp only[oR,oV,Rep]
 |some k=>exact Aa k
theorem Gs{K:ag}:∀ks:TK,ab K H (ks.map oR) (ks.map oV)
 | []=>ab.nil
 |k::ks=>ab.cons (UW k) (Gs ks)
theorem qo{K:ag}:∀{xs:List (κ×RV)} {ws:List (κ×V)} {i:Nat} {w:κ×V},aF K H xs ws->ws[i]? =some w->∃r,xs[i]? =some (w.1,r)/\Rep K H r w.2
 | [],ws,i,w,h,e=>by have h:ws= []:=h;subst h;simp at e
 |(k,x)::r,ws,i,w,h,e=>by
  obtain⟨v,t,rfl,h1,h2⟩:=h;cases i with
  |zero=>simp at e;subst e;exact⟨x,by simp,h1⟩
  |succ i=>
   obtain⟨q,a,b⟩:=qo (i:=i) h2 (by simpa using e)
   exact⟨q,by simpa using a,b⟩
section
variable {H0 Hs:Hp}{K:ag}{H1:Hp}{a:Addr}{o:Obj}{k:Bool}
theorem HV{un:RM->RM}(h:H1 a=some (.aV o (.dK ws)))(r:aF K H1 kvs ws)
 (th:∀H M,Ext H1 H->View K H M->M a=some (.fk kvs)->∃H',fh H0 H H'/\bp H H'/\Ext Hs H'/\View K H' (un M)):iz H0 Hs K (uS o a k) (lF k kvs) (λM=>M a=some (.fk kvs)) un H1 where
 turn:=λi H M e hv Z x hx=>by
  have W:=e.aI _ _ _ h;have J:(lF k kvs).length=ws.length:=by rw[<-ip r];unfold lF;split<;>simp
  have hi:i<ws.length:=by rw[<-J];exact(List.getElem?_eq_some_iff.mp hx).1
  refine⟨⟨_,W,rfl,hi⟩,λv H' y=>?_⟩
  obtain⟨rfl,u,Y,y⟩:=y;rw[W]at Y;cases Y;refine⟨.refl _,λ_ w=>w,?_⟩
  cases k with
  |true=>
   rw[if_pos rfl]at y;obtain⟨kv,e1,rfl⟩:=y;obtain⟨q,I,_⟩:=qo r e1;have:x=kR kv.1:=by simpa[lF,I]using hx.symm
   rw[this];exact Aa _
  |false=>
   rw[if_neg (by decide)]at y
   obtain⟨kv,e1,rfl⟩:=y;obtain⟨q,I,rq⟩:=qo r e1;have:x=q:=by simpa[lF,I]using hx.symm
   rw[this];exact Rep.ext e _ _ rq
 stop:=λi H M e hv Z hi=>by
  have J:(lF k kvs).length=ws.length:=by rw[<-ip r];unfold lF;split<;>simp
  exact⟨_,e.aI _ _ _ h,rfl,by rw[J]at hi;exact hi⟩
 cu:=th
theorem HU{un:RM->RM}(h:H1 a=some (.aV o (.dT ws)))(r:aF K H1 kvs ws)
 (th:∀H M,Ext H1 H->View K H M->M a=some (.ft kvs)->∃H',fh H0 H H'/\bp H H'/\Ext Hs H'/\View K H' (un M)):iz H0 Hs K (uS o a k) (jj k kvs) (λM=>M a=some (.ft kvs)) un H1 where
 turn:=λi H M e hv hm x hx=>by
  have W:=e.aI _ _ _ h;have J:(jj k kvs).length=ws.length:=by rw[<-ip r];unfold jj;split<;>simp
  have hi:i<ws.length:=by rw[<-J];exact(List.getElem?_eq_some_iff.mp hx).1
  refine⟨⟨_,W,rfl,hi⟩,λv H' y=>?_⟩
  obtain⟨rfl,u,Y,y⟩:=y;rw[W]at Y;cases Y;refine⟨.refl _,λ_ w=>w,?_⟩
  cases k with
  |true=>
   rw[if_pos rfl]at y;obtain⟨kv,b,e1,rfl,Z⟩:=y;obtain⟨q,I,_⟩:=qo r e1;have:x= .tup (kv.1.map oR):=by simpa[jj,I]using hx.symm
   rw[this];simp only[Rep];exact⟨b,_,rfl,Z,Gs _⟩
  |false=>
   rw[if_neg (by decide)]at y
   obtain⟨kv,e1,rfl⟩:=y;obtain⟨q,I,rq⟩:=qo r e1;have:x=q:=by simpa[jj,I]using hx.symm
   rw[this];exact Rep.ext e _ _ rq
 stop:=λi H M e hv hm hi=>by
  have J:(jj k kvs).length=ws.length:=by rw[<-ip r];unfold jj;split<;>simp
  exact⟨_,e.aI _ _ _ h,rfl,by rw[J]at hi;exact hi⟩
 cu:=th
end
noncomputable def qI (k:Bool)(Q:LR->(RM->Prop)->(RM->RM)->RM->Prop):aj:=λv M1=>match v with
 | .ref a=>match M1 a with
  |some (.dk kvs)=>Q (lF k kvs) (λM=>M a=some (.fk kvs)) (λM=>put M a (.dk kvs)) (put M1 a (.fk kvs))
  |some (.dt kvs)=>Q (jj k kvs) (λM=>M a=some (.ft kvs)) (λM=>put M a (.dt kvs)) (put M1 a (.ft kvs))
  |some (.fk kvs)=>Q (lF k kvs) (λM=>M a=some (.fk kvs)) id M1
  |some (.ft kvs)=>Q (jj k kvs) (λM=>M a=some (.ft kvs)) id M1
  |_=>False
 |_=>False
def Df(k:Bool)(te:ar):gn:=λσ M Q=>te σ M (qI k Q)
section
variable {X:Cx}{tg:Expr}
theorem hold{H H1:Hp}{s:Shared}{rv:RV}{v:V}{M1:RM}(I:Inv X pins σ0 H1 s)(e1:Ext H H1)(Z:View X.K H1 M1)(r1:Rep X.K H1 rv v)(q:qI k Q rv M1):
 ∃a o u H2 xs ok un M2,v= .ref a/\Inv X pins σ0 H2 s/\H2 a=some (.aV o u)/\jk u=true/\iz X.H₀ H X.K (uS o a k) xs ok un H2/\Q xs ok un M2/\Ext H H2/\View X.K H2 M2:=by
 cases rv<;>first|(exact(show False from q).elim)|skip
 rename_i a;simp only[Rep]at r1;unfold qI at q;simp only at q;split at q
 . rename_i kvs Y
   obtain⟨ho,W,J,rfl,r⟩:=Z a _ Y;obtain⟨ob,g,I2,n0⟩:=tS I W rfl;have ex:Ext H1 (upd H1 a (.aV ob (.dK J))):=Ext.write W rfl;refine⟨a,ob,.dK J,_,_,_,_,_,r1,I2,bQ,rfl,HV bQ (r.ext ex) λH2 M e hv hm=>?_,q,e1.trans ex,Z.write Y ⟨ob,J,rfl,r.ext ex⟩⟩
   have hH:=e.aI _ _ _ (bQ (H:=H1) (a:=a) (o:=.aV ob (.dK J)));have xw:bp H2 (upd H2 a (.dK J)):=bp.cu hH rfl;refine⟨upd H2 a (.dK J),.inr ⟨a,ob,_,hH,rfl,n0,rfl⟩,xw,⟨λb xs z=>?_,λb o' u' z=>?_⟩,hv.write hm ⟨J,rfl,aF.aS xw (r.ext (ex.trans e))⟩⟩
   . have z1:=e.bh _ _ (ex.bh _ _ (e1.bh _ _ z))
     rw[aq (by rintro rfl;rw[hH]at z1;cases z1)];exact z1
   . have z0:=e1.aI _ _ _ z
     rw[aq (by rintro rfl;rw[W]at z0;cases z0)];exact e.aI _ _ _ (ex.aI _ _ _ z0)
 . rename_i kvs Y
   obtain⟨ho,W,J,rfl,r⟩:=Z a _ Y;obtain⟨ob,g,I2,n0⟩:=tS I W rfl;have ex:Ext H1 (upd H1 a (.aV ob (.dT J))):=Ext.write W rfl;refine⟨a,ob,.dT J,_,_,_,_,_,r1,I2,bQ,rfl,HU bQ (r.ext ex) λH2 M e hv hm=>?_,q,e1.trans ex,Z.write Y ⟨ob,J,rfl,r.ext ex⟩⟩
   have hH:=e.aI _ _ _ (bQ (H:=H1) (a:=a) (o:=.aV ob (.dT J)));have xw:bp H2 (upd H2 a (.dT J)):=bp.cu hH rfl;refine⟨upd H2 a (.dT J),.inr ⟨a,ob,_,hH,rfl,n0,rfl⟩,xw,⟨λb xs z=>?_,λb o' u' z=>?_⟩,hv.write hm ⟨J,rfl,aF.aS xw (r.ext (ex.trans e))⟩⟩
   . have z1:=e.bh _ _ (ex.bh _ _ (e1.bh _ _ z))
     rw[aq (by rintro rfl;rw[hH]at z1;cases z1)];exact z1
   . have z0:=e1.aI _ _ _ z
     rw[aq (by rintro rfl;rw[W]at z0;cases z0)];exact e.aI _ _ _ (ex.aI _ _ _ z0)
 . rename_i kvs Y
   obtain⟨ho,W,ob,J,rfl,r⟩:=Z a _ Y;exact⟨a,ob,.dK J,H1,_,_,_,_,r1,I,W,rfl,HV W r (mn e1),q,e1,Z⟩
 . rename_i kvs Y
   obtain⟨ho,W,ob,J,rfl,r⟩:=Z a _ Y;exact⟨a,ob,.dT J,H1,_,_,_,_,r1,I,W,rfl,HU W r (mn e1),q,e1,Z⟩
 . exact q.elim
theorem Hi{s:Shared}{a:Addr}(I:Inv X pins σ0 H s)(h:H a=some (.aV o u))(J:jk u=true):s.TypeIs (.ref a) "dict"/\∀b,Value.ref a= .ref b->∃ob,s.heap.get? b=some ob/\ob.dict=none:=by
 obtain⟨es,ep,hd,rd,_⟩:=sG I h J;refine⟨rd.ty,λb e=>?_⟩
 cases e;obtain⟨o1,h1,h2,W⟩:=rd;exact⟨o1,h1,h2.2.1⟩
theorem XU{l:Expr}{te:ar}{ap p:Pos}(hl:ah X l te)(hbase:attributeBase l "values" X.env (eval l X.env)=eval l X.env)(hline:(ap.endLine==p.line)=true):gH X tg (.Call (.Attribute l "values" ap) [] [] p) (Df false te):=by
 intro pins s σ0 H R I h;obtain⟨σ,M,Q,hs,hv,ht,hk⟩:=h;refine wpAny_Call_method (T:="dict") (id:="dict.values") hbase rfl hline F.plainAttrs_dict F.slot_dict_values F.type_dict_values (aA (hl pins s σ0 H (λx H1=>∃rv M1,Rep X.K H1 rv x/\qI false Q rv M1/\Ext H H1/\View X.K H1 M1) I ⟨σ,M,_,hs,hv,ht,λrv M1 v H1 q e1 v1 r1=>⟨rv,M1,r1,q,e1,v1⟩⟩) λuv s1 zz=>?_);obtain⟨v,H1,I1,rl,rv,M1,r1,q,e1,v1⟩:=zz
 obtain⟨a,o,u,H2,xs,ok,un,M2,rfl,I2,hH,du,it,q,e2,v2⟩:=hold I1 e1 v1 r1 q;cases(show uv=Value.ref a from rl)
 obtain⟨es,ep,hd,rd,hS,_⟩:=sG I2 hH du;obtain⟨t1,t2⟩:=Hi I2 hH du;refine⟨t1,t2,method_meetsIn F.slot_dict_values F.entry_dict_values rfl (PySem.evalArgs_none ⟨rfl,t1,F.args_dict_values_1 _,_,El hS,⟨es,ep,rd⟩,?_⟩)⟩;have I3:Inv X pins σ0 H2 { s1 with heap:=s1.heap.push { cls:=.type "dict_values",data:=.fields #[.ref a] } }:=I2.kept (t':=s1.toks) λb o e=>Heap.get?_push_of_some _ e
 have rd3:ck (s1.heap.push { cls:=.type "dict_values",data:=.fields #[.ref a] }) a es ep:=by obtain⟨o1,h1,h2⟩:=rd;exact⟨o1,Heap.get?_push_of_some _ h1,h2⟩
 refine EE (s:={ s1 with heap:=s1.heap.push { cls:=.type "dict_values",data:=.fields #[.ref a] } }) ⟨_,Heap.get?_push_size _ rfl,rfl,rfl⟩ rd3 ?_
 refine⟨_,[_],_,_,H2,rfl,I3.kept (t':=s1.toks) λb o e=>Heap.get?_push_of_some _ e,Qv hd,⟨_,Heap.get?_push_size _ rfl,rfl,rfl⟩,λb hb=>?_,hk xs ok un M2 _ H2 q e2 v2 it⟩
 have e:=fH.mp hb;subst e;exact I3.fK (aU _) (I3.av.fresh (aU _))
end
def Itm(o:Obj)(a:Addr):It:=
 ⟨λi H=>∃I:List (Key×V),H a=some (.aV o (.dK I))/\i<I.length,λi H x H'=>∃(I:List (Key×V)) (kv:Key×V) (p:Addr),H a=some (.aV o (.dK I))/\I[i]? =some kv/\x= .ref p/\H p=none/\H'=upd H p (.tup [kV kv.1,kv.2]),λi H=>∃I:List (Key×V),H a=some (.aV o (.dK I))/\I.length<=i⟩
section
variable {X:Cx}
theorem zq{s:Shared}{a:Addr}(I:Inv X pins σ H s)(h:H a=some (.aV o (.dK ws))):∃vs es ep,o.data= .dict es ep/\KV ws vs/\s.heap.DictAt (eM X.prog X.w) a vs ep/\(a==sysModules)=false/\vs.length=es.size:=by
 obtain⟨g,z,y,vs,r,o',es,ep,e,c,dd,ks,ps,nd⟩:=I.av a _ h;rw[g]at e;cases e;exact⟨vs,es,ep,dd,r,⟨o,es,g,c,dd,ks,ps,nd⟩,y,by have:=ps.length;simp at this;omega⟩
theorem Of:entryFor table "dict_itemiterator.__iter__" =some Builtin.«dict_keyiterator.__iter__»:=entryFor_alias (id':="dict_keyiterator.__iter__") (by kernel_rfl) rfl (by decide+kernel) (by kernel_rfl)
theorem PZ{P:Program}{w:World}{K:ag}{o:Obj}{a it:Addr}{tk:Nat}(hd:o.data= .dict es ep):Turn P w K (.Tuple ts tk tp) (Itm o a) [it] it (λi h=>∃ok ov,IsItemIter h it a i es.size ep ok ov) where
 mem:=by simp
 obj:=λi h st b hb=>by
  have e:b=it:=by simpa using hb
  subst e;obtain⟨_,_,st⟩:=st;exact⟨_,st,λv z=>by cases z⟩
 keep:=λi h h' st k=>by obtain⟨x,y,st⟩:=st;exact⟨x,y,k it (by simp) _ st⟩
 item:=by
  intro X hP hw hK hc i pins s σ H E I hf ⟨x0,y0,st⟩ ⟨ws,hg,hi⟩;subst hP hw hK;obtain⟨vs,es',ep',d',r,da,hS,hl⟩:=zq I hg;rw[hd]at d';cases d';have hv:i<vs.length:=by have:=Paired.length r;omega
  obtain⟨kv,k1,k2,k3⟩:=vY (i:=i) r (by simp[hv]:vs[i]? =some vs[i])
  obtain⟨f0,f1,f2,f3,f4,f5⟩:=hf it (by simp)
  refine wpAny_pyNext_items_item (knd:=eM X.prog X.w) (k:=vs[i].1) (v:=vs[i].2) (by rw[hl];exact st) da (by simp[hv]) λkey h' hk st' tp' sz kp=>⟨_,rfl,?_⟩
  refine wpAny_letOwnedTupleGo_items (s:={ s with heap:=h' }) st' λh2 st2 sb=>?_
  have eR:=I.av.fresh (aU s.heap.objs.size);have hpi:s.heap.objs.size≠it:=Nat.ne_of_gt (bG st);have t2:h2.get? s.heap.objs.size=some { cls:=.type "tuple",data:=.seq #[key,vs[i].2] }:=sb.extBut _ _ hpi tp';have rk:Vals [kV kv.1,kv.2] [key,vs[i].2]:=.cons (by rw[k2];exact EU hk) (.cons k3 .nil)
  have I1:Inv X pins σ (upd H s.heap.objs.size (.tup [kV kv.1,kv.2])) { s with heap:=s.heap.push { cls:=.type "tuple",data:=.seq #[key,vs[i].2] },toks:=s.toks }:=
   I.laid (λb o e=>Heap.get?_push_of_some _ e) (aU _) ⟨by show 2<=sizeLine;decide,[key,vs[i].2],rk,IsTup.new s.heap _⟩
  have I2:Inv X pins σ (upd H s.heap.objs.size (.tup [kV kv.1,kv.2])) { s with heap:=h2 }:=Inv.turned (s:={ s with heap:=s.heap.push { cls:=.type "tuple",data:=.seq #[key,vs[i].2] },toks:=s.toks }) (h':=h2) (t':=s.toks) (it:=it) I1 (λb o hb e=>?_) (by rw[aq hpi.symm];exact f0) f1 f3 f4 f5
  . exact⟨.ref s.heap.objs.size,_,I2,rfl,⟨ws,kv,_,hg,k1,rfl,eR,rfl⟩,⟨_,_,by rw[<-hl];exact st2⟩,λb hb=>by
     have e:b=it:=by simpa using hb
     subst e;rw[aq hpi.symm];exact f0⟩
  . rcases Heap.get?_push_cases e with⟨rfl,rfl⟩|e'
    . exact t2
    . exact sb.extBut b o hb (kp b o hb e')
 done:=by
  intro X hP hw hK hc i pins s σ H E I hf ⟨x0,y0,st⟩ ⟨ws,hg,hi⟩;subst hP hw hK;obtain⟨vs,es',ep',d',r,da,hS,hl⟩:=zq I hg;rw[hd]at d';cases d';have hv:vs.length<=i:=by have:=Paired.length r;omega
  obtain⟨f0,f1,f2,f3,f4,f5⟩:=hf it (by simp)
  exact wpAny_pyNext_items_end (knd:=eM X.prog X.w) (I.ok.hd hc) (by rw[hl];exact st) da (by simp[hv]) λh' eb=>⟨rfl,I.turned (t':=s.toks) (λb o hb e=>eb b o hb e) f0 f1 f3 f4 f5⟩
 self:=λA i s Q E st h=>by
  obtain⟨x,y,st⟩:=st;have hT:s.TypeIs (.ref it) "dict_itemiterator":=⟨_,st,rfl⟩;refine wpAny_pyIter_slot hT F.slot_dict_itemiterator_iter (wpAny_call_entry F.slot_dict_itemiterator_iter hT Of ?_ (F.args_dict_itemiterator_iter_1 _));refine(?_:wpAny _ _ (ret (.ref it)) _ _ s);exact wpAny_pure ⟨_,rfl,"dict_itemiterator",_,hT,F.slot_dict_itemiterator_next.lookup,h⟩
def iN(kvs:bW):LR:=kvs.map λkv=>.tup [kR kv.1,kv.2]
theorem HW{K:ag}{H1:Hp}{a:Addr}{un:RM->RM}(h:H1 a=some (.aV o (.dK ws)))(r:aF K H1 kvs ws)
 (th:∀H M,Ext H1 H->View K H M->M a=some (.fk kvs)->∃H',fh H0 H H'/\bp H H'/\Ext Hs H'/\View K H' (un M)):iz H0 Hs K (Itm o a) (iN kvs) (λM=>M a=some (.fk kvs)) un H1 where
 turn:=λi H M e hv hm x hx=>by
  have W:=e.aI _ _ _ h;have I:(iN kvs).length=ws.length:=by rw[<-ip r];simp[iN]
  have hi:i<ws.length:=by rw[<-I];exact(List.getElem?_eq_some_iff.mp hx).1
  refine⟨⟨_,W,hi⟩,λv H' y=>?_⟩
  obtain⟨ws',kv,p,Y,e1,rfl,J,rfl⟩:=y;rw[W]at Y;cases Y;obtain⟨q,Z,rq⟩:=qo r e1;have:x= .tup [kR kv.1,q]:=by simpa[iN,Z]using hx.symm
  rw[this];exact⟨Ext.new J,λ_ w=>w.new J,qm J (ab.cons (Aa _) (ab.cons (Rep.ext e _ _ rq) ab.nil))⟩
 stop:=λi H M e hv hm hi=>by
  have I:(iN kvs).length=ws.length:=by rw[<-ip r];simp[iN]
  exact⟨_,e.aI _ _ _ h,by rw[I]at hi;exact hi⟩
 cu:=th
def qU(Q:LR->(RM->Prop)->(RM->RM)->RM->Prop):aj:=λv M1=>match v with
 | .ref a=>match M1 a with
  |some (.dk kvs)=>Q (iN kvs) (λM=>M a=some (.fk kvs)) (λM=>put M a (.dk kvs)) (put M1 a (.fk kvs))
  |some (.fk kvs)=>Q (iN kvs) (λM=>M a=some (.fk kvs)) id M1
  |_=>False
 |_=>False
def Dc(te:ar):gn:=λσ M Q=>te σ M (qU Q)
theorem XX{H H1:Hp}{s:Shared}{rv:RV}{v:V}{M1:RM}(I:Inv X pins σ0 H1 s)(e1:Ext H H1)(Z:View X.K H1 M1)(r1:Rep X.K H1 rv v)(q:qU Q rv M1):
 ∃a o J H2 xs ok un M2,v= .ref a/\Inv X pins σ0 H2 s/\H2 a=some (.aV o (.dK J))/\iz X.H₀ H X.K (Itm o a) xs ok un H2/\Q xs ok un M2/\Ext H H2/\View X.K H2 M2:=by
 cases rv<;>first|(exact(show False from q).elim)|skip
 rename_i a;simp only[Rep]at r1;unfold qU at q;simp only at q;split at q
 . rename_i kvs Y
   obtain⟨ho,W,J,rfl,r⟩:=Z a _ Y;obtain⟨ob,g,I2,n0⟩:=tS I W rfl;have ex:Ext H1 (upd H1 a (.aV ob (.dK J))):=Ext.write W rfl;refine⟨a,ob,J,_,_,_,_,_,r1,I2,bQ,HW bQ (r.ext ex) λH2 M e hv hm=>?_,q,e1.trans ex,Z.write Y ⟨ob,J,rfl,r.ext ex⟩⟩
   have hH:=e.aI _ _ _ (bQ (H:=H1) (a:=a) (o:=.aV ob (.dK J)));have xw:bp H2 (upd H2 a (.dK J)):=bp.cu hH rfl;refine⟨upd H2 a (.dK J),.inr ⟨a,ob,_,hH,rfl,n0,rfl⟩,xw,⟨λb xs z=>?_,λb o' u' z=>?_⟩,hv.write hm ⟨J,rfl,aF.aS xw (r.ext (ex.trans e))⟩⟩
   . have z1:=e.bh _ _ (ex.bh _ _ (e1.bh _ _ z))
     rw[aq (by rintro rfl;rw[hH]at z1;cases z1)];exact z1
   . have z0:=e1.aI _ _ _ z
     rw[aq (by rintro rfl;rw[W]at z0;cases z0)];exact e.aI _ _ _ (ex.aI _ _ _ z0)
 . rename_i kvs Y
   obtain⟨ho,W,ob,J,rfl,r⟩:=Z a _ Y;exact⟨a,ob,J,H1,_,_,_,_,r1,I,W,HW W r (mn e1),q,e1,Z⟩
 . exact q.elim
theorem U4{l:Expr}{te:ar}{ap p:Pos}{ts:aW}{tk:Nat}{tp:Pos}(hl:ah X l te)(hbase:attributeBase l "items" X.env (eval l X.env)=eval l X.env)(hline:(ap.endLine==p.line)=true):gH X (.Tuple ts tk tp) (.Call (.Attribute l "items" ap) [] [] p) (Dc te):=by
 intro pins s σ0 H R I h;obtain⟨σ,M,Q,hs,hv,ht,hk⟩:=h;refine wpAny_Call_method (T:="dict") (id:="dict.items") hbase rfl hline F.plainAttrs_dict F.slot_dict_items F.type_dict_items (aA (hl pins s σ0 H (λx H1=>∃rv M1,Rep X.K H1 rv x/\qU Q rv M1/\Ext H H1/\View X.K H1 M1) I ⟨σ,M,_,hs,hv,ht,λrv M1 v H1 q e1 v1 r1=>⟨rv,M1,r1,q,e1,v1⟩⟩) λuv s1 zz=>?_);obtain⟨v,H1,I1,rl,rv,M1,r1,q,e1,v1⟩:=zz
 obtain⟨a,o,ws,H2,xs,ok,un,M2,rfl,I2,hH,it,q,e2,v2⟩:=XX I1 e1 v1 r1 q;cases(show uv=Value.ref a from rl)
 obtain⟨vs,es,ep,hd,r,da,hS,hl⟩:=zq I2 hH;obtain⟨t1,t2⟩:=Hi I2 hH rfl;refine⟨t1,t2,method_meetsIn F.slot_dict_items F.entry_dict_items rfl (PySem.evalArgs_none ⟨rfl,t1,F.args_dict_items_1 _,_,meets_dict_items (eM X.prog X.w) a hS,⟨vs,da.dictOf⟩,?_⟩)⟩;have I3:Inv X pins σ0 H2 { s1 with heap:=s1.heap.push { cls:=.type "dict_items",data:=.fields #[.ref a] } }:=I2.kept (t':=s1.toks) λb o e=>Heap.get?_push_of_some _ e
 refine wpAny_pyIter_items (s:={ s1 with heap:=s1.heap.push { cls:=.type "dict_items",data:=.fields #[.ref a] } }) ⟨_,Heap.get?_push_size _ rfl,rfl,rfl⟩ (da.push _) ?_
 have hlt:a<s1.heap.objs.size:=da.lt_size;refine⟨_,[_],_,_,H2,rfl,I3.kept (t':=s1.toks) λb o e=>Heap.get?_push_of_some _ e,PZ hd,⟨_,_,by rw[<-hl];exact Heap.get?_push_size _ rfl⟩,λb hb=>?_,hk xs ok un M2 _ H2 q e2 v2 it⟩
 have e:=fH.mp hb;subst e;exact I3.fK (aU _) (I3.av.fresh (aU _))
end
section
variable {prog:Program}{w:World}{A:Around}{d r:Addr}{es:Array DictEntry}{ep:Nat}
theorem ck.keep{h h':Heap}(x:ck h d es ep)(k:∀o,h.get? d=some o->h'.get? d=some o):ck h' d es ep:=by obtain⟨o,h1,h2⟩:=x;exact⟨o,k o h1,h2⟩
theorem ck.lt(x:ck h d es ep):d<h.objs.size:=by obtain⟨o,h1,h2⟩:=x;exact bG h1
theorem Qu(hh:A.handled=none)(I)(hne:d≠I):Walks prog w A I [I,d] [I] es.size (λi v=>∃hi:i<es.size,v=es[i].val) (λi h=>h.IsValIter I d i es.size ep/\ck h d es ep) where
 sub:=λb J=>by simp at J;simp[J]
 frame:=λ_ _ _ st hk=>⟨st.1.at λo e=>hk I (by simp) o e,st.2.keep λo e=>hk d (by simp) o e⟩
 item:=λi s Q E hi st W=>Ee st.1 st.2 hi λh' Y Z=>W _ h' s.toks ⟨hi,rfl⟩ ⟨Y,st.2.keep λo e=>Z.extBut d o hne e⟩ λb o J e=>Z.extBut b o (λh=>J (by simp[h])) e
 done:=λs Q E st W=>Ef hh st.1 st.2 (aU _) λh' he'=>W h' s.toks λb o J e=>he' b o (λh=>J (by simp[h])) e
 self:=λ_ _ _ _ st W=>wpAny_pyIter_valiter st.1 W
theorem Q2:PySem.W.KdlSrc prog w "dict_values" r d es.size (λi v=>∃hi:i<es.size,v=es[i].val) (λh=>h.IsValuesView r d/\ck h d es ep) where
 type:=λ_ I=>I.1.typeIs
 there:=λ_ I=>⟨let⟨_,ho,_⟩:=I.1;bG ho,I.2.lt⟩
 keep:=λ_ _ I hk=>⟨let⟨o,ho,x⟩:=I.1;⟨o,hk r (.inl rfl) o ho,x⟩,I.2.keep λo e=>hk d (.inr rfl) o e⟩
 notList:=by decide
 notTuple:=by decide
 hint:=λ_ _ _ _ I J=>PySem.W.kdl_hint_values I.1.typeIs J
 iter:=λ_ _ Y I=>⟨_,_,(λ_ _ J=>EE I.1 I.2 J),Qu Y _ (cW I.2.lt),⟨⟨_,Heap.get?_push_size _ rfl,rfl,rfl⟩,I.2.keep λo e=>Heap.get?_push_of_some _ e⟩⟩
end
def ur:RO->Option (LR)
 | .dk kvs=>some (kvs.map (·.2))
 | .fk kvs=>some (kvs.map (·.2))
 | .dt kvs=>some (kvs.map (·.2))
 | .ft kvs=>some (kvs.map (·.2))
 |_=>none
def rR(md:Bool)(Q:aj):aj:=λv M=>match v with
 | .ref a=>match(M a).bind ur with
  |some xs=>jA md xs M Q
  |none=>False
 |_=>False
def K7(md:Bool)(te:ar):ar:=λσ M Q=>te σ M (rR md Q)
section
variable {X:Cx}
theorem tw{K:ag}:∀{xs:List (κ×RV)} {ws:List (κ×V)},aF K H xs ws->ab K H (xs.map (·.2)) (ws.map (·.2))
 | [],ws,h=>by have h:ws= []:=h;subst h;exact ab.nil
 |(k,x)::r,ws,h=>by obtain⟨v,t,rfl,h1,h2⟩:=h;exact ab.cons h1 (tw h2)
theorem VR{s:Shared}{a:Addr}(I:Inv X pins σ0 H s)(hv:View X.K H M)(hm:M a=some o)(hd:ur o=some xs):
 ∃vs es ep,ck s.heap a es ep/\(a==sysModules)=false/\es.size=vs.length/\vs.length<=sizeLine/\ab X.K H xs vs/\∀i (hi:i<es.size),∃x,vs[i]? =some x/\RelV x es[i].val:=by
 obtain⟨ho,eh,r⟩:=hv a o hm;have W:∀u H2 ob vs,Inv X pins σ0 H2 s->H2 a=some (.aV ob u)->jk u=true->(∀i x,valAt u i x->vs[i]? =some x)->lJ u=vs.length->ab X.K H xs vs->∃vs es ep,ck s.heap a es ep/\(a==sysModules)=false/\es.size=vs.length/\vs.length<=sizeLine/\ab X.K H xs vs/\∀i (hi:i<es.size),∃x,vs[i]? =some x/\RelV x es[i].val:=λu H2 ob vs Z h2 du hva hl hr=>by
  obtain⟨es,ep,hd,rd,hS,e1,e2,hall⟩:=sG Z h2 du;exact⟨vs,es,ep,rd,hS,by rw[e1,hl],by rw[<-hl];exact e2,hr,λi hi=>by obtain⟨_,x,k1,k2⟩:=hall i hi;exact⟨x,hva i x k1,k2⟩⟩
 have vK:∀(J:List (Key×V)) i x,valAt (.dK J) i x->(J.map (·.2))[i]? =some x:=λws i x ⟨kv,e,z⟩=>by rw[List.getElem?_map,e,z];rfl
 have vT:∀(J:List (TK×V)) i x,valAt (.dT J) i x->(J.map (·.2))[i]? =some x:=λws i x ⟨kv,e,z⟩=>by rw[List.getElem?_map,e,z];rfl
 cases o<;>first|(cases hd;done)|skip
 . obtain⟨J,rfl,Y⟩:=r
   cases hd;obtain⟨ob,g,Z,n0⟩:=tS I eh rfl;exact W _ _ ob (J.map (·.2)) Z bQ rfl (vK J) (by simp[lJ]) (tw Y)
 . obtain⟨J,rfl,Y⟩:=r
   cases hd;obtain⟨ob,g,Z,n0⟩:=tS I eh rfl;exact W _ _ ob (J.map (·.2)) Z bQ rfl (vT J) (by simp[lJ]) (tw Y)
 . obtain⟨ob,J,rfl,Y⟩:=r
   cases hd;exact W _ _ ob (J.map (·.2)) I eh rfl (vK J) (by simp[lJ]) (tw Y)
 . obtain⟨ob,J,rfl,Y⟩:=r
   cases hd;exact W _ _ ob (J.map (·.2)) I eh rfl (vT J) (by simp[lJ]) (tw Y)
theorem EA:∀{vs:LV} {us:au},us.length=vs.length->(∀(i:Nat) u,us[i]? =some u->∃x,vs[i]? =some x/\RelV x u)->Vals vs us
 | [],[],_,_=>.nil
 | [],_::_,h,_=>by cases h
 |_::_,[],h,_=>by cases h
 |v::vs,u::us,h,f=>by
  obtain⟨x,e,r⟩:=f 0 u rfl;cases e;exact .cons r (EA (by simpa using h) λi u e=>f (i+1) u (by simpa using e))
theorem Yd{l:Expr}{te:ar}{md:Bool}{p1 ap p2 pos:Pos}(hml:X.mg "list" =none)(hc:X.calm=true)(hl:ah X l te)(hgl:Gl X "list")(hbase:attributeBase l "values" X.env (eval l X.env)=eval l X.env)(hline:(ap.endLine==p2.line)=true):
 ah X (.Call (.Name "list" p1) [.Call (.Attribute l "values" ap) [] [] p2] [] pos) (K7 md te):=by
 intro pins s σ0 H Q0 I h;obtain⟨σ,M,Q,hs,hv,ht,hk⟩:=h;have he0:starEach [Expr.Call (.Attribute l "values" ap) [] [] p2] X.env=(false,eval (Expr.Call (.Attribute l "values" ap) [] [] p2) X.env)::starEach [] X.env:=rfl;refine Call_ (mB I hgl hml boot_list (uK ?_ he0 rfl));rw[he0];show wpAny _ _ (spliced ((false,eval (Expr.Call (.Attribute l "values" ap) [] [] p2) X.env)::backTo pos (starEach [] X.env))) _ _ s;refine Calls.spliced_cons (wpAny_Call_method (T:="dict") (id:="dict.values") hbase rfl hline F.plainAttrs_dict F.slot_dict_values F.type_dict_values (aA (hl pins s σ0 H (λx H1=>∃rv M1,Rep X.K H1 rv x/\rR md Q rv M1/\Ext H H1/\View X.K H1 M1) I ⟨σ,M,_,hs,hv,ht,λrv M1 v H1 q e1 v1 r1=>⟨rv,M1,r1,q,e1,v1⟩⟩) λuv s1 zz=>?_));obtain⟨v,H1,I1,rl,rv,M1,r1,q,e1,v1⟩:=zz
 cases rv<;>first|(exact(show False from q).elim)|skip
 rename_i a;simp only[Rep]at r1;subst r1;cases(show uv=Value.ref a from rl)
 unfold rR at q;simp only at q;split at q
 . rename_i xs ex
   obtain⟨o,hm,hd⟩:=Option.bind_eq_some_iff.mp ex;obtain⟨vs,es,ep,rd,hS,e2,e3,hr,hall⟩:=VR I1 v1 hm hd;refine⟨rd.ty,λb e=>by cases e;obtain⟨o1,h1,h2,h3⟩:=rd;exact⟨o1,h1,h2.2.1⟩,method_meetsIn F.slot_dict_values F.entry_dict_values rfl (PySem.evalArgs_none ⟨rfl,rd.ty,F.args_dict_values_1 _,_,El hS,⟨es,ep,rd⟩,Calls.spliced_nil ?_⟩)⟩
   have I3:Inv X pins σ0 H1 { s1 with heap:=s1.heap.push { cls:=.type "dict_values",data:=.fields #[.ref a] } }:=I1.kept (t':=s1.toks) λb o e=>Heap.get?_push_of_some _ e
   refine PySem.W.kdl_call (s:={ s1 with heap:=s1.heap.push { cls:=.type "dict_values",data:=.fields #[.ref a] } }) Q2 (I3.ok.hd hc) ⟨⟨_,Heap.get?_push_size _ rfl,rfl,rfl⟩,rd.keep λo e=>Heap.get?_push_of_some _ e⟩ (by rw[e2];exact e3) λh' tk acc c' kp hget hit=>?_
   have hv':Vals vs acc.toList:=EA (by simp[hit.1,e2]) λi u e=>by
    obtain⟨hi,rfl⟩:=hit.2 i u (by rw[<-Array.getElem?_toList];exact e)
    exact hall i hi
   have eR:=I3.av.fresh (aU _);have I4:=I3.laid (t':=tk) (o:=.lst vs) (h':=h') kp (aU _) ⟨e3,acc.toList,c',hv',by simpa using hget⟩
   cases md with
   |true=>exact⟨.ref _,_,I4,rfl,hk (.ref _) _ _ _ (q _ (v1.free eR)) (e1.trans (Ext.new eR)) (v1.cU eR ⟨vs,rfl,ab.ext (Ext.new eR) _ _ hr⟩) (by simp only[Rep])⟩
   |false=>exact frozen ⟨.ref _,_,I4,rfl,H1,_,vs,rfl,eR,rfl,λo=>hk _ M1 _ _ q (e1.trans (Ext.new eR)) (v1.new eR) (ly eR hr)⟩
 . exact q.elim
end
def js:bM->bM->Bool
 |some (.inl _),some (.inl _)=>true
 |some (.inr _),some (.inr _)=>true
 |_,_=>false
def iT(r:TK):RV:=.tup (r.map oR)
section
variable {X:Cx}
def Di:LR->RM->aj->Prop:=λrs M Q=>∃bs:List Bool,rs= [.ls (bs.map RV.bl)]/\Q (.bl (bs.any id)) M
theorem range_any(bs:List Bool):(List.range bs.length).any (λi=>bs.getD i true)=bs.any id:=by
 induction bs with
 |nil=>rfl
 |cons b bs ih=>
  rw[eG,yl,jE,List.any_map,jE];have:((λi=>(b::bs).getD i true) ∘ Nat.succ)=λi=>bs.getD i true:=by funext i;rfl
  rw[this,ih];rfl
theorem Sr(hc:X.calm=true):dw X (.builtin "any") (fC X.K Di):=by
 intro pins s σ H xs us Q0 I rl h;obtain⟨rs,M,Q,rr,hv,⟨bs,rfl,hq⟩,hk⟩:=h;obtain⟨v,rfl,r1⟩:=rr.one;simp only[Rep]at r1;obtain⟨a,vs,rfl,h1,h2⟩:=r1;have:=zL h2;subst this;obtain⟨u,rfl,ru⟩:=rl.one;cases ru;obtain⟨ae,rv,p,hz⟩:=I.list h1.sq;have:=zH rv;subst this;have hlt:a<s.heap.objs.size:=by obtain⟨o,n,e,_⟩:=p;exact bG e
 refine call_any_walk (wpAny_pyIter_list p.isList ?_);have hd:X.A.in1.handled=none:=I.ok.hd hc;refine⟨s.heap.objs.size,_,_,_,_,_,λi=>bs.getD i true,rfl,Walks.list hd s.heap.objs.size a (cW hlt) (bs.map Value.bool).toArray,⟨⟨_,Heap.get?_push_size _ rfl,rfl,rfl⟩,p.isList.push _⟩,?_,?_⟩
 . intro i v s' Q' E' hP Y
   have J:(bs.map Value.bool)[i]? =some v:=by simpa using hP
   rw[List.getElem?_map]at J;cases e:bs[i]? with
   |none=>rw[e]at J;cases J
   |some b=>
    rw[e]at J;have Z:bs.getD i true=b:=by rw[List.getD_eq_getElem?_getD,e];rfl
    cases J;have W:Q' (bs.getD i true) s':=Y;rw[Z]at W;exact wpAny_truthy_bool W
 . intro h' tk hk'
   have I1:Inv X pins σ H { s with heap:=s.heap.push { cls:=.type "list_iterator",data:=.fields #[.ref a,.int 0 0] } }:=I.kept (t':=s.toks) λb o e=>Heap.get?_push_of_some _ e
   obtain⟨f0,f1,f2,f3,f4,f5⟩:=I.fK (aU _) (I.av.fresh (aU _));have I2:Inv X pins σ H { s with heap:=h',toks:=tk }:=by
    have z:=I1.turned (h':=h') (t':=tk) (it:=s.heap.objs.size) (λb o Z e=>hk' b o (by simpa using Z) e) f0 f1 f3 f4 f5
    exact z
   refine⟨.bl (bs.any id),H,I2,?_,hk _ M _ H hq (.refl H) hv (by simp only[Rep])⟩
   show _=_;rw[<-range_any];simp
theorem VI:bootBuiltins "any" =some (.builtin "any"):=by decide+kernel
def AR:LR->RM->aj->Prop:=λrs M Q=>match rs with
 | [.bl b]=>Q (.int (if b then 1 else 0)) M
 |_=>False
theorem Nr:dw X (.type "int") (fC X.K AR):=by
 intro pins s σ H xs us Q0 I Y h;obtain⟨rs,M,Q,Z,W,J,hk⟩:=h;unfold AR at J;split at J
 . rename_i b
   obtain⟨v,rfl,r1⟩:=Z.one;simp only[Rep]at r1;subst r1;obtain⟨u,rfl,ru⟩:=Y.one;cases ru;exact call_int_bool ⟨.int _,H,I.kept λb o e=>e,⟨_,rfl⟩,hk _ M _ H J (.refl H) W (by simp only[Rep])⟩
 . exact J.elim
variable {tg:Expr}{pos:Pos}
def xM(I:az):gn:=λ_ M Q=>Q (I.map RV.str) cV id M
theorem Gr{K:ag}:∀{I:az},ab K H (I.map RV.str) (I.map V.str)
 | []=>ab.nil
 |_::_=>ab.cons (by simp only[Rep]) Gr
theorem Nj{x:Str}{ss:az}(h:pG X.K X.mg x ss)(hg:Gl X x)(hd:(x==("__debug__":Str))=false):gH X tg (.Name x pos) (xM ss):=by
 obtain⟨a,hm,hr⟩:=h;intro pins s σ0 H R I h;obtain⟨σ,M,Q,hs,hv,ht,hk⟩:=h;refine aA (GL (v:=.ref a) hg hm rfl hd pins s σ0 H (λx H1=>x= .ref a/\H1=H) I ⟨rfl,rfl⟩) λu s1 zz=>?_;obtain⟨v,H1,I1,r1,q1⟩:=zz
 obtain⟨rfl,rfl⟩:=q1;cases r1;have h1:bS X.K H1 a (ss.map V.str):=.inr hr;obtain⟨ae,rv,p,hz⟩:=I1.tuple h1;refine wpAny_pyIter_tuple (show s1.heap.IsTuple a ae.toArray from p) ?_
 refine⟨s1.heap.objs.size,[s1.heap.objs.size],_,_,H1,rfl,I1.kept (t':=s1.toks) λb o e=>Heap.get?_push_of_some _ e,EB a _,⟨_,Heap.get?_push_size _ rfl,rfl,rfl⟩,λb hb=>?_,hk _ cV id M _ H1 ht (.refl H1) hv (HR h1 Gr (.refl H1))⟩
 have e:b=s1.heap.objs.size:=by simpa using hb
 subst e;exact I1.fK (aU _) (I1.av.fresh (aU _))
end
section
variable {prog:Program}{w:World}{A:Around}{s:Shared}{E:aP}
structure xH(v:Str)(params:Arguments)(scope:Scope):Prop where
 bd:∀name qual body pm cd ct u,bindArgs (kla_fn name qual params body scope [] pm cd ct) ⟨[u],[]⟩=pure [(v,u)]
 loc:scope.names.lookup v=some .local
 cell:∀y∈scope.names,y.2≠.cell
 co:scope.isCoroutine=false
 gen:scope.isGenerator=false
 kind:scope.kind= .function
 iG:(v==("__debug__":Str))=false
theorem dM.kp{h h':Heap}{x dx C:Addr}(O:dM h x dx C mA)(k:∀b o,h.get? b=some o->h'.get? b=some o):dM h' x dx C mA:=
 let⟨o,es,ep,ho,r⟩:=O.ns;⟨k _ _ O.obj,⟨o,es,ep,k _ _ ho,r⟩,O.ne⟩
theorem TV{K:Frag}{f c' x C dx:Addr}{name I v fld:Str}{p1 p2:Pos}
 (J:A.depth<recursionLimit) (js:K.In s.heap) (lim:s.heap.NoLimit) (L:xH v params scope)
 (ho:s.heap.get? f=some (kla_obj name I params (.Attribute (.Name v p1) fld p2) scope [] pm c' ctv)) (Y:s.heap.CodeRec (.ref c') I)
 (O:dM s.heap x dx C mA) (c:cI K C) (n:aR K C fld) (hu:mA fld=some u) (hh:handedIn u=true)
 (h:∀h' tk,(∀b o,s.heap.get? b=some o->h'.get? b=some o)->Q u { s with heap:=h',toks:=tk }):
 wpAny (model prog w) A (call (.ref f) [.ref x]) Q E s:=by
 refine wpAny_call (kla_callFunE J ho rfl L.co L.gen rfl Y ?_);rw[L.bd];refine wpAny_pure (wpAny_newFunctionEnv L.cell (λy hy=>by cases fH.mp hy;exact L.loc) (λh₁ Z W=>⟨lim.fresh _ W,kla_codeExpr ?_⟩) L.kind)
 have kp:∀b o,s.heap.get? b=some o->h₁.get? b=some o:=λb o e=>W.extBut b o (cW (bG e)) (Heap.get?_push_of_some _ e)
 refine Ha rfl (wpAny_Name (wpAny_loadName_local (v:=Value.ref x) L.kind (show _=_ from L.loc) Z (by simp) ?_) L.iG)
 refine get_map (K:=K) (js.keeps kp) (dM.kp O kp) (c.get fld) c.hd n hu hh ?_;exact h _ _ kp
end
section
variable {X:Cx}{pins:aG}{σ:L2.St}{H:Hp}{s:Shared}{h':Heap}
theorem Wo{l f c' C:Addr}{name Y v fld:Str}{p1 p2:Pos}{as:List Addr}{ks:List Int}(I:Inv X pins σ H s)
 (hl:s.heap.IsList l (as.map Value.ref).toArray) (hlen:ks.length=as.length) (h64:as.length<64) (hi:∀(i:Nat) a k,as[i]? =some a->ks[i]? =some k->∃dx fs,H a=some (.ins C dx fs)/\fs.lookup fld=some (.int k))
 (Z:X.A.depth<recursionLimit) (L:xH v params scope) (ho:s.heap.get? f=some (kla_obj name Y params (.Attribute (.Name v p1) fld p2) scope [] pm c' ctv)) (hcd:s.heap.CodeRec (.ref c') Y)
 (c:cI X.K C) (n:aR X.K C fld)
 (h:∀D h' tk out ep,(∀m,s.heap.Ns X.env.locals m->h'.Ns X.env.locals m)->(∀b o,b≠X.env.locals->s.heap.get? b=some o->h'.get? b=some o)->s.heap.get? D=none->D≠X.env.locals->h'.get? D=some (seqObj "list" out ep)->KskOut false ks (as.map Value.ref) out.toList->Q (.ref D) { s with heap:=h',toks:=tk }):
 wpAny (model X.prog X.w) X.A (call (.builtin "sorted") [.ref l] [(Str.ofString "key",.ref f)]) Q E s:=by
 obtain⟨m,F⟩:=I.fr;have nL:∀b,(∃m',s.heap.Ns X.env.locals m')->b=X.env.locals->∀o,s.heap.get? b=some o->∃es ep,o.data= .dict es ep:=λb ⟨m',o',es,ep,q,d,_⟩ e o z=>by
  rw[e,q]at z;cases z;exact⟨es,ep,d⟩
 have fL:f≠X.env.locals:=λe=>by obtain⟨_,_,d⟩:=nL f ⟨m,F.ns⟩ e _ ho;cases d
 have ho':=ho;obtain⟨c1,oc,vc,tc,ec,gc,dc,qc⟩:=hcd;cases ec;have cL:c'≠X.env.locals:=λe=>by obtain⟨_,_,d⟩:=nL c' ⟨m,F.ns⟩ e _ gc;rw[dc]at d;cases d
 have aL:∀b u,H b=some u->b≠X.env.locals:=λb u e z=>by rw[z,I.free]at e;cases e
 refine ksk_sorted (h₀:=X.base) (news:=rest X.base s.heap X.env.locals s.heap.objs.size) (kz:=ks) (f:=.ref f) F (λp J=>Rv p (cH.mp J).1) hl (by rw[br];exact hlen) (by rw[br];exact h64) (ksk_s1 _ _) (λx=>ksk_l1 _ _) (λx=>ksk_t1 f x) ?turn ?fin
 case turn=>
  intro i v' k hv hk h1 tk own W N1;rw[List.getElem?_map]at hv;cases ea:as[i]? with
  |none=>rw[ea]at hv;cases hv
  |some a=>
   rw[ea]at hv;cases hv;obtain⟨dx,fs,e1,e2⟩:=hi i a k ea hk;have kp:∀b o,b≠X.env.locals->s.heap.get? b=some o->h1.get? b=some o:=λb o hb e=>Ej (d:=s.heap.objs.size) I.bk W (λp J=>N1 p (yn _ J)) b o hb (cW (bG e)) e
   obtain⟨mA,O,r,_,_,hdx⟩:=wW I.av e1;obtain⟨u,hu,ru⟩:=bN.some_of (v:=V.int k) (o:=mA fld) (by rw[<-e2];exact r fld)
   obtain⟨t,rfl⟩:=(show ∃t,u=Value.int k t from ru)
   obtain⟨od,es,ep,g1,g2⟩:=O.ns;have O1:dM h1 a dx C mA:=⟨kp _ _ (aL a _ e1) O.obj,⟨od,es,ep,kp _ _ (aL dx _ hdx) g1,g2⟩,O.ne⟩;refine TV (K:=X.K) (s:={ s with heap:=h1,toks:=tk }) Z (I.ok.mod.js.keeps W.keep) (I.ok.mod.nolimit.keeps W.keep) L (kp _ _ fL ho') ⟨c',oc,vc,tc,rfl,kp _ _ cL gc,dc,qc⟩ O1 c n hu rfl λh2 tk2 k2=>?_
   exact KskEnd.intro ⟨(by obtain⟨o,es,ep,g,r⟩:=W.ns;exact⟨o,es,ep,k2 _ _ g,r⟩),λb o e=>k2 b o (W.keep b o e),W.above⟩ (λp J=>⟨k2 _ _ (N1 p J).1,(N1 p J).2⟩) λp J=>J
 case fin=>
  intro D h1 tk out ep W N1 lt ko;have kp:∀b o,b≠X.env.locals->s.heap.get? b=some o->h1.get? b=some o:=λb o hb e=>Ej (d:=s.heap.objs.size) I.bk W (λp J=>N1 p (gA _ J)) b o hb (cW (bG e)) e
  have hD:=N1 (D,seqObj "list" out ep) iC;refine h D h1 tk out ep (λm' hm'=>by rw[hm'.eq_nsMap,<-F.ns.eq_nsMap];exact W.ns) kp ?_ hD.2.1 hD.1 ko
  cases q:s.heap.get? D with
  |none=>rfl
  |some o=>exact absurd (lt _ (FC hD.2.1 hD.2.2 q (cW (bG q)))) (lW _)
end
theorem zU{P:Program}{w:World}{a:Addr}{x:Option Addr}(e:fY a pos x h):aD P w H h a (.ext (fY a pos x)):=⟨e,⟨_,e⟩,λ_ _ e k=>k _ e⟩
section
variable {X:Cx}{pins:aG}{σ:L2.St}{H:Hp}{s:Shared}{P c c':Addr}{pos:Pos}{h':Heap}{u:HO}{oc:Obj}
theorem Inv.pK(I:Inv X pins σ H s)(Y:H P=some (.ext (fY P pos none)))(k:∀b o,b≠P->s.heap.get? b=some o->h'.get? b=some o)(hc:s.heap.objs.size<=c')(W:h'.get? c'=some oc)(ht:fY P pos (some c') h'):
 Inv X pins σ (upd (upd H P (.ext (fY P pos (some c')))) c' (.aV oc (.own c'))) { s with heap:=h',toks:=t' }:=by
 have hn:H c'=none:=I.av.fresh hc;have cP:c'≠P:=Ne.symm (fF Y hn);have Z:∀b,H b=none->b≠P:=λb n z=>by rw[z,Y]at n;cases n
 have nc:∀b o,s.heap.get? b=some o->b≠c':=λb o e=>cW (eF (bG e) hc)
 have kp:∀b u,H b=some u->b≠P->upd (upd H P (.ext (fY P pos (some c')))) c' (.aV oc (.own c')) b=some u:=λb u e z=>by rw[aq (fF e hn),aq z];exact e
 have J:∀b u,H b=some u->u≠.ext (fY P pos none)->b≠P:=λb u e z y=>by subst y;rw[Y]at e;exact z (Option.some.inj e).symm
 refine I.un ⟨λb o e n _ _=>k b o (Z b n) e,λb o e n _ _=>⟨o.slots,k b o (Z b n) e⟩,λb o e n _=>(aq (nc b o e)).trans ((aq (Z b n)).trans n),λb o e _=>?_,λb xs e=>kp b _ e (J b _ e nofun),λb o u e=>kp b _ e (J b _ e nofun),λb ps e=>⟨#[],(kp b _ e (J b _ e nofun)).trans (by simp)⟩⟩ λb u e=>?_
 . by_cases z:b=P
   . exact⟨_,z ▸ ht⟩
   . exact⟨o,k b o z e⟩
 . by_cases z:b=c'
   . subst z;rw[bQ]at e;cases e;exact⟨W,_,W⟩
   . rw[aq z]at e
     by_cases y:b=P
     . subst y;rw[bQ]at e;cases e;exact zU ht
     . rw[aq y]at e
       refine(I.av b u e).fu (λd v hd q=>k d v ?_ q) (λd q=>kp d _ q (J d _ q nofun)) λd xs q=>kp d _ q (J d _ q nofun)
       rcases hd with rfl|q
       . exact y
       . exact J d _ q nofun
theorem RG{q:Str}{ho:HO}{body:Expr}{Q:aP}(I:Inv X pins σ H s)(hP:H P=some ho)(r:cS X.K H (.tb P pos q) ho)
 (hcode:X.env.code= .ref c) (C:CodeHd X.base c P) (hb:X.base.BuiltinsAt X.mg P) (hgP:mainGlobals≠P) (hdef:defaultsOf params X.env=([],[])) (hcl:closureFor scope X.env=pure []) (hq:X.env.qual++("<lambda>":Str)=q)
 (h:∀f c' ctv h' tk H',Inv X pins σ H' { s with heap:=h',toks:=tk }->Ext H H'->(∀b u,H b=some u->b≠P->H' b=some u)->(∃ho',H' P=some ho'/\cS X.K H' (.tb P pos q) ho')->
  h'.get? f=some (kla_obj "<lambda>" q params body scope [] ((X.mg "__name__").getD .none) c' ctv)->h'.CodeRec (.ref c') q->Q (.ref f) { s with heap:=h',toks:=tk }):
 wpAny M A (eval (.Lambda params body scope pos) X.env) Q E s:=by
 subst hq;have hg:s.heap.Ns mainGlobals X.mg:=by obtain⟨o,es,ep,e,z⟩:=I.ok.mod.glob;exact⟨o,es,ep,I.bk _ _ e,z⟩
 have hb':s.heap.BuiltinsAt X.mg P:=by obtain⟨bm,o,b1,b2,b3,b4,b5,b6⟩:=hb;exact⟨bm,o,b1,b2,b3,b4,I.bk _ _ b5,b6⟩
 refine kla_eval hdef ?_;rcases r with rfl|⟨c',oc,vs,t,rfl,hc',hd,hv⟩
 . have ht:fY P pos none s.heap:=(I.av P _ hP).1
   refine kla_makeFunction (mg:=X.mg) (clos:=[]) (ps:=#[]) hcl I.ok.glob hg hcode (C.keeps I.bk) ht (by first|trivial|decide|simp[TriplesOk]) rfl hgP hb' λc' ctv h1 tk hx hge hlt hrec htb=>?_
   obtain⟨c2,oc,vs,t,e2,hoc,hd,hv⟩:=hrec;cases e2;have I':=R.Inv.pK (t':=tk) (h':=h1.push (kla_obj "<lambda>" (X.env.qual++("<lambda>":Str)) params body scope [] ((X.mg "__name__").getD .none) c' ctv)) (c':=c') (oc:=oc) I hP (λb o hb e=>Heap.get?_push_of_some _ (hx b o hb e)) hge (Heap.get?_push_of_some _ hoc) (Heap.get?_push_of_some _ htb)
   have hn:H c'=none:=I.av.fresh hge;have cP:c'≠P:=Ne.symm (fF hP hn);have kp:∀b u,H b=some u->b≠P->upd (upd H P (.ext (fY P pos (some c')))) c' (.aV oc (.own c')) b=some u:=λb u e z=>by rw[aq (fF e hn),aq z];exact e
   have np:∀b u,H b=some u->u≠.ext (fY P pos none)->b≠P:=λb u e z y=>by subst y;rw[hP]at e;exact z (Option.some.inj e).symm
   refine h _ c' ctv _ tk _ I' ⟨λb xs e=>kp b _ e (np b _ e nofun),λb o u e=>kp b _ e (np b _ e nofun)⟩ kp ⟨_,by rw[aq (Ne.symm cP)];exact bQ,.inr ⟨c',oc,vs,t,rfl,bQ,hd,hv⟩⟩ (Heap.get?_push_size _ rfl) ⟨c',oc,vs,t,rfl,Heap.get?_push_of_some _ hoc,hd,hv⟩
 . have ht:fY P pos (some c') s.heap:=(I.av P _ hP).1
   have hoc:s.heap.get? c'=some oc:=(I.av c' _ hc').1;refine kla_makeFunctionHit (mg:=X.mg) (clos:=[]) (ps:=#[rawInt pos.line,rawInt pos.col,.ref c']) (cv:=.ref c') hcl I.ok.glob hg hcode (C.keeps I.bk) ht (by first|trivial|decide|simp[TriplesOk]) (by simp[codeAmong,rawInt]) hb' λctv h1 tk hk hsz=>?_
   exact h _ c' ctv _ tk H (I.kept (t':=tk) λb o e=>Heap.get?_push_of_some _ (hk b o e)) (.refl H) (λb u e _=>e) ⟨_,hP,.inr ⟨c',oc,vs,t,rfl,hc',hd,hv⟩⟩ (Heap.get?_push_size _ rfl) ⟨c',oc,vs,t,rfl,Heap.get?_push_of_some _ (hk _ _ hoc),hd,hv⟩
end
theorem Gv{K:Frag}:∀{as:List Addr} {vs:LV},ab K H (as.map RV.ref) vs->vs=as.map V.ref
 | [],_,h=>by simpa only[pS,ab]using h
 |a::as,vs,h=>by
  simp only[bT,ab,Rep]at h;obtain⟨v,r,rfl,rfl,h2⟩:=h;rw[Gv h2];rfl
theorem FI:∀{as:List Addr} {us:au},Vals (as.map V.ref) us->us=as.map Value.ref
 | [],_,h=>by rw[pS]at h;cases h;rfl
 |a::as,_,h=>by
  rw[bT]at h;cases h with
  |cons r t=>rw[FI t];cases(show _=Value.ref a from r);rfl
theorem FT{K:Frag}:∀{as:List Addr},ab K H (as.map RV.ref) (as.map V.ref)
 | []=>ab.nil
 |a::as=>ab.cons (by simp only[Rep]) FT
theorem Fd:∀{as:List Addr},Vals (as.map V.ref) (as.map Value.ref)
 | []=>.nil
 |a::as=>.cons rfl Fd
def adr:Value->Addr
 | .ref a=>a
 |_=>0
theorem Vr{I:List (Int×Addr)}(h:KskOut false (I.map Prod.fst) ((I.map Prod.snd).map Value.ref) out):∃ys:List (Int×Addr),ys.Perm I/\ys.Pairwise (λa b=>a.1<=b.1)/\out=(ys.map Prod.snd).map Value.ref:=by
 obtain⟨ps,J,rfl,Y⟩:=h;have e:(I.map Prod.fst).zip ((I.map Prod.snd).map Value.ref)=I.map λz=>(z.1,Value.ref z.2):=by rw[bV,List.zip_map'];rfl
 rw[e]at J;have W:∀p∈ps,p=(p.1,Value.ref (adr p.2)):=λp h=>by
  obtain⟨z,_,rfl⟩:=bu.mp (J.mem_iff.mp h);rfl
 have Z:ps=(ps.map λp=>(p.1,adr p.2)).map λz=>(z.1,Value.ref z.2):=by
  rw[bV];exact(List.map_id ps).symm.trans (jD λp h=>W p h)
 refine⟨ps.map λp=>(p.1,adr p.2),?_,?_,?_⟩
 . have:=J.map λp=>(p.1,adr p.2)
   rwa [bV,show((λp:Int×Value=>(p.1,adr p.2)) ∘ λz:Int×Addr=>(z.1,Value.ref z.2))=id from rfl,List.map_id]at this
 . rw[List.pairwise_map];exact Y
 . conv=>lhs;rw[Z]
   rw[bV,bV,bV,bV];rfl
section
variable {X:Cx}{pins:aG}{σ:L2.St}{H:Hp}{s:Shared}{h':Heap}{D:Addr}{o:HO}
theorem Inv.rS(I:Inv X pins σ H s)(k:∀b o,b≠X.env.locals->s.heap.get? b=some o->h'.get? b=some o)(ns:∀m,s.heap.Ns X.env.locals m->h'.Ns X.env.locals m)(Z:s.heap.get? D=none)(new:aD X.prog X.w (upd H D o) h' D o):Inv X pins σ (upd H D o) { s with heap:=h',toks:=t' }:=by
 have Y:=none_of I Z;have nl:∀b u,H b=some u->b≠X.env.locals:=λb u e z=>by rw[z,I.free]at e;cases e
 have kp:∀b u,H b=some u->upd H D o b=some u:=λb u e=>(aq (fF e Y)).trans e
 refine I.step (g':=s.gens) (d':=s.drawn) (ch:=[]) (λ_ z=>nomatch z) (λb o W _ _ e _=>k b o W e) (λb o W _ _ e _=>⟨o.slots,k b o W e⟩) (λb q _ e n=>(aq λz=>by rw[z,Z]at e;cases e).trans n) (λb o _ e=>?_) (λb _ e=>kp b _ e) (λb _ _ e=>kp b _ e) (λb ps e=>⟨#[],(kp b _ e).trans (by simp)⟩) ns (λb u e=>?_) I.bare
 . by_cases J:b=X.env.locals
   . obtain⟨m,Y,_⟩:=I.loc
     obtain⟨o',_,_,q,_⟩:=ns m Y;exact⟨o',J ▸ q⟩
   . exact⟨o,k b o J e⟩
 . by_cases J:b=D
   . subst J;rw[bQ]at e;cases e;exact new
   . rw[aq J]at e
     refine(I.av b u e).fu (λc v hc q=>k c v ?_ q) (λc q=>kp c _ q) λc xs q=>kp c _ q
     rcases hc with z|z
     . rw[z];exact nl b u e
     . exact nl c _ z
end
noncomputable def yO (C:Addr)(fld:Str)(P:Addr)(lp:Pos)(q:Str)(Q:aj):aj:=λx M=>∃I:List (Int×Addr),
 (x= .ls ((I.map Prod.snd).map RV.ref)∨∃a,x= .ref a/\M a=some (.lst ((I.map Prod.snd).map RV.ref)))/\(∀z∈I,∃fs,M z.2=some (.ins C fs)/\fs.lookup fld=some (.int z.1))/\I.length<64/\M P=some (.tb P lp q)/\
 ∀ys:List (Int×Addr),ys.Perm I->ys.Pairwise (λa b=>a.1<=b.1)->Q (.ls ((ys.map Prod.snd).map RV.ref)) M
def K8(C:Addr)(fld:Str)(P:Addr)(lp:Pos)(q:Str)(te:ar):ar:=λσ M Q=>te σ M (yO C fld P lp q Q)
section
variable {X:Cx}{e:Expr}{te:ar}{p p1 p2 kp lp pos:Pos}{v fld q:Str}{params:Arguments}{scope:Scope}{C P cc:Addr}
theorem UP(he:ah X e te)(hm:X.mg "sorted" =none)(hg:Gl X "sorted")(c:cI X.K C)(n:aR X.K C fld)(L:xH v params scope)(Z:X.A.depth<recursionLimit)
 (W:X.env.code= .ref cc) (CH:CodeHd X.base cc P) (hb:X.base.BuiltinsAt X.mg P) (hgP:mainGlobals≠P) (hdef:defaultsOf params X.env=([],[])) (hcl:closureFor scope X.env=pure []) (hq:X.env.qual++("<lambda>":Str)=q)
 (s1:starEach [e] X.env=(false,eval e X.env)::starEach [] X.env):ah X (.Call (.Name "sorted" p) [e] [⟨some "key",.Lambda params (.Attribute (.Name v p1) fld p2) scope lp,kp⟩] pos) (K8 C fld P lp q te):=by
 intro pins s σ0 H Q0 I h;obtain⟨σ,M,Q,hs,hv,ht,hk⟩:=h;have bt:bootBuiltins "sorted" =some (.builtin "sorted"):=by decide+kernel
 refine wpAny_Call_Name_kw (mB I hg hm bt ?_);have bk:backTo pos (starEach [e] X.env)=(false,eval e X.env)::backTo pos (starEach [] X.env):=by rw[s1];rfl
 refine PyProof.Rows.callWith_kw ?_ bk (by rw[bk];rfl)
 rw[bk];refine Calls.spliced_cons (aA (he pins s σ0 H (λv H1=>∃x M1,yO C fld P lp q Q x M1/\Ext H H1/\View X.K H1 M1/\Rep X.K H1 x v) I ⟨σ,M,_,hs,hv,ht,λrv M' v H' q e w r=>⟨rv,M',q,e,w,r⟩⟩) λu s1 ⟨v1,H1,I1,r1,x,M1,⟨kx,hx,hi,h64,hP,hQ⟩,ex1,w1,rep⟩=>Calls.spliced_nil ?_)
 show wpAny _ _ (evalAll [do let v<-eval (.Lambda params (.Attribute (.Name v p1) fld p2) scope lp) X.env;standAt pos;pure v]) _ _ _
 obtain⟨ho,eP,rP⟩:=w1 P _ hP;refine wpAny_evalAll_cons (wpAny_bind (RG I1 eP rP W CH hb hgP hdef hcl hq λf c' ctv h2 tk H2 I2 J kp2 ⟨ho2,eP2,rP2⟩ hof hcd=>wpAny_bind (wpAny_standAt (wpAny_pure (wpAny_evalAll_nil ?_)))))
 have nP:∀b u,H1 b=some u->(∀φ,u≠.ext φ)->b≠P:=λb u e z y=>by
  subst y;rw[eP]at e;cases e;rcases rP with rfl|⟨_,_,_,_,rfl,_⟩<;>exact z _ rfl
 have w2:View X.K H2 M1:=λa o e=>by
  by_cases ha:a=P
  . subst ha;rw[hP]at e;cases e;exact⟨ho2,eP2,rP2⟩
  . obtain⟨Y,e1,r'⟩:=w1 a o e
    exact⟨Y,kp2 a _ e1 ha,r'.ext J⟩
 have lst:∃l,u= .ref l/\h2.IsList l ((kx.map Prod.snd).map Value.ref).toArray:=by
  have fin:∀l vs,cB X.K H2 l vs->ab X.K H2 ((kx.map Prod.snd).map RV.ref) vs->v1= .ref l->∃l,u= .ref l/\h2.IsList l ((kx.map Prod.snd).map Value.ref).toArray:=λl vs hs hr ev=>by
   subst ev;cases r1;obtain⟨ae,hw,⟨o,n,g1,g2,g3,g4⟩,hz⟩:=I2.list hs;rw[Gv hr]at hw;rw[FI hw]at g4;exact⟨l,rfl,o,g1,g2,n,g4⟩
  rcases hx with rfl|⟨a,rfl,ea⟩
  . simp only[Rep]at rep
    obtain⟨a,vs,ev,hf,hr⟩:=rep;exact fin a vs (hf.ext J).sq (ab.ext J _ _ hr) ev
  . simp only[Rep]at rep
    obtain⟨Y,e1,vs,rfl,hr⟩:=w1 a _ ea;exact fin a vs (.inl (.inl (kp2 a _ e1 (nP a _ e1 nofun)))) (ab.ext J _ _ hr) rep
 obtain⟨l,rfl,hl⟩:=lst;show wpAny _ _ (call (.builtin "sorted") [.ref l] [(Str.ofString "key",.ref f)]) _ _ _;refine Wo (as:=kx.map Prod.snd) (ks:=kx.map Prod.fst) I2 hl (by rw[br,br]) (by rw[br];exact h64) (λi a k e1 e2=>?_) Z L hof hcd c n λD h3 tk3 out ep ns kp3 hD nD hget ko=>?_
 . rw[List.getElem?_map]at e1 e2
   cases ez:kx[i]? with
   |none=>rw[ez]at e1;cases e1
   |some z=>
    rw[ez]at e1 e2;cases e1;cases e2;obtain⟨fs,m1,m2⟩:=hi z (List.mem_of_getElem? ez);obtain⟨Y,g1,dx,gs,rfl,g2⟩:=w1 _ _ m1;obtain⟨u',l1,l2⟩:=vP g2 m2;simp only[Rep]at l2;exact⟨dx,gs,kp2 _ _ g1 (nP _ _ g1 nofun),l2 ▸ l1⟩
 . obtain⟨ys,hp,hw,eo⟩:=Vr ko
   have hn:=none_of I2 hD;have eo':out=((ys.map Prod.snd).map Value.ref).toArray:=by rw[<-eo]
   subst eo';refine frozen ⟨.ref D,upd H2 D (.lst ((ys.map Prod.snd).map V.ref)),Inv.rS (t':=tk3) I2 kp3 ns hD ⟨?_,_,ep,Fd,hget⟩,rfl,H2,D,_,rfl,hn,rfl,λo=>?_⟩
   . rw[br,br,hp.length_eq];exact dJ (Nat.le_of_lt h64) (by decide)
   . exact hk _ M1 _ _ (hQ ys hp hw) (ex1.trans (J.trans (Ext.new hn))) (w2.new hn) (ly hn FT)
end
inductive T where
 |v (i:Nat)|i (n:Int)|s (x:Str)|b (x:Bool)|n
 |g (x:Str)|ty (x:String)
 |op (o:Operator) (a b:T)|cm (o:CmpOp) (a b:T)|ch (o p:CmpOp) (a b c:T)
 |an (a b:T)|or (a b:T)|no (a:T)|ie (t a b:T)
 |tu (a:T)|ll (a:T)|lm (a:T)|e0|ec (a r:T)
 |ix (a b:T)|sl (a l h:T)|p0|p1 (a:T)
 |fl (c:Nat) (f:Str) (a:T)
 |ca (f:Nat) (a:T)|me (f:Nat) (o a:T)|mk (c:Nat) (a:T)
 |bf (f:Str) (a:T)|bt (f:Str) (a:T)
 |ap (o a:T)
 |dg (d k:T)|dn (neg:Bool) (k d:T)|d1 (d k:T)|dk|dt
 |ic (neg:Bool) (a:T) (x:Str)
 |tx (x:Str) (a:T)|tn (x:Str) (a:T)
 |cv (i:Nat) (a:T)
 |cp (md tup:Bool) (nm:az) (cap:List (Nat×Str)) (it t e:T)
 |sc (i:Nat) (md tup:Bool) (nm:az) (cap:List (Nat×Str)) (it t e:T)
 |lr (a b:T)
 |iv (a:T)|im (a:T)|lv (md:Bool) (a:T)
 |pr (i j:Nat) (a:T)|af (c:Nat) (f:Str) (o a:T)|dd (d k:T)
 |is (a:T)|r1 (a:T)|st (a:T)
 |set (i:Nat) (a:T)|un (is:List Nat) (a:T)|sf (c:Nat) (f:Str) (o a:T)|dp (d k a:T)|sp (l i a:T)
 |re (a:T)|r0|aX (t a b:T)|fo (tup:Bool) (is:List Nat) (it b:T)|ex (a:T)|ra
 |se (a b:T)|en
 |ig (x:Str)
 |sk (c:Nat) (f:Str) (a:T)
structure FD where
 kind:Nat
 cls:Nat
 name:Str
 ps:az
 N:az
 body:T
structure SI where
 gi:List (Str×Int)
 gt:List (Str×az)
 tb:az
 tt:List (Str×List (TK×Str))
 cl:az
 fs:List (Nat×Str)
 bl:az
 fd:List FD
 ln:az:=[""]
 lp:Pos:=⟨0,0,0,0⟩
 lq:Str:=""
structure G where
 S:SI
 tb:Str->bW
 C:Nat->Addr
 fn:Nat->bX
 kX:Nat->bX
 hE:List (Addr×bX)
 lP:Addr
def i5:Operator->cA
 | .Add=>xT| .Sub=>DL| .Mult=>DU| .Mod=>CV| .FloorDiv=>Dh| .Pow=>DO
 |_=>λ_ _ _ _=>False
def dm:CmpOp->cA
 | .Lt=>K6| .LtE=>K5| .Gt=>K3| .GtE=>K2| .Eq=>Dg| .NotEq=>DT| .Is=>K4| .IsNot=>HA| .In=>xP false| .NotIn=>xP true
def Bv:String->RV->Option Bool:=λx=>if x= "int" then HY else if x= "bool" then is_bool else if x= "str" then HX else if x= "tuple" then F0 else if x= "list" then GF elseλ_=>none
def uz:LR->RM->aj->Prop:=λrs M Q=>match rs with
 | [.ref a,.ty "list"]=>match M a with|some (.lst _)=>Q (.bl true) M|_=>False
 | [x,.ty t]=>match Bv t x with|some c=>Q (.bl c) M|none=>False
 |_=>False
def Ao:LR->RM->aj->Prop:=λrs M Q=>match rs with
 | [.ref a]=>match M a with
  |some (.lst xs)=>Q (.int xs.length) M
  |some (.dk kvs)=>Q (.int kvs.length) M
  |some (.dt kvs)=>Q (.int kvs.length) M
  |_=>False
 |rs=>xK rs M Q
def fJ(f:Str):LR->RM->aj->Prop:=
 if f= "len" then Ao else if f= "isinstance" then uz else if f= "all" then Dj else if f= "ord" then DQ else if f= "any" then Di elseλ_ _ _=>False
def nk(f:Str):LR->RM->aj->Prop:=
 if f= "tuple" then zS else if f= "list" then An else if f= "int" then AR elseλ_ _ _=>False
def p4(C:Addr)(f:Str)(Q:aj):aj:=λx M=>match x with
 | .ref a=>match M a with
  |some (.ins C' fs)=>C'=C/\match fs.lookup f with
   |some v=>Q v M
   |none=>False
  |_=>False
 |_=>False
def A7(C:Addr)(f:Str)(ta:ar):ar:=λσ M Q=>ta σ M (p4 C f Q)
def p5(C:Addr)(f:Str)(y:RV)(N:RM->Prop):aj:=λx M=>match x with
 | .ref a=>match M a with
  |some (.ins C' fs)=>C'=C/\fs.length<1000/\N (put M a (.ins C (jx f y fs)))
  |_=>False
 |_=>False
def A8(C:Addr)(f:Str)(ta tv:ar):dR:=λD σ M=>tv σ M λy M1=>ta σ M1 (p5 C f y (D.nx σ))
def oq(C:Addr)(m:Str)(sp:bX)(t:bR)(σ:bB)(Q:aj):aj:=λx M=>match x with
 | .ref a=>match M a with
  |some (.ins C' fs)=>C'=C/\fs.lookup m=none/\t σ M λrs M2=>sp (.ref a::rs) M2 Q
  |_=>False
 |_=>False
def pL(C:Addr)(m:Str)(sp:bX)(ta:ar)(t:bR):ar:=λσ M Q=>ta σ M (oq C m sp t σ Q)
def iL:ar:=λ_ _ _=>False
structure Sm where
 E:ar:=λ_ _ _=>False
 T:dW:=λ_ _ _=>False
 A:bR:=λ_ _ _=>False
 I:gn:=λ_ _ _=>False
 P:ni:=λ_ _ _=>False
 S:dR:=λ_ _ _=>False
 L:List ar:=[]
def ex(e:ar):Sm:={ E:=e,T:=lE e }
noncomputable def tr (Γ:G):T->Sm
 | .v i=>ex (pq i)
 | .i n=>ex (rC (.int n))
 | .s x=>ex (rC (.str x))
 | .b x=>ex (rC (.bl x))
 | .n=>ex (rC .ak)
 | .g x=>ex (match Γ.S.gi.lookup x with|some i=>rC (.int i)|none=>iL)
 | .ty x=>ex (rC (.ty x))
 | .op o a b=>ex (mS (i5 o) (tr Γ a).E (tr Γ b).E)
 | .cm o a b=>ex (mS (dm o) (tr Γ a).E (tr Γ b).E)
 | .ch o p a b c=>ex (qy (dm o) (dm p) (tr Γ a).E (tr Γ b).E (tr Γ c).E)
 | .an a b=>{ E:=xC (tr Γ a).E (tr Γ b).E,T:=xS (tr Γ a).T (tr Γ b).T }
 | .or a b=>{ E:=xJ (tr Γ a).E (tr Γ b).E,T:=yb (tr Γ a).T (tr Γ b).T }
 | .no a=>{ E:=IU (tr Γ a).E,T:=DR (tr Γ a).T }
 | .ie t a b=>ex (ya (tr Γ t).T (tr Γ a).E (tr Γ b).E)
 | .tu a=>ex (DK (tr Γ a).A)
 | .ll a=>ex (CY (tr Γ a).A)
 | .lm a=>ex (CW (tr Γ a).A)
 | .e0=>{ A:=lK }
 | .ec a r=>{ A:=qE (tr Γ a).E (tr Γ r).A,L:=(tr Γ a).E::(tr Γ r).L }
 | .ix a b=>ex (mS bz (tr Γ a).E (tr Γ b).E)
 | .sl a l h=>ex (K9 (tr Γ a).E (tr Γ l).P (tr Γ h).P)
 | .p0=>{ P:=DS }
 | .p1 a=>{ P:=IT (tr Γ a).E }
 | .fl c f a=>ex (A7 (Γ.C c) f (tr Γ a).E)
 | .ca f a=>ex (jw (Γ.fn f) (tr Γ a).A)
 | .me f o a=>ex (match Γ.S.fd[f]? with|some d=>pL (Γ.C d.cls) d.name (Γ.fn f) (tr Γ o).E (tr Γ a).A|none=>iL)
 | .mk f a=>ex (match Γ.S.fd[f]? with|some d=>qD (Γ.C d.cls) (Γ.kX f) (tr Γ a).A|none=>iL)
 | .bf f a=>ex (jw (fJ f) (tr Γ a).A)
 | .bt f a=>ex (jw (nk f) (tr Γ a).A)
 | .ap o a=>ex (xR (tr Γ o).E (tr Γ a).A)
 | .dg d k=>ex (IL (tr Γ d).E (tr Γ k).E)
 | .dn neg k d=>ex (qN neg (tr Γ k).E (tr Γ d).E)
 | .d1 d k=>ex (Ib (tr Γ d).E (tr Γ k).E)
 | .dk=>ex IZ
 | .dt=>ex HB
 | .ic neg a x=>ex (match Γ.S.gt.lookup x with|some J=>qS neg J (tr Γ a).E|none=>iL)
 | .tx x a=>ex (xI (Γ.tb x) (tr Γ a).E)
 | .tn x a=>ex (zy (Γ.tb x) (tr Γ a).E)
 | .cv i a=>ex (HC Γ.hE (pq i) (tr Γ a).A)
 | .cp md tup nm cap it t e=>ex (qx (gP tup nm.length) md (tr Γ it).I (cap.map Prod.fst) (tr Γ t).T (tr Γ e).E)
 | .sc i md tup nm cap it t e=>{ S:=uy i (qx (gP tup nm.length) md (tr Γ it).I (cap.map Prod.fst) (tr Γ t).T (tr Γ e).E) }
 | .lr a b=>ex (Hz (tr Γ a).E (tr Γ b).E)
 | .iv a=>{ I:=Df false (tr Γ a).E }
 | .im a=>{ I:=Dc (tr Γ a).E }
 | .lv md a=>ex (K7 md (tr Γ a).E)
 | .pr i j a=>{ S:=DP i j (tr Γ a).A }
 | .af c f o a=>{ S:=Lg (Γ.C c) f (tr Γ o).E (tr Γ a).E }
 | .dd d k=>{ S:=Ia (tr Γ d).E (tr Γ k).E }
 | .is a=>{ I:=C0 (tr Γ a).E }
 | .r1 a=>{ I:=C9 (tr Γ a).E }
 | .st a=>{ I:=CZ (tr Γ a).E }
 | .set i a=>{ S:=uy i (tr Γ a).E }
 | .un is a=>{ S:=AS (tr Γ a).E (uE is) }
 | .sf c f o a=>{ S:=A8 (Γ.C c) f (tr Γ o).E (tr Γ a).E }
 | .dp d k a=>{ S:=HZ (tr Γ d).E (tr Γ k).E (tr Γ a).E }
 | .sp l i a=>{ S:=AS (tr Γ a).E (Je (tr Γ l).E (tr Γ i).E oX) }
 | .re a=>{ S:=DN (tr Γ a).E }
 | .r0=>{ S:=IS }
 | .aX t a b=>{ S:=xQ (tr Γ t).T (tr Γ a).S (tr Γ b).S }
 | .fo tup is it b=>{ S:=IX (tr Γ it).I (match tup,is with|true,is=>uE is|false,[i]=>gQ i|_,_=>λ_ _ _ _=>False) (tr Γ b).S }
 | .ex a=>{ S:=IY (tr Γ a).E }
 | .ra=>{ S:=λ_ _ _=>False }
 | .se a b=>{ S:=DM (tr Γ a).S (tr Γ b).S }
 | .en=>{ S:=IV }
 | .ig x=>{ I:=match Γ.S.gt.lookup x with|some J=>xM J|none=>λ_ _ _=>False }
 | .sk c f a=>ex (K8 (Γ.C c) f Γ.lP Γ.S.lp Γ.S.lq (tr Γ a).E)
inductive Nd where
 |e (x:Expr)|t (x:Expr)|a (xs:aW)|i (tg x:Expr)|p (x:Option Expr)|s (x:Stmt)|b (xs:List Stmt)|l (xs:aW)
def gf(sc:Scope)(x:Str):Bool:=sc.names.lookup x==some .globalImplicit&& !(x==("__debug__":Str))
def xr(tup:Bool)(tg:Expr)(nm:az):Bool:=match tup,tg with
 |false,.Name x _=>nm==[x]
 |true,.Tuple es _ _=>mG es==some nm
 |_,_=>false
def lz(N:az):List Nat->aW->Bool
 | [],[]=>true
 |i::is,.Name x _::es=>(N[i]? ==some x)&&lz N is es
 |_,_=>false
def loc(sc:Scope)(x:Str):Bool:=sc.names.lookup x==some .local||sc.names.lookup x==some .cell
def cf(sc:Scope)(x:Str):Bool:=sc.names.lookup x==some .cell||sc.names.lookup x==some .free
def iG(x:Str):Bool:=!(x==("__debug__":Str))&& !(x==("__classdict__":Str))
noncomputable def qR (N:az)(sc scope:Scope)(nm:az)(I:List (Nat×Str)):Bool:=
 I.all (λp=>(N[p.1]? ==some p.2)&&(scope.names.lookup p.2==some .free)&&cf sc p.2)&&scope.names.all (λy=>y.2 != .free||cf sc y.1)&&scope.names.all (λy=>y.2 != .cell)&&scope.kind== .function&&
 scope.names.all (λy=>y.2 != .local||scope.names.lookup y.1==some .local)&&nm.all (λx=>scope.names.lookup x==some .local)&&decide (nm++I.map Prod.snd).Nodup&&(nm++I.map Prod.snd).all iG
def yC:az:=["len","isinstance","all","ord","any"]
def yE:az:=["tuple","list","int"]
def i4(ap p:Pos):Bool:=ap.endLine==p.line
def Az(t:T):Bool:=if h:t.ctorIdx=3 then T.b.elim t h id else false
@[elab_as_elim] theorem pf {α:Type} [BEq α] [LawfulBEq α] {z c:α} {b:Bool} {C:α->Prop} (h:((z==c)&&b)=true) (k:b=true->C c):C z:=by
 rw[bj,beq_iff_eq]at h;rw[h.1];exact k h.2
theorem mC{a b:Bool}(h:(a&&b)=true):a=true/\b=true:=by rwa [bj]at h
theorem di{c:Prop}[Decidable c]{t:c->Bool}{C:Prop}(h:(if h:c then t h else false)=true)(k:c->(if h:c then t h else false)=true->C):C:=
 if i:c then k i h else by rw[dif_neg i]at h;cases h
def dN(e:Expr)(f:Str->Pos->Bool):Bool:=if h:e.ctorIdx=23 then Expr.Name.elim e h f else false
@[elab_as_elim] theorem gw {e f} {C:Expr->Prop} (h:dN e f=true) (k:∀a b,f a b=true->C (.Name a b)):C e:=di h λi=>Expr.Name.elim e i k
def dK(e:Expr)(f:Const->Nat->Pos->Bool):Bool:=if h:e.ctorIdx=19 then Expr.Constant.elim e h f else false
@[elab_as_elim] theorem xD {e f} {C:Expr->Prop} (h:dK e f=true) (k:∀a b c,f a b c=true->C (.Constant a b c)):C e:=di h λi=>Expr.Constant.elim e i k
def dB(e:Expr)(f:Expr->Operator->Expr->Pos->Bool):Bool:=if h:e.ctorIdx=2 then Expr.BinOp.elim e h f else false
@[elab_as_elim] theorem XC {e f} {C:Expr->Prop} (h:dB e f=true) (k:∀a b c d,f a b c d=true->C (.BinOp a b c d)):C e:=di h λi=>Expr.BinOp.elim e i k
def dC(e:Expr)(f:Expr->List CmpOp->aW->Pos->Bool):Bool:=if h:e.ctorIdx=15 then Expr.Compare.elim e h f else false
@[elab_as_elim] theorem JH {e f} {C:Expr->Prop} (h:dC e f=true) (k:∀a b c d,f a b c d=true->C (.Compare a b c d)):C e:=di h λi=>Expr.Compare.elim e i k
def dQ(e:Expr)(f:BoolOp->aW->Pos->Bool):Bool:=if h:e.ctorIdx=0 then Expr.BoolOp.elim e h f else false
@[elab_as_elim] theorem xx {e f} {C:Expr->Prop} (h:dQ e f=true) (k:∀a b c,f a b c=true->C (.BoolOp a b c)):C e:=di h λi=>Expr.BoolOp.elim e i k
def dU(e:Expr)(f:UnaryOp->Expr->Pos->Bool):Bool:=if h:e.ctorIdx=3 then Expr.UnaryOp.elim e h f else false
@[elab_as_elim] theorem JD {e f} {C:Expr->Prop} (h:dU e f=true) (k:∀a b c,f a b c=true->C (.UnaryOp a b c)):C e:=di h λi=>Expr.UnaryOp.elim e i k
def dI(e:Expr)(f:Expr->Expr->Expr->Pos->Bool):Bool:=if h:e.ctorIdx=5 then Expr.IfExp.elim e h f else false
@[elab_as_elim] theorem XB {e f} {C:Expr->Prop} (h:dI e f=true) (k:∀a b c d,f a b c d=true->C (.IfExp a b c d)):C e:=di h λi=>Expr.IfExp.elim e i k
def dT(e:Expr)(f:aW->Nat->Pos->Bool):Bool:=if h:e.ctorIdx=25 then Expr.Tuple.elim e h f else false
@[elab_as_elim] theorem ui {e f} {C:Expr->Prop} (h:dT e f=true) (k:∀a b c,f a b c=true->C (.Tuple a b c)):C e:=di h λi=>Expr.Tuple.elim e i k
def dL(e:Expr)(f:aW->Pos->Bool):Bool:=if h:e.ctorIdx=24 then Expr.List.elim e h f else false
@[elab_as_elim] theorem JE {e f} {C:Expr->Prop} (h:dL e f=true) (k:∀a b,f a b=true->C (.List a b)):C e:=di h λi=>Expr.List.elim e i k
def dS(e:Expr)(f:Expr->Expr->Pos->Bool):Bool:=if h:e.ctorIdx=21 then Expr.Subscript.elim e h f else false
@[elab_as_elim] theorem o8 {e f} {C:Expr->Prop} (h:dS e f=true) (k:∀a b c,f a b c=true->C (.Subscript a b c)):C e:=di h λi=>Expr.Subscript.elim e i k
def dX(e:Expr)(f:Option Expr->Option Expr->Option Expr->Pos->Bool):Bool:=if h:e.ctorIdx=26 then Expr.Slice.elim e h f else false
@[elab_as_elim] theorem XA {e f} {C:Expr->Prop} (h:dX e f=true) (k:∀a b c d,f a b c d=true->C (.Slice a b c d)):C e:=di h λi=>Expr.Slice.elim e i k
def dA(e:Expr)(f:Expr->Str->Pos->Bool):Bool:=if h:e.ctorIdx=20 then Expr.Attribute.elim e h f else false
@[elab_as_elim] theorem uj {e f} {C:Expr->Prop} (h:dA e f=true) (k:∀a b c,f a b c=true->C (.Attribute a b c)):C e:=di h λi=>Expr.Attribute.elim e i k
def dF(e:Expr)(f:Expr->aW->List Keyword->Pos->Bool):Bool:=if h:e.ctorIdx=16 then Expr.Call.elim e h f else false
@[elab_as_elim] theorem Ax {e f} {C:Expr->Prop} (h:dF e f=true) (k:∀a b c d,f a b c d=true->C (.Call a b c d)):C e:=di h λi=>Expr.Call.elim e i k
def dD(e:Expr)(f:List (Option Expr)->aW->Pos->Bool):Bool:=if h:e.ctorIdx=6 then Expr.Dict.elim e h f else false
@[elab_as_elim] theorem JG {e f} {C:Expr->Prop} (h:dD e f=true) (k:∀a b c,f a b c=true->C (.Dict a b c)):C e:=di h λi=>Expr.Dict.elim e i k
def dG(e:Expr)(f:Expr->List Comprehension->Scope->Pos->Bool):Bool:=if h:e.ctorIdx=8 then Expr.ListComp.elim e h f else false
@[elab_as_elim] theorem JF {e f} {C:Expr->Prop} (h:dG e f=true) (k:∀a b c d,f a b c d=true->C (.ListComp a b c d)):C e:=di h λi=>Expr.ListComp.elim e i k
def tA(e:Stmt)(f:aW->Expr->Pos->Bool):Bool:=if h:e.ctorIdx=5 then Stmt.Assign.elim e h f else false
@[elab_as_elim] theorem Wh {e f} {C:Stmt->Prop} (h:tA e f=true) (k:∀a b c,f a b c=true->C (.Assign a b c)):C e:=di h λi=>Stmt.Assign.elim e i k
def tU(e:Stmt)(f:Expr->Operator->Expr->Pos->Bool):Bool:=if h:e.ctorIdx=7 then Stmt.AugAssign.elim e h f else false
@[elab_as_elim] theorem WK {e f} {C:Stmt->Prop} (h:tU e f=true) (k:∀a b c d,f a b c d=true->C (.AugAssign a b c d)):C e:=di h λi=>Stmt.AugAssign.elim e i k
def tD(e:Stmt)(f:aW->Pos->Bool):Bool:=if h:e.ctorIdx=4 then Stmt.Delete.elim e h f else false
@[elab_as_elim] theorem Wc {e f} {C:Stmt->Prop} (h:tD e f=true) (k:∀a b,f a b=true->C (.Delete a b)):C e:=di h λi=>Stmt.Delete.elim e i k
def tR(e:Stmt)(f:Option Expr->Pos->Bool):Bool:=if h:e.ctorIdx=3 then Stmt.Return.elim e h f else false
@[elab_as_elim] theorem IA {e f} {C:Stmt->Prop} (h:tR e f=true) (k:∀a b,f a b=true->C (.Return a b)):C e:=di h λi=>Stmt.Return.elim e i k
def tI(e:Stmt)(f:Expr->List Stmt->List Stmt->Pos->Bool):Bool:=if h:e.ctorIdx=12 then Stmt.If.elim e h f else false
@[elab_as_elim] theorem V8 {e f} {C:Stmt->Prop} (h:tI e f=true) (k:∀a b c d,f a b c d=true->C (.If a b c d)):C e:=di h λi=>Stmt.If.elim e i k
def tF(e:Stmt)(f:Expr->Expr->List Stmt->List Stmt->Pos->Bool):Bool:=if h:e.ctorIdx=9 then Stmt.For.elim e h f else false
@[elab_as_elim] theorem V9 {e f} {C:Stmt->Prop} (h:tF e f=true) (k:∀a b c d g,f a b c d g=true->C (.For a b c d g)):C e:=di h λi=>Stmt.For.elim e i k
def tE(e:Stmt)(f:Expr->Pos->Bool):Bool:=if h:e.ctorIdx=24 then Stmt.Expr.elim e h f else false
@[elab_as_elim] theorem Wa {e f} {C:Stmt->Prop} (h:tE e f=true) (k:∀a b,f a b=true->C (.Expr a b)):C e:=di h λi=>Stmt.Expr.elim e i k
section
variable {α:Type}{xs:List α}{b:Bool}{x:Option α}{e:Expr}{s:Stmt}
def l0(xs:List α)(b:Bool):Bool:=match xs with| []=>b|_=>false
def lc(xs:List α)(f:α->List α->Bool):Bool:=match xs with|x::r=>f x r|_=>false
def l1(xs:List α)(f:α->Bool):Bool:=lc xs λx r=>l0 r (f x)
def l2(xs:List α)(f:α->α->Bool):Bool:=lc xs λx r=>l1 r (f x)
def o0(x:Option α)(b:Bool):Bool:=match x with|none=>b|_=>false
def o1(x:Option α)(f:α->Bool):Bool:=match x with|some y=>f y|_=>false
variable {C:List α->Prop}{D:Option α->Prop}{E:Expr->Prop}{F:Stmt->Prop}
@[elab_as_elim] theorem gM (h:l0 xs b=true) (k:b=true->C []):C xs:=by cases xs<;>first|exact k h|cases h
@[elab_as_elim] theorem iq {f} (h:lc xs f=true) (k:∀x r,f x r=true->C (x::r)):C xs:=by cases xs<;>first|exact k _ _ h|cases h
@[elab_as_elim] theorem gv {f} (h:l1 xs f=true) (k:∀y,f y=true->C [y]):C xs:=iq h λy _ h=>gM h (k y)
@[elab_as_elim] theorem ug {f} (h:l2 xs f=true) (k:∀y z,f y z=true->C [y,z]):C xs:=iq h λy _ h=>gv h (k y)
@[elab_as_elim] theorem AF (h:o0 x b=true) (k:b=true->D none):D x:=by cases x<;>first|exact k h|cases h
@[elab_as_elim] theorem Jl {f} (h:o1 x f=true) (k:∀y,f y=true->D (some y)):D x:=by cases x<;>first|exact k _ h|cases h
def iZ(e:Expr)(f:Str->Pos->aW->Pos->Bool):Bool:=dF e λg es ks p=>dN g λx q=>l0 ks (f x q es p)
@[elab_as_elim] theorem lB {f} (h:iZ e f=true) (k:∀x q es p,f x q es p=true->E (.Call (.Name x q) es [] p)):E e:=Ax h λ_ es _ p h=>gw h λx q h=>gM h (k x q es p)
def om(e:Expr)(f:Expr->Str->Pos->aW->Pos->Bool):Bool:=dF e λg es ks p=>dA g λx m q=>l0 ks (f x m q es p)
@[elab_as_elim] theorem qp {f} (h:om e f=true) (k:∀x m q es p,f x m q es p=true->E (.Call (.Attribute x m q) es [] p)):E e:=Ax h λ_ es _ p h=>uj h λx m q h=>gM h (k x m q es p)
def rG(e:Expr)(f:Expr->CmpOp->Expr->Pos->Bool):Bool:=dC e λx os ys p=>l1 os λo=>l1 ys λy=>f x o y p
@[elab_as_elim] theorem t8 {f} (h:rG e f=true) (k:∀x o y p,f x o y p=true->E (.Compare x [o] [y] p)):E e:=JH h λx _ _ p h=>gv h λo h=>gv h λy=>k x o y p
def mU(s:Stmt)(f:Expr->Expr->Pos->Bool):Bool:=tA s λz v p=>l1 z λt=>f t v p
@[elab_as_elim] theorem oW {f} (h:mU s f=true) (k:∀t v p,f t v p=true->F (.Assign [t] v p)):F s:=Wh h λ_ v p h=>gv h λt=>k t v p
end
def dv(e:Expr):Bool:=!([22,7,26,9,10].contains e.ctorIdx)
def kY(e:Expr):Bool:=e.ctorIdx==8
def AA(e:Expr):Bool:=[0,5,15].contains e.ctorIdx||dU e λo _ _=>o== .Not
def ir(e:Expr):Bool:=iZ e λ_ _ es _=>es.isEmpty
def cM(nd:Nd)(f:Expr->Bool):Bool:=match nd with
 | .e x=>dv x&&f x
 | .t x=>!AA x&&f x
 |_=>false
def rV(nd:Nd)(f:Expr->Bool):Bool:=match nd with
 | .e x=>dv x&&f x
 | .t x=>f x
 |_=>false
def gF(nd:Nd)(f:Stmt->Bool):Bool:=match nd with
 | .s x=>f x
 |_=>false
def yT(nd:Nd)(f:(aW->Nd)->aW->Bool):Bool:=match nd with
 | .a x=>f .a x
 | .l x=>f .l x
 |_=>false
def oB(nd:Nd)(f:Expr->Expr->Bool):Bool:=match nd with
 | .i tg x=>f tg x
 |_=>false
def yV(nd:Nd)(f:Option Expr->Bool):Bool:=match nd with
 | .p x=>f x
 |_=>false
def yU(nd:Nd)(f:List Stmt->Bool):Bool:=match nd with
 | .b x=>f x
 |_=>false
def rW(nd:Nd)(f g:Expr->Bool):Bool:=match nd with
 | .e x=>dv x&&f x
 | .t x=>g x
 |_=>false
def dY(e:Expr)(f:Arguments->Expr->Scope->Pos->Bool):Bool:=if h:e.ctorIdx=4 then Expr.Lambda.elim e h f else false
@[elab_as_elim] theorem Xz {e f} {C:Expr->Prop} (h:dY e f=true) (k:∀a b c d,f a b c d=true->C (.Lambda a b c d)):C e:=di h λi=>Expr.Lambda.elim e i k
def A3(ps:Arguments)(v:Str):Bool:=ps.posonlyargs.isEmpty&&ps.vararg.isNone&&ps.kwonlyargs.isEmpty&&ps.kw_defaults.isEmpty&&ps.kwarg.isNone&&ps.defaults.isEmpty&&(l1 ps.args λa=>a.arg==v)
def AM(v:Str)(sc:Scope):Bool:=(sc.names.lookup v==some .local)&&sc.names.all (λy=>y.2 != .cell&&y.2 != .free)&& !sc.isCoroutine&& !sc.isGenerator&&sc.kind== .function&&iG v
noncomputable def mt (S:SI)(fc:Bool)(N:az)(sc:Scope):T->Nd->Bool
 | .v i,nd=>cM nd λy0=>dN y0 λx _=>N[i]? ==some x
 | .i n,nd=>cM nd λy0=>dK y0 λz _ _=>z== .int n
 | .s x,nd=>cM nd λy0=>dK y0 λz _ _=>z== .str x
 | .b x,nd=>cM nd λy0=>dK y0 λz _ _=>z== .bool x
 | .n,nd=>cM nd λy0=>dK y0 λz _ _=>z== .none
 | .g x,nd=>cM nd λy0=>dN y0 λy _=>(x==y)&&(S.gi.lookup x).isSome&&gf sc x
 | .ty x,nd=>cM nd λy0=>dN y0 λy _=>(Str.ofString x==y)&&["int","bool","str","tuple","list"].contains x&&S.bl.contains y&&gf sc y
 | .op o a b,nd=>cM nd λy0=>dB y0 λx o' y _=>(o==o')&&mt S fc N sc a (.e x)&&mt S fc N sc b (.e y)
 | .cm o a b,nd=>rV nd λy0=>rG y0 λx o' y _=>(o==o')&&mt S fc N sc a (.e x)&&mt S fc N sc b (.e y)
 | .ch o p a b c,nd=>rV nd λy0=>dC y0 λx z1 z2 _=>l2 z1 λo' p'=>l2 z2 λy z=>(o==o')&&(p==p')&&mt S fc N sc a (.e x)&&mt S fc N sc b (.e y)&&mt S fc N sc c (.e z)
 | .dn neg k d,nd=>rV nd λy0=>rG y0 λx o' y _=>(o'==if neg then .NotIn else .In)&&mt S fc N sc k (.e x)&&mt S fc N sc d (.e y)
 | .an a b,nd=>rW nd (λy0=>dQ y0 λz1 z2 p=>(z1== .And)&&(lc z2 λx z3=>lc z3 λy r=>mt S fc N sc a (.e x)&&mt S fc N sc b (.e (if r.isEmpty then y else .BoolOp .And (y::r) p)))) (λy0=>dQ y0 λz1 z2 p=>(z1== .And)&&(lc z2 λx z3=>lc z3 λy r=>mt S fc N sc a (.t x)&&mt S fc N sc b (.t (if r.isEmpty then y else .BoolOp .And (y::r) p))))
 | .or a b,nd=>rW nd (λy0=>dQ y0 λz1 z2 p=>(z1== .Or)&&(lc z2 λx z3=>lc z3 λy r=>mt S fc N sc a (.e x)&&mt S fc N sc b (.e (if r.isEmpty then y else .BoolOp .Or (y::r) p)))) (λy0=>dQ y0 λz1 z2 p=>(z1== .Or)&&(lc z2 λx z3=>lc z3 λy r=>mt S fc N sc a (.t x)&&mt S fc N sc b (.t (if r.isEmpty then y else .BoolOp .Or (y::r) p))))
 | .no a,nd=>rW nd (λy0=>dU y0 λz1 x _=>(z1== .Not)&&(mt S fc N sc a (.e x))) (λy0=>dU y0 λz1 x _=>(z1== .Not)&&(mt S fc N sc a (.t x)))
 | .ie t a b,nd=>cM nd λy0=>dI y0 λx y z _=>mt S fc N sc t (.t x)&&mt S fc N sc a (.e y)&&mt S fc N sc b (.e z)
 | .tu a,nd=>cM nd λy0=>dT y0 λes _ _=>mt S fc N sc a (.a es)
 | .ll a,nd=>cM nd λy0=>dL y0 λes _=>mt S fc N sc a (.a es)
 | .lm a,nd=>cM nd λy0=>dL y0 λes _=>mt S fc N sc a (.a es)
 | .e0,nd=>yT nd λ_ y0=>l0 y0 <|true
 | .ec a r,nd=>yT nd λmk y0=>lc y0 λx xs=>mt S fc N sc a (.e x)&&mt S fc N sc r (mk xs)
 | .ix a b,nd=>cM nd λy0=>dS y0 λx y _=>mt S fc N sc a (.e x)&&mt S fc N sc b (.e y)
 | .sl a l h,nd=>cM nd λy0=>dS y0 λx z1 _=>dX z1 λlo hi z2 _=>o0 z2 <|mt S fc N sc a (.e x)&&mt S fc N sc l (.p lo)&&mt S fc N sc h (.p hi)
 | .p0,nd=>yV nd λy0=>o0 y0 <|true
 | .p1 a,nd=>yV nd λy0=>o1 y0 λx=>mt S fc N sc a (.e x)
 | .fl c f a,nd=>cM nd λy0=>dA y0 λx f' _=>(f==f')&&S.fs.contains (c,f)&& !ir x&&mt S fc N sc a (.e x)
 | .ca f a,nd=>cM nd λy0=>iZ y0 λx _ es _=>(match S.fd[f]? with|some d=>d.kind==0&&d.name==x|none=>false)&&gf sc x&&mt S fc N sc a (.a es)
 | .me f o a,nd=>cM nd λy0=>om y0 λx m ap es p=>(match S.fd[f]? with|some d=>d.kind==1&&d.name==m|none=>false)&& !ir x&&i4 ap p&&decide (es.length<29)&&mt S fc N sc o (.e x)&&mt S fc N sc a (.a es)
 | .mk f a,nd=>cM nd λy0=>iZ y0 λx _ es _=>(match S.fd[f]? with|some d=>d.kind==2&&S.cl[d.cls]? ==some x|none=>false)&&gf sc x&&mt S fc N sc a (.a es)
 | .bf f a,nd=>cM nd λy0=>iZ y0 λx _ es _=>(f==x)&&yC.contains x&&S.bl.contains x&&gf sc x&& !es.isEmpty&&mt S fc N sc a (.a es)
 | .bt f a,nd=>cM nd λy0=>iZ y0 λx _ es _=>(f==x)&&yE.contains x&&S.bl.contains x&&gf sc x&& !es.isEmpty&&mt S fc N sc a (.a es)
 | .ap o a,nd=>cM nd λy0=>om y0 λx m ap z1 p=>l1 z1 λy=>(m==("append":Str))&& !ir x&&i4 ap p&&mt S fc N sc o (.e x)&&mt S fc N sc a (.a [y])
 | .dg d k,nd=>cM nd λy0=>dS y0 λx y _=>mt S fc N sc d (.e x)&&mt S fc N sc k (.e y)
 | .d1 d k,nd=>cM nd λy0=>om y0 λx m ap z1 p=>l1 z1 λy=>(m==("get":Str))&& !ir x&&i4 ap p&&mt S fc N sc d (.e x)&&mt S fc N sc k (.e y)
 | .dk,nd=>cM nd λy0=>dD y0 λz1 z2 _=>l0 z1 <|l0 z2 <|true
 | .dt,nd=>cM nd λy0=>dD y0 λz1 z2 _=>l0 z1 <|l0 z2 <|true
 | .ic neg a x,nd=>rV nd λy0=>rG y0 λy o z1 _=>dN z1 λx' _=>(o==if neg then .NotIn else .In)&&(x==x')&&(S.gt.lookup x).isSome&&gf sc x&&mt S fc N sc a (.e y)
 | .tx x a,nd=>cM nd λy0=>dS y0 λz1 y _=>dN z1 λx' _=>(x==x')&&S.tb.contains x&&gf sc x&&mt S fc N sc a (.e y)
 | .tn x a,nd=>rW nd (λ_=>false) λy0=>rG y0 λy o z1 _=>dN z1 λx' _=>(o== .NotIn)&&(x==x')&&S.tb.contains x&&gf sc x&&mt S fc N sc a (.e y)
 | .cv i a,nd=>cM nd λy0=>iZ y0 λx _ es _=>(N[i]? ==some x)&& !es.isEmpty&&mt S fc N sc a (.a es)
 | .lr a b,nd=>cM nd λy0=>iZ y0 λx _ z1 _=>l1 z1 λz2=>iZ z2 λy _ z3 _=>l2 z3 λz w=>(x==("list":Str))&&(y==("range":Str))&&S.bl.contains x&&S.bl.contains y&&gf sc x&&gf sc y&&mt S fc N sc a (.e z)&&mt S fc N sc b (.e w)
 | .cp _ tup nm cap it t e,nd=>cM nd λy0=>dG y0 λel z1 scope _=>l1 z1 λz2=>match z2 with|⟨tg,ite,ifs,as⟩=>fc&&(as==0)&&xr tup tg nm&&qR N sc scope nm cap&&dv ite&&mt S fc N sc it (.i tg ite)&&mt S false (nm++cap.map Prod.snd) scope e (.e el)&&(match ifs with| []=>Az t| [c]=>mt S false (nm++cap.map Prod.snd) scope t (.t c)|_=>false)
 | .iv a,nd=>oB nd λ_=>λy0=>om y0 λx m ap z1 p=>l0 z1 <|(m==("values":Str))&& !ir x&&i4 ap p&&mt S fc N sc a (.e x)
 | .im a,nd=>oB nd λtg=>λy0=>om y0 λx m ap z1 p=>l0 z1 <|(tg.ctorIdx==25)&&(m==("items":Str))&& !ir x&&i4 ap p&&mt S fc N sc a (.e x)
 | .lv _ a,nd=>cM nd λy0=>iZ y0 λy _ z1 _=>l1 z1 λz2=>om z2 λx m ap z3 p=>l0 z3 <|(y==("list":Str))&&(m==("values":Str))&&S.bl.contains y&&gf sc y&& !ir x&&i4 ap p&&mt S fc N sc a (.e x)
 | .pr i j a,nd=>gF nd λy0=>mU y0 λz1 z2 _=>dT z1 λz3 _ _=>l2 z3 λz4 z5=>dN z4 λx px=>dN z5 λy py=>dT z2 λz6 _ _=>l2 z6 λu v=>fc&&(N[i]? ==some x)&&(N[j]? ==some y)&&(i != j)&&(sc.names.lookup x==some .local)&&(sc.names.lookup y==some .local)&&(py.line==px.line)&& !(y==x)&& !([u,v].all (foldedForSure 8))&& !([u,v].all (constantsAlone 8))&&mt S fc N sc a (.a [u,v])
 | .af c f o a,nd=>gF nd λy0=>tU y0 λz1 z2 e _=>dA z1 λx f' _=>(z2== .Add)&&((f==f')&&S.fs.contains (c,f)&&mt S fc N sc o (.e x)&&mt S fc N sc a (.e e))
 | .dd d k,nd=>gF nd λy0=>tD y0 λz1 _=>l1 z1 λz2=>dS z2 λx y _=>mt S fc N sc d (.e x)&&mt S fc N sc k (.e y)
 | .is a,nd=>oB nd λ_ x=>dv x&&mt S fc N sc a (.e x)
 | .st a,nd=>oB nd λ_ x=>dv x&&mt S fc N sc a (.e x)
 | .r1 a,nd=>oB nd λ_=>λy0=>iZ y0 λx _ z1 _=>l1 z1 λy=>(x==("range":Str))&&S.bl.contains x&&gf sc x&&mt S fc N sc a (.e y)
 | .set i a,nd=>gF nd λy0=>mU y0 λz1 e _=>dN z1 λx p=>fc&&(N[i]? ==some x)&&(!kY e||sc.names.lookup x==some .cell)&&mt S fc N sc a (.e e)
 | .sc i _ tup nm cap it t e,nd=>gF nd λy0=>mU y0 λz1 z2 _=>dN z1 λx p=>dG z2 λel z3 scope p2=>l1 z3 λz4=>match z4 with|⟨tg,ite,ifs,as⟩=>fc&&(N[i]? ==some x)&&(sc.names.lookup x==some .local)&&(p.line==p2.line)&& !(scope.names.any λy=>y.1==x&&(y.2== .local||y.2== .cell))&&(as==0)&&xr tup tg nm&&qR N sc scope nm cap&&dv ite&&mt S fc N sc it (.i tg ite)&&mt S false (nm++cap.map Prod.snd) scope e (.e el)&&(match ifs with| []=>Az t| [c]=>mt S false (nm++cap.map Prod.snd) scope t (.t c)|_=>false)
 | .un is a,nd=>gF nd λy0=>mU y0 λz1 e _=>dT z1 λes _ _=>fc&&lz N is es&& !kY e&&(e.ctorIdx != 25)&&mt S fc N sc a (.e e)
 | .sf c f o a,nd=>gF nd λy0=>mU y0 λz1 e _=>dA z1 λx f' _=>(f==f')&&S.fs.contains (c,f)&& !kY e&&mt S fc N sc o (.e x)&&mt S fc N sc a (.e e)
 | .dp d k a,nd=>gF nd λy0=>mU y0 λz1 e _=>dS z1 λx y _=>!kY e&&mt S fc N sc d (.e x)&&mt S fc N sc k (.e y)&&mt S fc N sc a (.e e)
 | .sp l i a,nd=>gF nd λy0=>mU y0 λz1 e _=>dS z1 λx y _=>!kY e&&mt S fc N sc l (.e x)&&mt S fc N sc i (.e y)&&mt S fc N sc a (.e e)
 | .re a,nd=>gF nd λy0=>tR y0 λz1 _=>o1 z1 λe=>mt S fc N sc a (.e e)
 | .r0,nd=>gF nd λy0=>tR y0 λz1 _=>o0 z1 <|true
 | .aX t a b,nd=>gF nd λy0=>tI y0 λx y z _=>mt S fc N sc t (.t x)&&mt S fc N sc a (.b y)&&mt S fc N sc b (.b z)
 | .fo tup is it b,nd=>gF nd λy0=>tF y0 λtg x y z1 _=>l0 z1 <|fc&&dv x&&cond tup (dT tg λes _ _=>lz N is es) (dN tg λz _=>l1 is λi=>N[i]? ==some z)&&mt S fc N sc it (.i tg x)&&mt S fc N sc b (.b y)
 | .ex a,nd=>gF nd λy0=>tE y0 λe _=>!kY e&&mt S fc N sc a (.e e)
 | .ra,nd=>match nd with| .s _=>true| .b _=>true|_=>false
 | .se a b,nd=>yU nd λy0=>lc y0 λx y=>mt S fc N sc a (.s x)&&mt S fc N sc b (.b y)
 | .en,nd=>yU nd λy0=>l0 y0 <|true
 | .ig x,nd=>oB nd λ_ y0=>dN y0 λy _=>(x==y)&&(S.gt.lookup x).isSome&&gf sc x
 | .sk c f a,nd=>cM nd λy0=>dF y0 λg es ks _=>dN g λx _=>l1 es λe=>l1 ks λk=>(x==("sorted":Str))&&(k.arg==some ("key":Str))&&(dY k.value λps b ls lp=>dA b λe' f' _=>(f'==f)&&(dN e' λv _=>decide (lp=S.lp)&&A3 ps v&&AM v ls))&&fc&&decide (N=S.ln)&&S.bl.contains x&&gf sc x&&S.fs.contains (c,f)&&mt S fc N sc a (.e e)
section
variable {S:SI}{fc:Bool}{N:az}{sc:Scope}
theorem eC{t:T}{x:Expr}(h:mt S fc N sc t (.e x)=true):dv x=true:=by
 cases t<;>first|exact(mC h).1|exact absurd h iE
theorem ik{e:Expr}{env:Env}(h:dv e=true):starEach (e::es) env=(false,eval e env)::starEach es env:=by
 cases e<;>first|rfl|cases h
theorem zF{i:Expr}(h:dv i=true):∀o v,subscripted i false o v=operate [o,v] (getItem o v):=by
 intro o v;cases i<;>first|rfl|cases h
theorem lu{op:CmpOp}{e:Expr}(h:dv e=true):behindInMarks op e=false:=by
 cases e<;>first|rfl|cases h
theorem wX{e:Expr}{env:Env}(h:dv e=true):∀x,foldedSetIterable e env x=pure x:=by
 intro x;cases e<;>first|rfl|cases h
theorem ql{e:Expr}{l:Nat}{env:Env}(h:dv e=true)(I:kY e=false):swapsWith e tg l env=pure false:=by
 cases e<;>first|rfl|(cases I;done)|(cases h;done)
theorem oS{env:Env}(h:ir o=false):attributeBase o m env (eval o env)=eval o env:=by
 cases o<;>first|rfl|skip
 rename_i f as ks p;cases f<;>first|rfl|skip
 cases as<;>first|rfl|skip
 cases ks<;>first|rfl|cases h
theorem Tg{e:Expr}{env:Env}(h:AA e=false):∀I,isTrue e env I=(do let v<-I;standAt e.pos;holding [v] (truthy v)):=by
 intro w;cases e<;>first|rfl|cases h|skip
 rename_i o x p;cases o<;>first|rfl|cases h
theorem jt:∀{r:T} {xs:aW},mt S fc N sc r (.a xs)=true->xs.all dv=true
 |r,[],_=>rfl
 |r,x::xs,h=>by
  cases r<;>first|exact absurd h iE|skip
  have h:=mC h;rw[ff,eC h.1,jt h.2];rfl
theorem wJ{env:Env}:∀{xs:aW},xs.all dv=true->starEach xs env=xs.map λe=>(false,eval e env)
 | [],_=>rfl
 |x::xs,h=>by
  rw[ff,bj]at h;rw[ik h.1,wJ h.2];rfl
theorem qh{env:Env}{p:Pos}{xs:aW}(h:xs.all dv=true):(backTo p (starEach xs env)).any (·.1)=false:=by
 rw[wJ h];unfold backTo;simp
theorem zv{env:Env}{p:Pos}{xs:aW}(h:xs.all dv=true):(backTo p (starEach xs env)).all (λx=>!x.1)=true:=by
 rw[wJ h];unfold backTo;simp
theorem back_eq{env:Env}{p:Pos}{xs:aW}(h:xs.all dv=true):backTo p (starEach xs env)=xs.map λe=>(false,eval e env):=by
 rw[wJ h];unfold backTo;simp[bV,Function.comp_def]
theorem GV{es:aW}{env:Env}(Y:ir o=false)(W:es.all dv=true)(Z:es.length<29)(J:i4 apos pos=true):
 eval (.Call (.Attribute o m apos) es [] pos) env=(do
  let ov<-eval o env
  standAt apos.atName
  let(f,first) <-holding [ov] (getMethod ov m (do return (<-importBound o env).getD true))
  callWith pos f first (backTo pos (starEach es env)) (backToKw pos (keywordEach [] env))):=by
 have e1:eval (.Call (.Attribute o m apos) es [] pos) env=(do
  let ov<-attributeBase o m env (eval o env)
  standAt apos.atName
  methodCall o m apos pos env ov (es.length+([]:List Keyword).length) (backTo pos (starEach es env)) (backToKw pos (keywordEach [] env))):=rfl
 rw[e1,oS Y];have rL:methodCallForm (es.length+([]:List Keyword).length) (backTo pos (starEach es env)) (backToKw pos (keywordEach [] env))=true:=by
  unfold methodCallForm;rw[zv W];have:es.length+0+0<30:=by omega
  simp[backToKw,keywordEach,this];omega
 have I:methodCallPos true o env apos pos=pure pos:=by
  unfold methodCallPos;unfold i4 at J;rw[if_pos (by rw[J];rfl)]
 unfold methodCall;rw[rL,I];rfl
end
structure Wd(P:Program)(w:World)(K:ag)(mg:bq)(base:Heap)(Γ:G)(k:Nat):Prop where
 bl:∀x∈Γ.S.bl,mg x=none
 gi:∀x i,Γ.S.gi.lookup x=some i->AX mg x i
 gt:∀x l,Γ.S.gt.lookup x=some l->pG K mg x l
 tb:∀x∈Γ.S.tb,KTab P w K mg x (Γ.tb x)
 tt:∀x l,Γ.S.tt.lookup x=some l->AL P w K mg x l
 cl:∀i c,Γ.S.cl[i]? =some c->cI K (Γ.C i)/\mg c=some (.ref (Γ.C i))
 fs:∀c f,(c,f)∈Γ.S.fs->cI K (Γ.C c)/\aR K (Γ.C c) f
 fn:∀(i:Nat) d,Γ.S.fd[i]? =some d->d.kind=0->yr P w K mg base k d.name d.ps (Γ.fn i)
 me:∀(i:Nat) d,Γ.S.fd[i]? =some d->d.kind=1->cI K (Γ.C d.cls)/\rB P w K mg base (Γ.C d.cls) k d.name d.ps (Γ.fn i)
 kX:∀(i:Nat) d,Γ.S.fd[i]? =some d->d.kind=2->∃j,j+1<=k/\yt P w K mg base (Γ.C d.cls) j d.ps (Γ.kX i)
 hE:∀q∈Γ.hE,∃fd ps,PySem.W.keepIn K (.ref q.1)=true/\Binds K fd ps []/\dz P w K mg base fz k q.1 fd ps (fS K q.2)
structure Ln(Γ:G)(X:Cx):Prop where
 q:X.env.qual++("<lambda>":Str)=Γ.S.lq
 cc:∃cc,X.env.code= .ref cc/\PySem.W.CodeHd X.base cc Γ.lP
 bt:X.base.BuiltinsAt X.mg Γ.lP
 gp:mainGlobals≠Γ.lP
structure fV(Γ:G)(k:Nat)(fc:Bool)(N:az)(sc:Scope)(X:Cx):Prop where
 hN:X.N=N
 yg:∀x∈N,pU X.env.scope x/\iG x=true
 gl:∀x,sc.names.lookup x=some .globalImplicit->Gl X x
 calm:X.calm=true
 room:aH k X.A
 fn:fc=true->X.env.scope=sc/\N.Nodup/\(∀x∈N,Loc sc x)/\(∀x,X.fn x=true)/\PassesOwn (model X.prog X.w) X.A X.env X.xe/\X.env.blockKind= .function/\∀x,X.env.kindOf x=sc.names.lookup x
 lm:fc=true->N=Γ.S.ln->Ln Γ X
def yu(X:Cx):aW->List ar->Prop
 | [],ts=>ts= []
 |x::xs,ts=>∃t r,ts=t::r/\ah X x t/\yu X xs r
def Good(Γ:G)(X:Cx)(t:T):Nd->Prop
 | .e x=>ah X x (tr Γ t).E
 | .t x=>eI X x (tr Γ t).T
 | .a xs=>fv X xs (tr Γ t).A
 | .i tg x=>gH X tg x (tr Γ t).I
 | .p x=>pT X x (tr Γ t).P
 | .s x=>fg X x (tr Γ t).S
 | .b xs=>jB X xs (tr Γ t).S
 | .l xs=>yu X xs (tr Γ t).L
section
variable {X:Cx}{Γ:G}{t:T}{r:ar}{f:Expr->Bool}{nd:Nd}
theorem tQ(e:tr Γ t=ex r)(I:∀x,f x=true->ah X x r)(h:cM nd f=true):Good Γ X t nd:=by
 cases nd<;>first|(cases h;done)|skip
 . show ah X _ (tr Γ t).E;rw[e];exact I _ (mC h).2
 . rename_i x
   have h':(!AA x&&f x)=true:=h;rw[bj,Bool.not_eq_true']at h';show eI X _ (tr Γ t).T;rw[e];exact V6 (I _ h'.2) (Tg h'.1)
theorem tf(e:tr Γ t=ex r)(I:∀x,f x=true->ah X x r/\eI X x (lE r))(h:rV nd f=true):Good Γ X t nd:=by
 cases nd<;>first|(cases h;done)|skip
 . show ah X _ (tr Γ t).E;rw[e];exact(I _ (mC h).2).1
 . show eI X _ (tr Γ t).T;rw[e];exact(I _ h).2
theorem ah.imp{e:Expr}{t t':ar}(h:ah X e t)(i:∀σ M Q,t' σ M Q->t σ M Q):ah X e t':=PE.imp h λσ0 H Q0 h=>by
 obtain⟨σ,M,Q,hs,J,I,hk⟩:=h;exact⟨σ,M,Q,hs,J,i _ _ _ I,hk⟩
theorem fg.imp{e:Stmt}{t t':dR}(h:fg X e t)(i:∀D σ M,t' D σ M->t D σ M):fg X e t':=PS.imp h λD0 W H h=>by
 obtain⟨σ,M,D,hs,J,I,hd⟩:=h;exact⟨σ,M,D,hs,J,i _ _ _ I,hd⟩
theorem GR{e:Expr}:ah X e iL:=λpins s W H Q0 I h=>by
 obtain⟨σ,M,Q,hs,Y,J,hk⟩:=h;exact J.elim
theorem Rw{g:Value->Value->Sem Value}:cY X g (λ_ _ _ _=>False):=λpins s σ H x y v u Q0 I Y Z h=>by
 obtain⟨a,b,M,Q,ra,rb,W,J,hk⟩:=h;exact J.elim
theorem Vz:∀o:Operator,cY X (binaryOp o) (i5 o):=by
 intro o;cases o<;>first|exact NV|exact NL|exact NQ|exact NR|exact NU|exact NO|exact Rw
theorem qq(I:X.A.units+64<cLine):∀o:CmpOp,cY X (compareOp o) (dm o):=by
 intro o;cases o<;>first|exact LY|exact LX|exact LP|exact LO|exact NT I|exact NP I|exact LS|exact VB|exact LQ I|exact VA I
theorem ER{o p:CmpOp}{b c:Expr}(h:dv c=true):lastMarks [o,p] [b,c]=false:=lu h
end
section
variable {X:Cx}
theorem XI:dw X (.builtin "isinstance") (fC X.K uz):=by
 intro pins s σ H xs us Q0 I Y h;obtain⟨rs,M,Q,Z,W,J,hk⟩:=h;unfold uz at J;split at J
 . rename_i a
   exact Qq pins s σ H xs us Q0 I Y ⟨_,M,Q,Z,W,⟨rfl,J⟩,hk⟩
 . rename_i x t _
   by_cases h1:t= "int"
   . subst h1;exact Sn pins s σ H xs us Q0 I Y ⟨_,M,Q,Z,W,⟨rfl,J⟩,hk⟩
   by_cases h2:t= "bool"
   . subst h2;exact Q7 pins s σ H xs us Q0 I Y ⟨_,M,Q,Z,W,⟨rfl,J⟩,hk⟩
   by_cases h3:t= "str"
   . subst h3;exact Sl pins s σ H xs us Q0 I Y ⟨_,M,Q,Z,W,⟨rfl,J⟩,hk⟩
   by_cases h4:t= "tuple"
   . subst h4;exact Qp pins s σ H xs us Q0 I Y ⟨_,M,Q,Z,W,⟨rfl,J⟩,hk⟩
   by_cases h5:t= "list"
   . subst h5;exact Q6 pins s σ H xs us Q0 I Y ⟨_,M,Q,Z,W,⟨rfl,J⟩,hk⟩
   . unfold Bv at J
     rw[if_neg h1,if_neg h2,if_neg h3,if_neg h4,if_neg h5]at J;exact J.elim
 . exact J.elim
theorem XH:dw X (.builtin "len") (fC X.K Ao):=by
 intro pins s σ H xs us Q0 I Y h;obtain⟨rs,M,Q,Z,W,J,hk⟩:=h;unfold Ao at J;split at J
 . rename_i a
   split at J
   . rename_i ys e
     exact Dv pins s σ H xs us Q0 I Y ⟨_,M,Q,Z,W,by simp only[xK,e];exact J,hk⟩
   . rename_i kvs e
     exact XG pins s σ H xs us Q0 I Y ⟨_,M,Q,Z,W,⟨a,kvs,rfl,e,J⟩,hk⟩
   . rename_i kvs e
     exact XF pins s σ H xs us Q0 I Y ⟨_,M,Q,Z,W,⟨a,kvs,rfl,e,J⟩,hk⟩
   . exact J.elim
 . exact Dv pins s σ H xs us Q0 I Y ⟨_,M,Q,Z,W,J,hk⟩
variable {x:Str}{p pos:Pos}{e:Expr}{es:aW}{t:bR}
theorem XM(Z:X.calm=true)(hx:yC.contains x=true)(W:X.mg x=none)(J:Gl X x)(hd:(x==("__debug__":Str))=false)(I:fv X (e::es) t)(ho:(e::es).all dv=true):ah X (.Call (.Name x p) (e::es) [] pos) (jw (fJ x) t):=by
 rw[ff,bj]at ho;have s1:=ik (es:=es) (env:=X.env) ho.1;have s2:=qh (env:=X.env) (p:=pos) ho.2;have Y:x= "len"∨x= "isinstance"∨x= "all"∨x= "ord"∨x= "any":=by simpa[yC]using hx
 rcases Y with rfl|rfl|rfl|rfl|rfl
 . exact tZ XH W VH I J (by decide) hd s1 s2
 . exact tZ XI W Oq I J (by decide) hd s1 s2
 . exact tZ (Ss Z) W VJ I J (by decide) hd s1 s2
 . exact tZ Nq W VG I J (by decide) hd s1 s2
 . exact tZ (Sr Z) W VI I J (by decide) hd s1 s2
theorem VW(Z:X.calm=true)(hx:yE.contains x=true)(W:X.mg x=none)(J:Gl X x)(hd:(x==("__debug__":Str))=false)(I:fv X (e::es) t)(ho:(e::es).all dv=true):ah X (.Call (.Name x p) (e::es) [] pos) (jw (nk x) t):=by
 rw[ff,bj]at ho;have s1:=ik (es:=es) (env:=X.env) ho.1;have s2:=qh (env:=X.env) (p:=pos) ho.2;have Y:x= "tuple"∨x= "list"∨x= "int":=by simpa[yE]using hx
 rcases Y with rfl|rfl|rfl
 . exact Ab VV W Gg I J (by decide) hd s1 s2
 . exact Ab XE W xb I J (by decide) hd s1 s2
 . exact Ab Nr W Ip I J (by decide) hd s1 s2
theorem WH(hx:["int","bool","str","tuple","list"].contains y=true)(J:X.mg (Str.ofString y)=none)(I:Gl X (Str.ofString y)):ah X (.Name (Str.ofString y) pos) (rC (.ty y)):=by
 have W:y= "int"∨y= "bool"∨y= "str"∨y= "tuple"∨y= "list":=by simpa using hx
 rcases W with rfl|rfl|rfl|rfl|rfl
 . exact SQ J I
 . exact RU J I
 . exact SO J I
 . exact Qe J I
 . exact RT J I
theorem Vd:p4 C f Q=(λx M1=>match x with| .ref a=>∃fs v,M1 a=some (.ins C fs)/\fs.lookup f=some v/\Q v M1|_=>False):=by
 funext x M1;cases x with
 |ref a=>
  refine propext ⟨λh=>?_,λ⟨fs,v,e1,I,q⟩=>?_⟩
  . unfold p4 at h
    simp only at h;split at h
    . rename_i J fs e1
      obtain⟨rfl,h'⟩:=h;split at h'
      . rename_i v I;exact⟨fs,v,e1,I,h'⟩
      . exact h'.elim
    . exact h.elim
  . unfold p4;simp only[e1,I];exact⟨trivial,q⟩
 |_=>rfl
theorem X5{ta:ar}(J:cI X.K C)(Y:aR X.K C f)(W:ah X e ta)(I:ir e=false):ah X (.Attribute e f pos) (A7 C f ta):=ah.imp (NA J Y W (oS I)) λσ M Q h=>by
 unfold A7 at h;rw[Vd]at h;exact h
theorem Wr{ta tv:ar}(J:cI X.K C)(W:aR X.K C f)(I:ah X o ta)(Y:ah X value tv)(hs:swapsWith value (some (.Attribute o f pos')) pos.line X.env=pure false):fg X (.Assign [.Attribute o f pos'] value pos) (A8 C f ta tv):=fg.imp (MT J W I Y hs) λD σ M h=>by
 unfold A8 at h;have:∀y,p5 C f y (D.nx σ)=(λx M2=>match x with| .ref a=>∃fs,M2 a=some (.ins C fs)/\fs.length<1000/\D.nx σ (put M2 a (.ins C (jx f y fs)))|_=>False):=λy=>by
  funext x M1;cases x with
  |ref a=>
   refine propext ⟨λh=>?_,λ⟨fs,e1,q⟩=>?_⟩
   . unfold p5 at h
     simp only at h;split at h
     . rename_i Z fs e1
       obtain⟨rfl,h'⟩:=h;exact⟨fs,e1,h'⟩
     . exact h.elim
   . unfold p5;simp only[e1];exact⟨trivial,q⟩
  |_=>rfl
 simp only[this]at h;exact h
theorem HQ{sp:bX}{t:bR}:oq C m sp t σ Q=(λx M1=>match x with| .ref a=>∃fs,M1 a=some (.ins C fs)/\fs.lookup m=none/\t σ M1 λrs M2=>sp (.ref a::rs) M2 Q|_=>False):=by
 funext x M1;cases x with
 |ref a=>
  refine propext ⟨λh=>?_,λ⟨fs,e1,I,q⟩=>?_⟩
  . unfold oq at h
    simp only at h;split at h
    . rename_i J fs e1
      obtain⟨rfl,h'⟩:=h;exact⟨fs,e1,h'⟩
    . exact h.elim
  . unfold oq;simp only[e1];exact⟨trivial,I,q⟩
 |_=>rfl
theorem VC{sp:bX}{ta:ar}(F:rB X.prog X.w X.K X.mg X.base C k m ps sp)(c:cI X.K C)(Y:aH k X.A)(J:ah X o ta)(I:ir o=false)(W:i4 apos pos=true):
 ah X (.Call (.Attribute o m apos) [] [] pos) (pL C m sp ta lK):=ah.imp (SW F c Y J (GV I rfl (by decide) W)) λσ M Q h=>by
 unfold pL at h;rw[HQ]at h;exact h
theorem WR{sp:bX}{ta:ar}(F:rB X.prog X.w X.K X.mg X.base C k m ps sp)(c:cI X.K C)(hr:aH k X.A)(Y:ah X o ta)(J:fv X (e::es) t)(W:ir o=false)(ho:(e::es).all dv=true)(Z:(e::es).length<29)(hn:i4 apos pos=true):
 ah X (.Call (.Attribute o m apos) (e::es) [] pos) (pL C m sp ta t):=by
 have I:=ho;rw[ff,bj]at ho;refine ah.imp (UR F c hr Y J (ik ho.1) (qh ho.2) (GV W I Z hn)) λσ M Q h=>?_
 unfold pL at h;rw[HQ]at h;exact h
end
theorem Au{S:SI}{sc:Scope}(h:mt S fc N sc r (.a [])=true):r= .e0:=by
 cases r<;>first|rfl|exact absurd h iE
section
variable {X:Cx}{C:Addr}
theorem SX{x:Str}{p pos:Pos}{sp:bX}(F:yt X.prog X.w X.K X.mg X.base C k ps sp)(hr:aH (k+1) X.A)(hm:X.mg x=some (.ref C))(hg:Gl X x)(Y:(x==("__debug__":Str))=false):ah X (.Call (.Name x p) [] [] pos) (qD C sp lK):=by
 obtain⟨g,fd,hM,hb,F⟩:=F.ex;refine PE.imp (R8 hM F hr hg hm hb .nil oZ Y) λσ0 H Q0 h=>?_
 obtain⟨σ,M,Q,hs,hv,ht,hk⟩:=h;refine λa dx na nd ne=>?_
 have J:Ext H (upd H dx (.own a)):=Ext.new nd;have I:(upd H dx (.own a)) a=none:=by rw[aq (Ne.symm ne)];exact na
 have W:Ext H (upd (upd H dx (.own a)) a (.ins C dx [])):=J.trans (Ext.new I);refine⟨[.ref a],put M a (.ins C []),_,ab.cons (by simp only[Rep]) ab.nil,(hv.new nd).cU I ⟨dx,[],rfl,rfl⟩,ht a (hv.free na),λrv M2 v H2 Z e2 v2 r2=>?_⟩
 obtain⟨rfl,Z⟩:=Z;simp only[Rep]at r2;exact⟨r2,hk _ M2 _ H2 Z (W.trans e2) v2 (by simp only[Rep])⟩
theorem gu{sc:Scope}{x:Str}(h:gf sc x=true):sc.names.lookup x=some .globalImplicit/\(x==("__debug__":Str))=false:=by
 unfold gf at h;rw[bj,beq_iff_eq,Bool.not_eq_true']at h;exact h
theorem VQ{x:Str}(h:iG x=true):(x==("__debug__":Str))=false/\(x==("__classdict__":Str))=false:=by
 unfold iG at h
 rwa [bj,Bool.not_eq_true',Bool.not_eq_true']at h
theorem FL{tg e:Expr}{l:Nat}{env:Env}(h:dv e=true)(I:kY e=false):swapsWithSole [tg] e l env=pure false:=ql h I
theorem mem_of[BEq α][LawfulBEq α]{a:α}{l:List α}(h:l.contains a=true):a∈l:=by simpa using h
theorem Ue{o i:Expr}{p:Pos}(h:dv i=true):∀v,assign (.Subscript o i p) X.env v=(do
 let ov<-holding [v] (eval o X.env)
 let iv<-holding [v,ov] (eval i X.env)
 standAt p
 holding [v,ov,iv] (setItem ov iv v)
 release [v,ov,iv] []):=by intro v;cases i<;>first|rfl|cases h
theorem GI{K:ag}{ta:ar}(h:up K (qS neg ss ta) σ0 H Q0):qV (qW K (xN K neg)) (up K ta) (up K (K1 K ss)) σ0 H Q0:=by
 obtain⟨σ,M,Q,hs,Y,W,hk⟩:=h;refine⟨σ,M,_,hs,Y,W,λrx M1 x H1 q e1 v1 r1=>?_⟩
 refine⟨σ,M1,λy M2=>∃p,y= .ref p/\uC K p ss/\M2=M1,hs.ext e1,v1,λp I=>⟨p,rfl,I,rfl⟩,λry M2 y H2 Z J v2 r2=>?_⟩
 obtain⟨p,rfl,I,rfl⟩:=Z;exact⟨rx,.ref p,_,Q,Rep.ext J _ _ r1,r2,v2,⟨ss,I,q.1,q.2⟩,hk.ext (e1.trans J)⟩
theorem Hn{op:CmpOp}{a:Expr}{ta:ar}{x:Str}{p pos:Pos}(ho:cY X (compareOp op) (xN X.K neg))(h:pG X.K X.mg x ss)(I:ah X a ta)(J:Gl X x)(hd:(x==("__debug__":Str))=false):ah X (.Compare a [op] [.Name x p] pos) (qS neg ss ta)/\eI X (.Compare a [op] [.Name x p] pos) (lE (qS neg ss ta)):=
 ⟨PE.imp (GN ho I (Lc h J hd) (lu rfl)) λ_ _ _ h=>GI h,PT.imp (Gj ho I (Lc h J hd) (lu rfl)) λσ0 H Q0 h=>by
  obtain⟨σ,M,Q,hs,Y,W,hk⟩:=h;exact GI ⟨σ,M,_,hs,Y,W,oK hk⟩⟩
theorem WS{o e:Expr}{ap p:Pos}(h0:ir o=false)(J:i4 ap p=true)(I:dv e=true):M1 X o m ap e p where
 base:=oS h0
 rL:=by rw[zv (by rw[ff,I];rfl)];rfl
 line:=J
 trees:=back_eq (by rw[ff,I];rfl)
end
section
variable {X:Cx}{Γ:G}{k:Nat}{fc:Bool}{N:az}{sc:Scope}
theorem fV.var(O:fV Γ k fc N sc X){i:Nat}{x:Str}(h:N[i]? =some x):ah X (.Name x pos) (pq i):=by
 have m:=O.yg x (List.mem_of_getElem? h);have d:=VQ m.2;exact rv i (by rw[O.hN];exact h) m.1 d.1 d.2
theorem fV.pJ(O:fV Γ k true N sc X){i:Nat}{x:Str}{e:Expr}{pos pos':Pos}(h:N[i]? =some x)(J:ah X e te)(hs:swapsWith e (some (.Name x pos')) pos.line X.env=pure false):fg X (.Assign [.Name x pos'] e pos) (uy i te):=by
 obtain⟨I,nd,Y,W,_⟩:=O.fn rfl;exact sset i J (by rw[O.hN];exact nd) (by rw[O.hN];exact h) (by rw[I];exact Y x (List.mem_of_getElem? h)) hs (.inl (W x))
theorem fV.gN(O:fV Γ k true N sc X){i:Nat}{x:Str}(h:N[i]? =some x):nh X (.Name x pos) (gQ i):=by
 obtain⟨I,nd,W,J,_⟩:=O.fn rfl;exact XZ i (by rw[O.hN];exact nd) (by rw[O.hN];exact h) (by rw[I];exact W x (List.mem_of_getElem? h)) (.inl (J x))
theorem E4(O:fV Γ k true N sc X):∀(is:List Nat) (es:aW),lz N is es=true->ng X es (lG is)/\(assignEach es X.env).length=is.length/\(assignEach es X.env).findIdx? (·.1)=none
 | [],[],_=>⟨GK,rfl,rfl⟩
 | [],_::_,h=>by simp[lz]at h
 |i::is,[],h=>by simp[lz]at h
 |i::is,e::es,h=>by
  cases e<;>first|(simp[lz]at h;done)|skip
  rename_i x p;simp only[lz,bj,beq_iff_eq]at h;obtain⟨I,nd,W,J,_⟩:=O.fn rfl;obtain⟨a,b,c⟩:=E4 O is es h.2;have hd:(assignEach (.Name x p::es) X.env)=(false,assign (.Name x p) X.env)::assignEach es X.env:=rfl;refine⟨FV (xh (i:=i) (by rw[O.hN];exact nd) (by rw[O.hN];exact h.1) (by rw[I];exact W x (List.mem_of_getElem? h.1)) (.inl (J x))) a,by rw[hd,eG,b];rfl,by rw[hd,List.findIdx?_cons,c];rfl⟩
theorem gT(O:fV Γ k true N sc X){is:List Nat}(h:lz N is es=true):nh X (.Tuple es j pos) (uE is):=by
 obtain⟨a,b,c⟩:=E4 O is es h;exact Nl O.calm a rfl b c
theorem xc{s:Shared}(O:fV Γ k fc N sc X)(hs:qR N sc scope nm cap=true):
 fV Γ k false (nm++cap.map Prod.snd) scope (cZ X scope cl C (nm++cap.map Prod.snd) s H fp):=by
 unfold qR at hs;simp only[bj,gB,beq_iff_eq]at hs;obtain⟨⟨⟨⟨⟨⟨⟨I,_⟩,_⟩,_⟩,_⟩,W⟩,_⟩,J⟩:=hs;refine⟨rfl,λx hx=>⟨?_,J x hx⟩,λx h=>Lx h,O.calm,O.room,(λh=>by cases h),λh=>by cases h⟩
 rcases eZ.mp hx with hx|hx
 . exact .inl (lookup_relabel_local (W x hx))
 . obtain⟨p,Y,rfl⟩:=bu.mp hx
   exact .inr (Eg (I p Y).1.2)
theorem JI{x:Str}(h:cf sc x=true):sc.names.lookup x=some .cell∨sc.names.lookup x=some .free:=by
 unfold cf at h
 rwa [Bool.or_eq_true,beq_iff_eq,beq_iff_eq]at h
theorem Iw{tup:Bool}(h:xr tup tg nm=true):uu tup tg nm:=by
 unfold xr at h;unfold uu;split at h
 . simpa using h
 . simpa using h
 . cases h
structure Aj(X:Cx)(N:az)(sc scope:Scope)(nm:az)(cap:List (Nat×Str)):Prop where
 fE:∀p∈cap,N[p.1]? =some p.2/\scope.names.lookup p.2=some .free/\(sc.names.lookup p.2=some .cell∨sc.names.lookup p.2=some .free)
 eR:∀y∈scope.names,y.2= .free->(sc.names.lookup y.1=some .cell∨sc.names.lookup y.1=some .free)
 bC:∀y∈scope.names,y.2≠.cell
 bI:scope.kind= .function
 cq:∀y∈scope.names,y.2= .local->scope.names.lookup y.1=some .local
 hx:∀x∈nm,scope.names.lookup x=some .local
 jr:(nm++cap.map Prod.snd).Nodup
theorem Fo(hs:qR N sc scope nm cap=true):Aj X N sc scope nm cap:=by
 unfold qR at hs;simp only[bj,gB,beq_iff_eq,decide_eq_true_eq]at hs;obtain⟨⟨⟨⟨⟨⟨⟨I,eR⟩,bC⟩,bI⟩,cq⟩,W⟩,jr⟩,Z⟩:=hs;refine⟨λp Y=>⟨(I p Y).1.1,(I p Y).1.2,JI (I p Y).2⟩,λy J e=>?_,λy J e=>?_,bI,λy J e=>?_,W,jr⟩
 . have:=eR y J
   rw[e]at this;exact JI (by simpa using this)
 . have:=bC y J
   rw[e]at this;simp at this
 . have:=cq y J
   rw[e]at this;simpa using this
end
section
variable {Γ:G}{k:Nat}{X:Cx}{fc:Bool}{N:az}{sc:Scope}
theorem Wj{p:Pos}{x:Str}{l:Nat}(O:fV Γ k true N sc X)(h:sc.names.lookup x=some .cell):swapsWith (.ListComp el gs scope p) (some (.Name x px)) l X.env=pure false:=by
 obtain⟨_,_,_,_,_,I,hk⟩:=O.fn rfl;show(pure (X.env.blockKind== .function&&X.env.kindOf x==some .local&&px.line==p.line&& !(scope.names.any λ(n,k)=>n==x&&(k== .local||k== .cell))):Sem Bool)=_
 rw[hk,h,show((some NameKind.cell:Option NameKind)==some .local)=false from by decide]
 simp
theorem Wi{scope:Scope}{p:Pos}{x:Str}{I:Pos}{l:Nat}(O:fV Γ k true N sc X)(h:sc.names.lookup x=some .local)(Y:I.line=p.line)(J:(scope.names.any λy=>y.1==x&&(y.2== .local||y.2== .cell))=false):swapsWith (.ListComp el gs scope p) (some (.Name x I)) l X.env=pure true:=by
 obtain⟨_,_,_,_,_,W,hk⟩:=O.fn rfl;show(pure (X.env.blockKind== .function&&X.env.kindOf x==some .local&&I.line==p.line&& !(scope.names.any λ(n,k)=>n==x&&(k== .local||k== .cell))):Sem Bool)=_
 rw[hk,h,W,Y];have:(scope.names.any λ(n,k)=>n==x&&(k== .local||k== .cell))=false:=J
 rw[this];simp
theorem UI{tup md:Bool}{pos iA:Pos}(O:fV Γ k true N sc X)(i)(c:Aj X N sc scope nm cap)(htg:uu tup tg nm)(hi:gH X tg iter ti)
 (hif:∀cl C s H fp,pH (cZ X scope cl C (nm++cap.map Prod.snd) s H fp) ifs tt) (hel:∀cl C s H fp,ah (cZ X scope cl C (nm++cap.map Prod.snd) s H fp) elt te) (hs:∀v,foldedSetIterable iter X.env v=pure v) (Y:N[i]? =some y)
 (hsw:swapsWith (.ListComp elt [⟨tg,iter,ifs,0⟩] scope pos) (some (.Name y py)) iA.line X.env=pure true):
 fg X (.Assign [.Name y py] (.ListComp elt [⟨tg,iter,ifs,0⟩] scope pos) iA) (uy i (qx (gP tup nm.length) md ti (cap.map Prod.fst) tt te)):=by
 obtain⟨Z,nd,hl,hf,_⟩:=O.fn rfl;intro pins s σ0 H D0 I h;obtain⟨σ,M,D,hst,hv,ht,hd⟩:=h;rw[exec_Assign_Name_used _ _ _ _ hsw];refine wpAny_bind (wpAny_standAt (wpAny_bind ?_));show wpAny _ _ (do let _<-comprehension (.ListComp elt [⟨tg,iter,ifs,0⟩] scope pos) scope X.env _ (newList []) false (eval iter X.env) (some (assign (.Name y py) X.env))) _ _ s
 refine wpAny_bind (wpAny_mono (Ge (PP:=λ_ s'=>∃σ' H',Inv X pins σ' H' s'/\D0.nx σ' H') cap htg O.calm hi hif hel Z O.hN c.fE c.eR c.bC c.bI c.cq c.hx c.jr hs I (Q0:=λv H'=>D0.nx (σ0.set i (some v)) H') ⟨σ,M,_,hst,hv,ht,λrx M1 v H1 q e1 v1 r1=>hd.nx _ M1 _ H1 q e1 v1 ((hst.ext e1).set r1 i)⟩ ?_) (λ_ s' hq=>wpAny_pure (wpAny_pure hq)) λ_ _ e=>e)
 intro D C s5 m5 H5 hn inv q hC hL hS W hpi;have J:Inv X pins σ0 H5 s5:=inv s5.heap (Heap.SameBut.refl ..);refine wpAny_assign_Name (E7 J (by rw[O.hN];exact nd) (by rw[O.hN];exact Y) (by rw[Z];exact hl y (List.mem_of_getElem? Y)) (v:=.ref D) rfl (λs6 I6 sb=>?_) (.inl (hf y)))
 obtain⟨a,sb,ha⟩:=sb;have hCa:C≠a:=by
  rcases ha with rfl|e
  . exact hL
  . exactλz=>W y a e z.symm
 obtain⟨o,es,ep,ho,r⟩:=hn;refine⟨m5,⟨o,es,ep,sb.extBut _ _ hCa ho,r⟩,λh' sb'=>⟨_,H5,Inv.turned (t':=s6.toks) (it:=C) I6 (λb o hb e=>sb'.extBut b o hb e) hC hL (.inr hS) W hpi,q⟩⟩
theorem UY{tup md:Bool}(O:fV Γ k true N sc X)(c:Aj X N sc scope nm cap)(htg:uu tup tg nm)(hi:gH X tg iter ti)
 (Y:∀cl C s H J,pH (cZ X scope cl C (nm++cap.map Prod.snd) s H J) ifs tt) (W:∀cl C s H J,ah (cZ X scope cl C (nm++cap.map Prod.snd) s H J) elt te) (hs:∀v,foldedSetIterable iter X.env v=pure v):
 ah X (.ListComp elt [⟨tg,iter,ifs,0⟩] scope pos) (qx (gP tup nm.length) md ti (cap.map Prod.fst) tt te):=by
 obtain⟨Z,nd,hl,hf,_⟩:=O.fn rfl;intro pins s σ0 H Q0 I hw;rw[eval_ListComp];exact Ge cap htg O.calm hi Y W Z O.hN c.fE c.eR c.bC c.bI c.cq c.hx c.jr hs I hw (use:=none) λD C s5 m5 H5 hn inv q hC hL hS hce hpi=>⟨m5,hn,λh' sb=>⟨.ref D,H5,inv h' sb,rfl,q⟩⟩
end
section
variable {X:Cx}{Γ:G}{t:T}{nd:Nd}
theorem FU{op:BoolOp}{vs:aW}{p:Pos}{t:dW}(h:eI X (.BoolOp op vs p) t):lX X (.BoolOp op vs p) t:=λwhole pins s σ H Q I w=>h pins s σ H Q I w
theorem xk{f g:Expr->Bool}(I:∀x,f x=true->ah X x (tr Γ t).E)(J:∀x,g x=true->eI X x (tr Γ t).T)(h:rW nd f g=true):Good Γ X t nd:=by
 cases nd<;>first|(cases h;done)|exact J _ h|exact I _ (mC h).2
theorem U7(I:∀x,f x=true->fg X x (tr Γ t).S)(h:gF nd f=true):Good Γ X t nd:=by
 cases nd<;>first|(cases h;done)|exact I _ h
theorem Ht(I:∀x,f .a x=true->fv X x (tr Γ t).A)(J:∀x,f .l x=true->yu X x (tr Γ t).L)(h:yT nd f=true):Good Γ X t nd:=by
 cases nd<;>first|(cases h;done)|exact I _ h|exact J _ h
theorem qC(J:∀tg x,f tg x=true->gH X tg x (tr Γ t).I)(h:oB nd f=true):Good Γ X t nd:=by
 cases nd<;>first|(cases h;done)|exact J _ _ h
theorem Hq(I:∀x,f x=true->pT X x (tr Γ t).P)(h:yV nd f=true):Good Γ X t nd:=by
 cases nd<;>first|(cases h;done)|exact I _ h
theorem Hr(I:∀x,f x=true->jB X x (tr Γ t).S)(h:yU nd f=true):Good Γ X t nd:=by
 cases nd<;>first|(cases h;done)|exact I _ h
theorem MS{st:Stmt}:fg X st (λ_ _ _=>False):=λpins s W H Y I h=>by
 obtain⟨σ,M,D,hs,Z,J,hd⟩:=h;exact J.elim
theorem Wq{st:List Stmt}:jB X st (λ_ _ _=>False):=λpins s W H Y I h=>by
 obtain⟨σ,M,D,hs,Z,J,hd⟩:=h;exact J.elim
end
theorem Wk{x y:Str}{J W pt I:Pos}{kt k2:Nat}{u v:Expr}{env:Env}(Y:env.blockKind= .function)(hx:env.kindOf x=some .local)(hy:env.kindOf y=some .local)(hl:W.line=J.line)(ne:¬y=x)(ho:[u,v].all dv=true)(hf:[u,v].all (foldedForSure 8)=false)(Z:[u,v].all (constantsAlone 8)=false):
 swappedStores [.Tuple [.Name x J,.Name y W] kt pt] (.Tuple [u,v] k2 I) env=pure (some [x,y]):=by
 unfold swappedStores;have en:([x,y]:az).eraseDups.length=2:=by
  have:(y==x)=false:=by simpa using ne
  simp[List.eraseDups_cons,this]
 simp only[ff,List.all_nil,Bool.and_true,bj]at ho;simp[Y,hx,hy,hl,hf,Z,en,Expr.pos];rintro (z|z)
 . split at z
   . cases ho.1
   . cases z
 . split at z
   . cases ho.2
   . cases z
theorem XN{v:Str}(h:A3 ps v=true):∃an p,ps=⟨[],[⟨v,an,p⟩],none,[],[],none,[]⟩:=by
 unfold A3 at h;simp only[bj,List.isEmpty_iff,Option.isNone_iff_eq_none]at h;obtain⟨⟨⟨⟨⟨⟨h1,h2⟩,I⟩,J⟩,W⟩,Y⟩,Z⟩:=h;obtain⟨a,b,c,d,e,f,g⟩:=ps;cases h1;cases h2;cases I;cases J;cases W;cases Y;refine gv (C:=λb=>∃an p,(⟨[],b,none,[],[],none,[]⟩:Arguments)=⟨[],[⟨v,an,p⟩],none,[],[],none,[]⟩) Z λy hy=>?_
 obtain⟨y1,y2,y3⟩:=y;obtain rfl:=eq_of_beq hy;exact⟨y2,y3,rfl⟩
theorem XD{sc:Scope}{env:Env}(h:∀y∈sc.names,y.2≠.free):closureFor sc env=pure []:=by
 unfold closureFor;have:∀(l:List (Str×NameKind)) (cs:List (Str×Addr)),(∀y∈l,y.2≠.free)->(forIn l cs λx r=>do
  let(name,kind):=x
  if(kind== .free)=true then do
   let y<-cellOf env name
   pure (ForInStep.yield ((name,y)::r))
  else pure (ForInStep.yield r):Sem (List (Str×Addr)))=pure cs:=by
  intro l
  induction l with
  |nil=>intro cs _;rfl
  |cons y l ih=>
   intro cs I;rw[q9];have:(y.2==NameKind.free)=false:=by simpa using I y iC
   simp only[this,jC,if_false,pure_bind];exact ih cs λz hz=>I z (gA _ hz)
 have e:=this sc.names [] h;simp only[]at e ⊢
 first
  |(rw[e];rfl)
  |(simp only[bind_pure];exact e)
theorem bind1{v:Str}{an:Option Expr}{p:Pos}{sc:Scope}(name qual)(body)(pm cd ct u):bindArgs (PySem.W.kla_fn name qual ⟨[],[⟨v,an,p⟩],none,[],[],none,[]⟩ body sc [] pm cd ct) ⟨[u],[]⟩=pure [(v,u)]:=by
 have e:([(v,u)]:List (Str×Value)).lookup v=some u:=by simp
 unfold bindArgs;simp[seqItems?,PySem.W.kla_fn,e];rfl
theorem Dm{v:Str}{an:Option Expr}{p:Pos}{sc:Scope}(h:AM v sc=true):xH v ⟨[],[⟨v,an,p⟩],none,[],[],none,[]⟩ sc/\∀env:Env,closureFor sc env=pure []:=by
 unfold AM iG at h;simp only[bj,gB,beq_iff_eq,bne_iff_ne,Bool.not_eq_true']at h;obtain⟨⟨⟨⟨⟨h1,h2⟩,J⟩,W⟩,Y⟩,Z,h7⟩:=h;exact⟨⟨bind1,h1,λy I=>(h2 y I).1,J,W,Y,Z⟩,λ_=>XD λy I=>(h2 y I).2⟩
theorem Ez{sc:Scope}{t:T}(O:fV Γ k false N sc X)(W:Wd X.prog X.w X.K X.mg X.base Γ k)
 (I:∀{fc:Bool} {N:az} {sc:Scope} {X:Cx},fV Γ k fc N sc X->Wd X.prog X.w X.K X.mg X.base Γ k->∀{nd},mt Γ.S fc N sc t nd=true->Good Γ X t nd)
 (h:(match ifs with| []=>Az t| [c]=>mt Γ.S false N sc t (.t c)|_=>false)=true):pH X ifs (tr Γ t).T:=by
 split at h
 . revert h
   exactλh=>di h λi=>T.b.elim t i λb h=>by cases b<;>first|exact Mx|cases h
 . exact Mw (I O W h)
 . cases h
set_option hygiene false in
local macro_rules
 | `(tactic|walk_at "g0")=>`(tactic|(intro fc N sc X O W nd h))
 | `(tactic|walk_at "gE")=>`(tactic|(walk_at "g0";refine tQ rfl (fun x hx=>?_) h))
 | `(tactic|walk_at "gS")=>`(tactic|(walk_at "g0";refine U7 (fun x hx=>?_) h))
 | `(tactic|walk_at "ga")=>`(tactic|simp only[bj,beq_iff_eq]at hx)
theorem sound:∀(t:T) {fc:Bool} {N:az} {sc:Scope} {X:Cx},fV Γ k fc N sc X->Wd X.prog X.w X.K X.mg X.base Γ k->∀{nd},mt Γ.S fc N sc t nd=true->Good Γ X t nd:=by
 intro t
 induction t with
 |v i=>
  walk_at "gE";refine gw hx λ_ _ hx=>?_
  exact O.var (by simpa using hx)
 |i n=>
  walk_at "gE";refine xD hx λm _ _ hx=>?_
  obtain rfl:=eq_of_beq hx;exact ri
 |s n=>
  walk_at "gE";refine xD hx λm _ _ hx=>?_
  obtain rfl:=eq_of_beq hx;exact rs
 |b n=>
  walk_at "gE";refine xD hx λm _ _ hx=>?_
  obtain rfl:=eq_of_beq hx;exact rb
 |n=>
  walk_at "gE";refine xD hx λ_ _ _ hx=>?_
  obtain rfl:=eq_of_beq hx;exact rn
 |g x0=>
  walk_at "gE";refine gw hx λ_ _ hx=>?_
  walk_at "ga";obtain⟨⟨rfl,h1⟩,h2⟩:=hx;obtain⟨h2,I⟩:=gu h2;obtain⟨i,hi⟩:=uL.mp h1;rw[hi];exact X9 (W.gi _ _ hi) (O.gl _ h2) I
 |ty x0=>
  walk_at "gE";refine gw hx λ_ _ hx=>?_
  walk_at "ga";obtain⟨⟨⟨rfl,h1⟩,h2⟩,I⟩:=hx;exact WH h1 (W.bl _ (mem_of h2)) (O.gl _ (gu I).1)
 |op o a b iha ihb=>
  walk_at "gE";refine XC hx λ_ _ _ _ hx=>?_
  walk_at "ga";obtain⟨⟨rfl,h1⟩,h2⟩:=hx;exact Ye (Vz o) (iha O W h1) (ihb O W h2)
 |cm o a b iha ihb=>
  walk_at "g0";refine tf rfl (λx hx=>?_) h
  refine t8 hx λ_ _ _ _ hx=>?_
  walk_at "ga";obtain⟨⟨rfl,h1⟩,h2⟩:=hx;exact⟨NB (qq O.room.units o) (iha O W h1) (ihb O W h2) (lu (eC h2)),Xh (qq O.room.units o) (iha O W h1) (ihb O W h2) (lu (eC h2))⟩
 |ch o p a b c iha ihb ihc=>
  walk_at "g0";refine tf rfl (λx hx=>?_) h
  refine JH hx λ_ z1 z2 _ hx=>?_
  refine ug hx λ_ _ hx=>?_
  refine ug hx λ_ _ hx=>?_
  walk_at "ga";obtain⟨⟨⟨⟨rfl,rfl⟩,h1⟩,h2⟩,I⟩:=hx;exact⟨UZ (qq O.room.units _) (qq O.room.units _) (iha O W h1) (ihb O W h2) (ihc O W I) (ER (eC I)),SR (qq O.room.units _) (qq O.room.units _) (iha O W h1) (ihb O W h2) (ihc O W I) (ER (eC I))⟩
 |an a b iha ihb=>
  walk_at "g0";refine xk (λx hx=>?_) (λx hx=>?_) h
  . refine xx hx λz1 z2 p hx=>?_
    refine pf hx λhx=>?_
    refine iq hx λx z3 hx=>?_
    refine iq hx λy r hx=>?_
    simp only[bj]at hx;have h1:=iha O W hx.1;have h2:=ihb O W hx.2;cases r with
    |nil=>exact IQ h1 (DI (h2:ah X y _))
    |cons z r=>exact IQ h1 h2
  . refine xx hx λz1 z2 p hx=>?_
    refine pf hx λhx=>?_
    refine iq hx λx z3 hx=>?_
    refine iq hx λy r hx=>?_
    simp only[bj]at hx;have h1:=iha O W hx.1;have h2:=ihb O W hx.2;cases r with
    |nil=>exact yd (rand h1 (Xo (h2:eI X y _)))
    |cons z r=>exact yd (rand h1 (FU h2))
 |or a b iha ihb=>
  walk_at "g0";refine xk (λx hx=>?_) (λx hx=>?_) h
  . refine xx hx λz1 z2 p hx=>?_
    refine pf hx λhx=>?_
    refine iq hx λx z3 hx=>?_
    refine iq hx λy r hx=>?_
    simp only[bj]at hx;have h1:=iha O W hx.1;have h2:=ihb O W hx.2;cases r with
    |nil=>exact DH h1 (DI (h2:ah X y _))
    |cons z r=>exact DH h1 h2
  . refine xx hx λz1 z2 p hx=>?_
    refine pf hx λhx=>?_
    refine iq hx λx z3 hx=>?_
    refine iq hx λy r hx=>?_
    simp only[bj]at hx;have h1:=iha O W hx.1;have h2:=ihb O W hx.2;cases r with
    |nil=>exact yd (Ld h1 (Nx (h2:eI X y _)))
    |cons z r=>exact yd (Ld h1 (FU h2))
 |no a iha=>
  walk_at "g0";refine xk (λx hx=>?_) (λx hx=>?_) h
  . refine JD hx λz1 _ _ hx=>?_
    refine pf hx λhx=>?_
    exact Xi (iha O W hx)
  . refine JD hx λz1 _ _ hx=>?_
    refine pf hx λhx=>?_
    exact V7 (iha O W hx)
 |ie t a b iht iha ihb=>
  walk_at "gE";refine XB hx λ_ _ _ _ hx=>?_
  walk_at "ga";obtain⟨⟨h1,h2⟩,I⟩:=hx;exact Yb (iht O W h1) (iha O W h2) (ihb O W I)
 |tu a iha=>
  walk_at "gE";refine ui hx λ_ _ _ hx=>?_
  exact Nu (iha O W hx)
 |ll a iha=>
  walk_at "gE";refine JE hx λ_ _ hx=>?_
  exact Nz (iha O W hx)
 |lm a iha=>
  walk_at "gE";refine JE hx λ_ _ hx=>?_
  exact Ny (iha O W hx)
 |e0=>
  walk_at "g0";refine Ht (λx hx=>?_) (λx hx=>?_) h
  . refine gM hx λ_=>?_
    exact AU
  . refine gM hx λ_=>?_
    rfl
 |ec a r iha ihr=>
  walk_at "g0";refine Ht (λx hx=>?_) (λx hx=>?_) h
  . refine iq hx λ_ _ hx=>?_
    have hx:=mC hx;exact xF (iha O W hx.1) (ihr O W hx.2) (ik (eC hx.1))
  . refine iq hx λ_ _ hx=>?_
    have hx:=mC hx;exact⟨_,_,rfl,iha O W hx.1,ihr O W hx.2⟩
 |ix a b iha ihb=>
  walk_at "gE";refine o8 hx λ_ _ _ hx=>?_
  walk_at "ga";obtain⟨h1,h2⟩:=hx;exact Yc (iha O W h1) (ihb O W h2) (zF (eC h2))
 |sl a l h0 iha ihl ihh=>
  walk_at "gE";refine o8 hx λ_ z1 _ hx=>?_
  refine XA hx λ_ _ z2 _ hx=>?_
  refine AF hx λhx=>?_
  walk_at "ga";obtain⟨⟨h1,h2⟩,I⟩:=hx;exact Yg (iha O W h1) (ihl O W h2) (ihh O W I)
 |p0=>
  walk_at "g0";refine Hq (λx hx=>?_) h
  refine AF hx λhx=>?_
  exact W2
 |p1 a iha=>
  walk_at "g0";refine Hq (λx hx=>?_) h
  refine Jl hx λ_ hx=>?_
  exact WY (iha O W hx)
 |fl c f a iha=>
  walk_at "gE";refine uj hx λ_ _ _ hx=>?_
  walk_at "ga";obtain⟨⟨⟨rfl,h1⟩,h2⟩,I⟩:=hx;exact X5 (W.fs _ _ (mem_of h1)).1 (W.fs _ _ (mem_of h1)).2 (iha O W I) (by simpa using h2)
 |ca f a iha=>
  walk_at "gE";refine lB hx λx p es p' hx=>?_
  simp only[bj]at hx;obtain⟨⟨h1,h2⟩,I⟩:=hx;cases e:Γ.S.fd[f]? with
  |none=>rw[e]at h1;cases h1
  |some d=>
  rw[e]at h1;simp only[bj,beq_iff_eq]at h1;obtain⟨h1,rfl⟩:=h1;obtain⟨h2,J⟩:=gu h2;cases es with
  |nil=>
   have:=Au I;subst this;exact SY (W.fn f d e h1) O.room (O.gl _ h2) J
  |cons z es=>
   have ho:=jt I;rw[ff,bj]at ho;exact Ur (W.fn f d e h1) O.room (iha O W I) (O.gl _ h2) J (ik ho.1) (qh ho.2)
 |me f o a iho iha=>
  walk_at "g0";cases ef:Γ.S.fd[f]? with
  |none=>
   refine tQ (r:=iL) (by show ex _=_;rw[ef]) (λx hx=>GR) h
  |some d=>
   refine tQ (r:=pL (Γ.C d.cls) d.name (Γ.fn f) (tr Γ o).E (tr Γ a).A) (by show ex _=_;rw[ef]) (λx hx=>?_) h
   refine qp hx λx m ap es p hx=>?_
   rw[ef]at hx;simp only[bj,beq_iff_eq,decide_eq_true_eq]at hx;obtain⟨⟨⟨⟨⟨⟨h1,rfl⟩,h2⟩,I⟩,J⟩,Y⟩,Z⟩:=hx;have W1:=W.me f d ef h1;cases es with
   |nil=>
    have:=Au Z;subst this;exact VC W1.2 W1.1 O.room (iho O W Y) (by simpa using h2) I
   |cons z es=>exact WR W1.2 W1.1 O.room (iho O W Y) (iha O W Z) (by simpa using h2) (jt Z) J I
 |mk f a iha=>
  walk_at "g0";cases ef:Γ.S.fd[f]? with
  |none=>
   refine tQ (r:=iL) (by show ex _=_;rw[ef]) (λx hx=>GR) h
  |some d=>
   refine tQ (r:=qD (Γ.C d.cls) (Γ.kX f) (tr Γ a).A) (by show ex _=_;rw[ef]) (λx hx=>?_) h
   refine lB hx λx p es p' hx=>?_
   rw[ef]at hx;walk_at "ga";obtain⟨⟨⟨h1,h1'⟩,h2⟩,I⟩:=hx;obtain⟨h2,J⟩:=gu h2;obtain⟨j,hj,F⟩:=W.kX f d ef h1;have C1:=W.cl _ _ h1';cases es with
   |nil=>
    have:=Au I;subst this;exact SX F (O.room.mono hj) C1.2 (O.gl _ h2) J
   |cons z es=>
    have ho:=jt I;rw[ff,bj]at ho;exact UT F (O.room.mono hj) C1.2 (iha O W I) (O.gl _ h2) J (ik ho.1) (qh ho.2)
 |bf f a iha=>
  walk_at "gE";refine lB hx λx p es p' hx=>?_
  walk_at "ga";obtain⟨⟨⟨⟨⟨rfl,h1⟩,h2⟩,I⟩,J⟩,Y⟩:=hx;obtain⟨I,Z⟩:=gu I;cases es with
  |nil=>cases J
  |cons z es=>exact XM O.calm h1 (W.bl _ (mem_of h2)) (O.gl _ I) Z (iha O W Y) (jt Y)
 |bt f a iha=>
  walk_at "gE";refine lB hx λx p es p' hx=>?_
  walk_at "ga";obtain⟨⟨⟨⟨⟨rfl,h1⟩,h2⟩,I⟩,J⟩,Y⟩:=hx;obtain⟨I,Z⟩:=gu I;cases es with
  |nil=>cases J
  |cons z es=>exact VW O.calm h1 (W.bl _ (mem_of h2)) (O.gl _ I) Z (iha O W Y) (jt Y)
 |ap o a iho iha=>
  walk_at "gE";refine qp hx λ_ _ _ z1 _ hx=>?_
  refine gv hx λ_ hx=>?_
  walk_at "ga";obtain⟨⟨⟨⟨rfl,h1⟩,h2⟩,I⟩,J⟩:=hx;exact S3 (iho O W I) (iha O W J) (oS (by simpa using h1)) (by rw[zv (jt J)];rfl) h2 (ik (by have:=jt J;rw[ff,bj]at this;exact this.1)) rfl
 |dg d k0 ihd ihk=>
  walk_at "gE";refine o8 hx λ_ _ _ hx=>?_
  walk_at "ga";obtain⟨h1,h2⟩:=hx;exact WG (mE O.room) (ihd O W h1) (ihk O W h2) (zF (eC h2))
 |dn neg k0 d ihk ihd=>
  walk_at "g0";refine tf rfl (λx hx=>?_) h
  refine t8 hx λ_ _ _ _ hx=>?_
  walk_at "ga";obtain⟨⟨h0,h1⟩,h2⟩:=hx;have g1:=ihk O W h1;have g2:=ihd O W h2;cases neg with
  |true=>rw[if_pos rfl]at h0;subst h0;exact⟨Te (mE O.room) g1 g2 (lu (eC h2)),QX (mE O.room) g1 g2 (lu (eC h2))⟩
  |false=>rw[if_neg (by decide)]at h0;subst h0;exact⟨Mv (mE O.room) g1 g2 (lu (eC h2)),WE (mE O.room) g1 g2 (lu (eC h2))⟩
 |d1 d k0 ihd ihk=>
  walk_at "gE";refine qp hx λ_ _ _ z1 _ hx=>?_
  refine gv hx λ_ hx=>?_
  walk_at "ga";obtain⟨⟨⟨⟨rfl,h1⟩,h2⟩,I⟩,J⟩:=hx;exact T7 (mE O.room) (ihd O W I) (ihk O W J) (WS (by simpa using h1) h2 (eC J))
 |dk=>
  walk_at "gE";refine JG hx λz1 z2 _ hx=>?_
  refine gM hx λhx=>?_
  refine gM hx λhx=>?_
  exact Xn
 |dt=>
  walk_at "gE";refine JG hx λz1 z2 _ hx=>?_
  refine gM hx λhx=>?_
  refine gM hx λhx=>?_
  exact UX
 |ic neg a x0 iha=>
  walk_at "g0";cases ef:Γ.S.gt.lookup x0 with
  |none=>
   refine tf (r:=iL) (by show ex _=_;rw[ef]) (λx hx=>?_) h
   refine t8 hx λ_ _ z1 _ hx=>?_
   refine gw hx λ_ _ hx=>?_
   rw[ef]at hx;simp at hx
  |some ss=>
   refine tf (r:=qS neg ss (tr Γ a).E) (by show ex _=_;rw[ef]) (λx hx=>?_) h
   refine t8 hx λ_ _ z1 _ hx=>?_
   refine gw hx λ_ _ hx=>?_
   walk_at "ga";obtain⟨⟨⟨⟨h0,rfl⟩,_⟩,h2⟩,I⟩:=hx;obtain⟨h2,J⟩:=gu h2;have g:=iha O W I;cases neg with
   |true=>rw[if_pos rfl]at h0;subst h0;exact Hn (TM O.room.units) (W.gt _ _ ef) g (O.gl _ h2) J
   |false=>rw[if_neg (by decide)]at h0;subst h0;exact Hn (NS O.room.units) (W.gt _ _ ef) g (O.gl _ h2) J
 |tx x0 a iha=>
  walk_at "gE";refine o8 hx λz1 _ _ hx=>?_
  refine gw hx λ_ _ hx=>?_
  walk_at "ga";obtain⟨⟨⟨rfl,h1⟩,h2⟩,I⟩:=hx;exact Nw (W.tb _ (mem_of h1)) (iha O W I) (zF (eC I)) (O.gl _ (gu h2).1) (gu h2).2
 |tn x0 a iha=>
  walk_at "g0";refine xk (λx hx=>by cases hx) (λx hx=>?_) h
  refine t8 hx λ_ _ z1 _ hx=>?_
  refine gw hx λ_ _ hx=>?_
  walk_at "ga";obtain⟨⟨⟨⟨rfl,rfl⟩,h1⟩,h2⟩,I⟩:=hx;obtain⟨h2,Y⟩:=gu h2;exact Qf (W.tb _ (mem_of h1)) (iha O W I) (O.gl _ h2) Y
 |cv i a iha=>
  walk_at "gE";refine lB hx λx p es p' hx=>?_
  walk_at "ga";obtain⟨⟨h1,h2⟩,I⟩:=hx;cases es with
  |nil=>cases h2
  |cons z es=>
   have ho:=jt I;rw[ff,bj]at ho;exact Uq Γ.hE (λq hq=>by obtain⟨fd,ps,a1,a2,a3⟩:=W.hE q hq;exact⟨fd,ps,k,O.room,a1,a2,a3⟩) (O.var h1) (iha O W I) (ik ho.1) (qh ho.2)
 |lr a b iha ihb=>
  walk_at "gE";refine lB hx λ_ _ z1 _ hx=>?_
  refine gv hx λz2 hx=>?_
  refine lB hx λ_ _ z3 _ hx=>?_
  refine ug hx λ_ _ hx=>?_
  walk_at "ga";obtain⟨⟨⟨⟨⟨⟨⟨rfl,rfl⟩,h1⟩,h2⟩,I⟩,J⟩,Y⟩,Z⟩:=hx;have s1:=ik (es:=[]) (env:=X.env) (eC Z);have s2:=λr=>ik (es:=r) (env:=X.env) (eC Y)
  exact UU (W.bl _ (mem_of h1)) (W.bl _ (mem_of h2)) O.calm (iha O W Y) (ihb O W Z) (O.gl _ (gu I).1) (O.gl _ (gu J).1) (by rw[s2,s1];rfl) s1 (s2 _) s1 rfl
 |cp md tup nm cap it t e ihi iht ihe=>
  walk_at "gE";refine JF hx λel z1 scope p hx=>?_
  refine gv hx λz2 hx=>?_
  obtain⟨tg,ite,ifs,as⟩:=z2;walk_at "ga";obtain⟨⟨⟨⟨⟨⟨⟨rfl,rfl⟩,h1⟩,h2⟩,I⟩,J⟩,Y⟩,Z⟩:=hx;exact UY O (Fo h2) (Iw h1) (ihi O W J) (λcl C s H fp=>Ez (xc O h2) W iht Z) (λcl C s H fp=>ihe (xc O h2) W Y) (wX I)
 |iv a iha=>
  walk_at "g0";refine qC (λtg x hx=>?_) h
  refine qp hx λ_ _ _ z1 _ hx=>?_
  refine gM hx λhx=>?_
  walk_at "ga";obtain⟨⟨⟨rfl,h1⟩,h2⟩,I⟩:=hx;exact XU (iha O W I) (oS (by simpa using h1)) h2
 |im a iha=>
  walk_at "g0";refine qC (λtg x hx=>?_) h
  refine qp hx λx m ap z p hx=>?_
  refine gM hx λhx=>?_
  walk_at "ga";obtain⟨⟨⟨⟨h0,rfl⟩,h1⟩,h2⟩,I⟩:=hx;exact Expr.Tuple.elim tg h0 λ_ _ _=>U4 (iha O W I) (oS (by simpa using h1)) h2
 |lv md a iha=>
  walk_at "gE";refine lB hx λ_ _ z1 _ hx=>?_
  refine gv hx λz2 hx=>?_
  refine qp hx λ_ _ _ z3 _ hx=>?_
  refine gM hx λhx=>?_
  walk_at "ga";obtain⟨⟨⟨⟨⟨⟨rfl,rfl⟩,h1⟩,h2⟩,I⟩,J⟩,Y⟩:=hx;exact Yd (W.bl _ (mem_of h1)) O.calm (iha O W Y) (O.gl _ (gu h2).1) (oS (by simpa using I)) J
 |pr i j a iha=>
  walk_at "gS";refine oW hx λz1 z2 pos hx=>?_
  refine ui hx λz3 kt pt hx=>?_
  refine ug hx λz4 z5 hx=>?_
  refine gw hx λx px hx=>?_
  refine gw hx λy py hx=>?_
  refine ui hx λz6 k2 pt2 hx=>?_
  refine ug hx λu v hx=>?_
  simp only[bj,beq_iff_eq,bne_iff_ne,ne_eq]at hx;obtain⟨⟨⟨⟨⟨⟨⟨⟨⟨⟨rfl,h1⟩,h2⟩,I⟩,J⟩,Y⟩,Z⟩,h7⟩,h8⟩,h9⟩,h10⟩:=hx;obtain⟨hsc,nd,hl,hf,_,hb,hk⟩:=O.fn rfl;exact MQ O.calm (by rw[O.hN];exact nd) (by rw[O.hN];exact h1) (by rw[O.hN];exact h2) I (by rw[hsc];exact J) (by rw[hsc];exact Y) (iha O W h10) (Wk hb (by rw[hk];exact J) (by rw[hk];exact Y) Z (by simpa using h7) (jt h10) ((Bool.not_eq_true' _).mp h8) ((Bool.not_eq_true' _).mp h9))
 |af c f o a iho iha=>
  walk_at "gS";refine WK hx λz1 z2 _ _ hx=>?_
  refine uj hx λ_ _ _ hx=>?_
  refine pf hx λhx=>?_
  walk_at "ga";obtain⟨⟨⟨rfl,h1⟩,h2⟩,I⟩:=hx;exact Yh (W.fs _ _ (mem_of h1)).1 (W.fs _ _ (mem_of h1)).2 (iho O W h2) (iha O W I)
 |dd d k0 ihd ihk=>
  walk_at "gS";refine Wc hx λz1 _ hx=>?_
  refine gv hx λz2 hx=>?_
  refine o8 hx λ_ _ _ hx=>?_
  simp only[bj]at hx;exact T6 (mE O.room) (ihd O W hx.1) (ihk O W hx.2)
 |is a iha=>
  walk_at "g0";refine qC (λtg x hx=>?_) h
  simp only[bj]at hx;exact Ni (iha O W hx.2)
 |st a iha=>
  walk_at "g0";refine qC (λtg x hx=>?_) h
  simp only[bj]at hx;exact NW (iha O W hx.2)
 |r1 a iha=>
  walk_at "g0";refine qC (λtg x hx=>?_) h
  refine lB hx λ_ _ z1 _ hx=>?_
  refine gv hx λ_ hx=>?_
  walk_at "ga";obtain⟨⟨⟨rfl,h1⟩,h2⟩,I⟩:=hx;have s1:=ik (es:=[]) (env:=X.env) (eC I);exact U0 (W.bl _ (mem_of h1)) (iha O W I) (O.gl _ (gu h2).1) s1 s1
 |set i a iha=>
  walk_at "gS";refine oW hx λz1 e p' hx=>?_
  refine gw hx λx p hx=>?_
  simp only[bj,beq_iff_eq,Bool.or_eq_true]at hx;obtain⟨⟨⟨rfl,h1⟩,h2⟩,I⟩:=hx;rcases h2 with h2|h2
  . exact O.pJ h1 (iha O W I) (ql (eC I) (by simpa using h2))
  . by_cases hc:kY e=true
    . cases e<;>first|(cases hc;done)|skip
      exact O.pJ h1 (iha O W I) (Wj O h2)
    . exact O.pJ h1 (iha O W I) (ql (eC I) (by simpa using hc))
 |sc i md tup nm cap it t e ihi iht ihe=>
  walk_at "gS";refine oW hx λz1 z2 p3 hx=>?_
  refine gw hx λx p hx=>?_
  refine JF hx λel z3 scope p2 hx=>?_
  refine gv hx λz4 hx=>?_
  obtain⟨tg,ite,ifs,as⟩:=z4;walk_at "ga";obtain⟨⟨⟨⟨⟨⟨⟨⟨⟨⟨⟨rfl,h1⟩,h2⟩,I⟩,J⟩,rfl⟩,Y⟩,Z⟩,h7⟩,h8⟩,h9⟩,h10⟩:=hx;exact UI O i (Fo Z) (Iw Y) (ihi O W h8) (λcl C s H fp=>Ez (xc O Z) W iht h10) (λcl C s H fp=>ihe (xc O Z) W h9) (wX h7) h1 (Wi O h2 I (by simpa using J))
 |un is a iha=>
  walk_at "gS";refine oW hx λz1 e p' hx=>?_
  refine ui hx λes j p hx=>?_
  simp only[bj]at hx;obtain⟨⟨⟨⟨rfl,h1⟩,h2⟩,I⟩,J⟩:=hx;have hw:swappedStores [.Tuple es j p] e X.env=pure none:=by cases e<;>first|rfl|cases I
  exact DE (iha O W J) (gT O h1) (FL (eC J) (by simpa using h2)) hw rfl
 |sf c f o a iho iha=>
  walk_at "gS";refine oW hx λz1 _ _ hx=>?_
  refine uj hx λ_ _ _ hx=>?_
  walk_at "ga";obtain⟨⟨⟨⟨rfl,h1⟩,h2⟩,I⟩,J⟩:=hx;exact Wr (W.fs _ _ (mem_of h1)).1 (W.fs _ _ (mem_of h1)).2 (iho O W I) (iha O W J) (ql (eC J) (by simpa using h2))
 |dp d k0 a ihd ihk iha=>
  walk_at "gS";refine oW hx λz1 _ _ hx=>?_
  refine o8 hx λ_ _ _ hx=>?_
  walk_at "ga";obtain⟨⟨⟨h1,h2⟩,I⟩,J⟩:=hx;exact T5 (mE O.room) (ihd O W h2) (ihk O W I) (iha O W J) (ql (eC J) (by simpa using h1))
 |sp l i a ihl ihi iha=>
  walk_at "gS";refine oW hx λz1 _ _ hx=>?_
  refine o8 hx λ_ _ _ hx=>?_
  walk_at "ga";obtain⟨⟨⟨h1,h2⟩,I⟩,J⟩:=hx;exact DE (iha O W J) (Nm (ihl O W h2) (ihi O W I) Xa (Ue (eC I))) (FL (eC J) (by simpa using h1)) rfl rfl
 |re a iha=>
  walk_at "gS";refine IA hx λz1 _ hx=>?_
  refine Jl hx λ_ hx=>?_
  exact MP (iha O W hx)
 |r0=>
  walk_at "gS";refine IA hx λz1 _ hx=>?_
  refine AF hx λhx=>?_
  exact Wn
 |aX t a b iht iha ihb=>
  walk_at "gS";refine V8 hx λ_ _ _ _ hx=>?_
  walk_at "ga";obtain⟨⟨h1,h2⟩,I⟩:=hx;exact Yi (iht O W h1) (iha O W h2) (ihb O W I)
 |fo tup is it b ihi ihb=>
  walk_at "gS";refine V9 hx λtg x y z1 p hx=>?_
  refine gM hx λhx=>?_
  simp only[bj]at hx;obtain⟨⟨⟨⟨rfl,h1⟩,h2⟩,I⟩,J⟩:=hx;have hp:=(O.fn rfl).2.2.2.2.1;have g3:=ihi O W I;revert g3;cases tup with
  |true=>exact ui h2 λes _ _ h2 g3=>DC hp O.calm g3 (gT O h2) (ihb O W J) (wX h1)
  |false=>
   refine gw h2 λz _ h2=>?_
   exact gv h2 λi h2 g3=>DC hp O.calm g3 (O.gN (by simpa using h2)) (ihb O W J) (wX h1)
 |ex a iha=>
  walk_at "gS";refine Wa hx λ_ _ hx=>?_
  walk_at "ga";obtain⟨h1,h2⟩:=hx;exact Ws (iha O W h2) (ql (eC h2) (by simpa using h1))
 |ra=>
  intro fc N sc X O W nd h;cases nd<;>first|exact MS|exact Wq|exact absurd h iE
 |se a b iha ihb=>
  walk_at "g0";refine Hr (λx hx=>?_) h
  refine iq hx λ_ _ hx=>?_
  walk_at "ga";obtain⟨h1,h2⟩:=hx;exact Wt (t:=(tr Γ a).S) (u:=(tr Γ b).S) (iha O W h1) (ihb O W h2)
 |en=>
  walk_at "g0";refine Hr (λx hx=>?_) h
  refine gM hx λhx=>?_
  exact MR
 |ig x0=>
  walk_at "g0";refine qC (λtg x hx=>?_) h
  refine gw hx λ_ _ hx=>?_
  walk_at "ga";obtain⟨⟨rfl,h1⟩,h2⟩:=hx;obtain⟨h2,I⟩:=gu h2;obtain⟨ss,e⟩:=uL.mp h1;show gH X tg _ (match Γ.S.gt.lookup x0 with|some ss=>xM ss|none=>λ_ _ _=>False)
  rw[e];exact Nj (W.gt _ _ e) (O.gl _ h2) I
 |sk c f a iha=>
  walk_at "gE";refine Ax hx λg es ks _ hx=>?_
  refine gw hx λx _ hx=>?_
  refine gv hx λe hx=>?_
  refine gv hx λk hx=>?_
  obtain⟨k1,k2,k3⟩:=k;simp only[bj,decide_eq_true_eq,beq_iff_eq]at hx;obtain⟨⟨⟨⟨⟨⟨⟨⟨rfl,rfl⟩,hy⟩,hf⟩,hN⟩,h2⟩,I⟩,J⟩,Y⟩:=hx;refine Xz (C:=λz=>ah X (.Call (.Name _ _) [e] [⟨_,z,k3⟩] _) _) hy λps b ls lp hy=>?_
  refine uj hy λe' f' _ hy=>?_
  obtain⟨hy0,hz⟩:=mC hy;obtain rfl:=eq_of_beq hy0;refine gw hz λv _ hy=>?_
  simp only[bj,decide_eq_true_eq]at hy;obtain⟨⟨rfl,hy1⟩,hy2⟩:=hy;obtain⟨an,p,rfl⟩:=XN hy1;obtain⟨I,Z⟩:=gu I;obtain⟨lq,⟨cc,lc,lh⟩,lb,lg⟩:=O.lm hf hN;exact UP (iha O W Y) (W.bl _ (mem_of h2)) (O.gl _ I) (W.fs _ _ (mem_of J)).1 (W.fs _ _ (mem_of J)).2 (Dm hy2).1 O.room.depth lc lh lb lg rfl ((Dm (an:=an) (p:=p) hy2).2 _) lq (ik (eC Y))
structure iF where
 S:SI
 tb:Str->bW
 C:Nat->Addr
 cv:List (Addr×Nat)
 lP:Addr:=0
def iF.G(p:iF)(f I:Nat->bX):G:=⟨p.S,p.tb,p.C,f,I,p.cv.map λq=>(q.1,f q.2),p.lP⟩
def DG(Γ:G)(d:FD):bX:=λrs M Q=>rs.length=d.ps.length/\(tr Γ d.body).S { nx:=λ_ M'=>Q .ak M',rt:=Q } (iK d.N rs) M
def As(p:iF)(f I:Nat->bX)(i:Nat):bX:=match p.S.fd[i]? with
 |some d=>DG (p.G f I) d
 |none=>λ_ _ _=>False
def ph(p:iF):Nat->(Nat->bX)×(Nat->bX)
 |0=>(λ_ _ _ _=>False,λ_ _ _ _=>False)
 |n+1=>(As p (ph p n).1 (ph p n).2,(ph p n).1)
def aw(p:iF)(n:Nat):Nat->bX:=(ph p n).1
def iF.Gn(p:iF)(n:Nat):R.G:=p.G (aw p n) (ph p n).2
theorem FN{p:iF}{n i:Nat}(h:p.S.fd[i]? =some d):aw p (n+1) i=DG (p.Gn n) d:=by
 show As p _ _ i=_;unfold As;rw[h];rfl
structure jo(K:ag)(mg:bq)(S:SI)(C:Nat->Addr)(lP:Addr)(d:FD)(g:Addr)(fd:FuncData):Prop where
 ex:∃(qual:Str) (st:Stmt),(d.N=S.ln->qual++(".<locals>.":Str)++("<lambda>":Str)=S.lq/\∃cc,fd.code= .ref cc/\∀h:Heap,K.In h->PySem.W.CodeHd h cc lP)/\rh K d.name qual st g fd/\qk d.N d.ps (fW st)/\Iu d.N (fW st)/\mt S true d.N (fW st) d.body (.b (oQ st))=true
 bd:Binds K fd d.ps []
 k0:d.kind=0->mg d.name=some (.ref g)
 k1:d.kind=1->cI K (C d.cls)/\Meth K (C d.cls) d.name g
 k2:d.kind=2->Mk K (C d.cls) g
structure Hd(P:Program)(w:World)(K:ag)(mg:bq)(p:iF):Prop where
 bl:∀x∈p.S.bl,mg x=none
 gi:∀x i,p.S.gi.lookup x=some i->AX mg x i
 gt:∀x l,p.S.gt.lookup x=some l->pG K mg x l
 tb:∀x∈p.S.tb,KTab P w K mg x (p.tb x)
 tt:∀x l,p.S.tt.lookup x=some l->AL P w K mg x l
 cl:∀(i:Nat) c,p.S.cl[i]? =some c->cI K (p.C i)/\mg c=some (.ref (p.C i))
 fs:∀c f,(c,f)∈p.S.fs->cI K (p.C c)/\aR K (p.C c) f
 fns:∀(i:Nat) d,p.S.fd[i]? =some d->∃g fd,jo K mg p.S p.C p.lP d g fd
 lm:∀(i:Nat) d,p.S.fd[i]? =some d->d.N=p.S.ln->mainGlobals≠p.lP/\∀h:Heap,K.In h->h.BuiltinsAt mg p.lP
 cv:∀q∈p.cv,∃d,p.S.fd[q.2]? =some d/\d.kind=0/\mg d.name=some (.ref q.1)
section
variable {P:Program}{w:World}{K:ag}{mg:bq}{p:iF}{base:Heap}
theorem Fx{g:Addr}:dz P w K mg base fz k g fd ps (fS K λ_ _ _=>False) where
 len:=λvs H Q E h=>by obtain⟨rs,M,I,_,_,h,_⟩:=h;exact h.elim
 run:=λA outer s H args us vs Q E _ _ _ _ h=>by obtain⟨rs,M,I,_,_,h,_⟩:=h;exact h.elim
theorem Wz{n:Nat}(H:Hd P w K mg p)(L:∀(i:Nat) d g fd,p.S.fd[i]? =some d->jo K mg p.S p.C p.lP d g fd->dz P w K mg base fz (n+1) g fd d.ps (fS K (aw p n i))/\dz P w K mg base fz n g fd d.ps (fS K ((ph p n).2 i))):Wd P w K mg base (p.Gn n) (n+1) where
 bl:=H.bl
 gi:=H.gi
 gt:=H.gt
 tb:=H.tb
 tt:=H.tt
 cl:=H.cl
 fs:=H.fs
 fn:=λi d e hk=>by
  obtain⟨g,fd,F⟩:=H.fns i d e;obtain⟨q,st,_,I,_⟩:=F.ex;exact⟨g,fd,F.k0 hk,I.kp,F.bd,(L i d g fd e F).1⟩
 me:=λi d e hk=>by
  obtain⟨g,fd,F⟩:=H.fns i d e;exact⟨(F.k1 hk).1,⟨g,fd,(F.k1 hk).2,F.bd,(L i d g fd e F).1⟩⟩
 kX:=λi d e hk=>by
  obtain⟨g,fd,F⟩:=H.fns i d e;exact⟨n,aU _,⟨g,fd,F.k2 hk,F.bd,(L i d g fd e F).2⟩⟩
 hE:=λq W=>by
  obtain⟨q0,h0,rfl⟩:=bu.mp W;obtain⟨d,e,hk,J⟩:=H.cv q0 h0;obtain⟨g,fd,F⟩:=H.fns q0.2 d e;have:=(F.k0 hk).symm.trans J;cases this;obtain⟨q,st,_,I,_⟩:=F.ex;exact⟨fd,d.ps,I.kp,F.bd,(L q0.2 d _ fd e F).1⟩
theorem yP(H:Hd P w K mg p)(W:K.In base):∀(n:Nat) (i:Nat) d g fd,p.S.fd[i]? =some d->jo K mg p.S p.C p.lP d g fd->dz P w K mg base fz (n+1) g fd d.ps (fS K (aw p n i))/\dz P w K mg base fz n g fd d.ps (fS K ((ph p n).2 i))
 |0,i,d,g,fd,e,F=>⟨Fx,Fx⟩
 |n+1,i,d,g,fd,e,F=>by
  refine⟨?_,(yP H W n i d g fd e F).1⟩;rw[FN e];obtain⟨I,st,L1,Z,S1,J,m1⟩:=F.ex;refine Xm Z S1 (λrs M Q h=>h.1) (λcdv Y A outer s H0 E hr=>?_) λrs M Q h=>h.2
  have O:fV (p.Gn n) (n+1) true d.N (fW st) (mN fz P w K mg base d.N I (fW st) g cdv A outer s H0 E).p7:=by
   refine⟨rfl,λx hx=>⟨?_,?_⟩,λx h=>h,rfl,hr,λ_=>⟨rfl,J.nd,J.loc,λ_=>rfl,PassesOwn.never,?_,λx=>rfl⟩,λ_ hN=>?_⟩
   . exact(J.loc x hx).elim .inl λz=>.inr (.inl z)
   . have:=J.iG x hx
     unfold iG;rw[this.1,this.2];rfl
   . show(if(fW st).kind.isAnnotationScope then ScopeKind.function else(fW st).kind)=_
     rw[S1.kind];rfl
   . obtain⟨l1,cc,l2,l3⟩:=L1 hN
     obtain⟨l4,l5⟩:=H.lm i d e hN;exact⟨l1,⟨cc,Y.symm.trans l2,l3 _ W⟩,l5 _ W,l4⟩
  exact sound d.body O (Wz H (yP H W n)) m1
end
end R
namespace HD
open PySem PySem.W PyProof.Rows
def WI(p:Program)(i:Nat):Stmt:=p.main.body.getD i (.Pass ⟨0,0,0,0⟩)
def sub(s:Stmt)(i:Nat):Stmt:=match s with
 | .ClassDef (body:=b) ..=>b.getD i (.Pass ⟨0,0,0,0⟩)
 |s=>s
def Du(s:Stmt):Arguments:=match s with
 | .FunctionDef (args:=a) ..=>a
 |_=>default
def qK(s:Stmt):List Stmt:=match s with
 | .FunctionDef (body:=b) ..=>b
 |_=>[]
def Dt(s:Stmt):Scope:=match s with
 | .FunctionDef (scope:=c) ..=>c
 |_=>default
noncomputable abbrev e1 (P:Params) (x:String) (t:Tok) (v:Value):DictEntry:=⟨PyData.keyHash P x,.str x t,v⟩
noncomputable abbrev eJ (es:List DictEntry) (n:Nat):Obj:=⟨.type "dict",none,.dict es.toArray n,#[]⟩
noncomputable abbrev bK (vs:au):Obj:=⟨.none,none,.fields vs.toArray,#[]⟩
noncomputable abbrev Br (vs:au):Obj:=⟨.type "code",none,.fields vs.toArray,#[]⟩
noncomputable abbrev tup (xs:au):Obj:=⟨.type "tuple",none,.seq xs.toArray 0,#[]⟩
noncomputable abbrev gC (n q:String) (s:Stmt) (pm cd:Value):Obj:=⟨.type "function",none,.func { name:=n,qualname:=q,params:=Du s,body:=.stmts (qK s),scope:=Dt s,globals:=3,closure:=[],defaults:=.none,kwdefaults:=.none,doc:=.none,pyModule:=pm,annotations:=none,code:=cd,closureTuple:=.none,builtins:=0 },#[]⟩
noncomputable abbrev gR (n q:String) (s:Stmt):Obj:=⟨.none,none,.func { name:=n,qualname:=q,params:=Du s,body:=.stmts (qK s),scope:=Dt s,globals:=0,closure:=[],defaults:=.none,kwdefaults:=.none,doc:=.none,pyModule:=.none,annotations:=none,code:=.none,closureTuple:=.none,builtins:=0 },#[]⟩
structure DF where
 n:String
 q:String
 s:Stmt
 a:Nat
 t:Nat
 l:Nat
 c:Nat
 xs:List String
 pm:Value
noncomputable def df (n q:String)(s:Stmt)(a t l c:Nat)(xs:List String)(pm:Value):DF:=⟨n,q,s,a,t,l,c,xs,pm⟩
def Ie:Nat->List String->au
 |_,[]=>[]
 |t,x::xs=>.str x t::Ie (t+1) xs
def DF.co(d:DF):Obj:=Br [.str d.n d.t,.str d.q (d.t+1),.str "/claim/cut.py" (d.t+2),.int d.l 0,.int d.c 0,.int 0 0,.int 0 0,.int 3 0,.ref d.a,.bool true,.int 181 0,.ref (d.a+1),.none,.ref (d.a+2),.ref (d.a+3),.ref (d.a+4),.int (d.t+3+d.xs.length:Nat) 0,.int d.l 0,.str "/claim/cut.py" (d.t+4+d.xs.length)]
def DF.fn(d:DF):Obj:=gC d.n d.q d.s d.pm (.ref (d.a+5))
def DF.objs(d:DF):List Obj:=[tup [],bK [],tup (Ie (d.t+3) d.xs),tup [],gR d.n d.q d.s,d.co,d.fn]
def treeOf(l:List Obj):BT:=(l.foldl (λ(x:BT×Nat) o=>(x.1.ins x.2 o,x.2+1)) (.nil,0)).1
theorem Hu{tb:String->Option Builtin}{p:Program}{w:World}{an:cR}{b:Nat}:∀{n m:Nat} {s s':SharedT} {t t':Thread} {r:Option (SharedT×Thread)},
 segGoT tb p w n₀ an b n s t=some (s',t')->segGoT tb p w n₀ an b m s' t'=r->segGoT tb p w n₀ an b (n+m) s t=r
 |0,m,s,s',t,t',r,h,k=>by
  simp only[segGoT,Option.some.injEq,Prod.mk.injEq]at h;obtain⟨rfl,rfl⟩:=h;rw[Nat.zero_add];exact k
 |n+1,m,s,s',t,t',r,h,k=>by
  have e:n+1+m=(n+m)+1:=by omega
  rw[e];simp only[segGoT]at h ⊢;split at h
  . cases h
  . rename_i I
    split at h
    . cases h
    . rename_i hk
      split at h
      . rename_i s2 t2 hs
        exact Hu h k
      . cases h
theorem Gq{tb:String->Option Builtin}{p:Program}{w:World}{an:cR}{b:Nat}:∀{n m:Nat} {s s':SharedT} {t t':Thread} {r:Flow×SharedT×Code×Pos},
 segGoT tb p w n₀ an b n s t=some (s',t')->segRunT tb p w n₀ an b m s' t'=some r->segRunT tb p w n₀ an b (n+m) s t=some r
 |0,m,s,s',t,t',r,h,k=>by
  simp only[segGoT,Option.some.injEq,Prod.mk.injEq]at h;obtain⟨rfl,rfl⟩:=h;rw[Nat.zero_add];exact k
 |n+1,m,s,s',t,t',r,h,k=>by
  have e:n+1+m=(n+m)+1:=by omega
  rw[e];simp only[segGoT]at h;simp only[segRunT];split at h
  . cases h
  . rename_i I
    split at h
    . cases h
    . rename_i hk
      split at h
      . rename_i s2 t2 hs
        exact Gq h k
      . cases h
theorem FO{tb:String->Option Builtin}{p:Program}{w:World}{an:cR}{b:Nat}(k:Nat):∀{n:Nat} {s:SharedT} {t:Thread} {r:Flow×SharedT×Code×Pos},
 segRunT tb p w n₀ an b n s t=some r->segRunT tb p w n₀ an b (n+k) s t=some r
 |0,s,t,r,h=>by cases h
 |n+1,s,t,r,h=>by
  have e:n+1+k=(n+k)+1:=by omega
  rw[e];simp only[segRunT]at h ⊢;split at h
  . exact h
  . rename_i I
    split at h
    . cases h
    . rename_i hk
      split at h
      . exact FO k h
      . cases h
def Rn(p:Program)(w:World)(n₀:Nat)(an:cR)(c:Code)(F:List Frame)(m:Nat)(x:Sem α)(ps:Pos)(s:SharedT)(a:α)(ps':Pos)(s':SharedT):Prop:=
 ∀(K:α->Sem Fin) (H:Value->Sem Fin) (lv:au->au),∃n,n<=m/\segGoT treeTable p w n₀ an 1 n s ⟨x.wrap K H id lv,c,ps,F⟩=some (s',⟨K a,c,ps',F⟩)
section
variable {α β:Type}{p:Program}{w:World}{n₀:Nat}{an:cR}{c:Code}{F:List Frame}{m m1 m2:Nat}{ps ps1 ps2 ps':Pos}{s s1 s2 s':SharedT}
theorem Rn.more{x:Sem α}{a:α}(h:Rn p w n₀ an c F m1 x ps s a ps' s')(e:m1<=m):Rn p w n₀ an c F m x ps s a ps' s':=λK H lv=>by
 obtain⟨n,I,h⟩:=h K H lv;exact⟨n,dJ I e,h⟩
theorem gg{a:α}:Rn p w n₀ an c F m (pure a) ps s a ps s:=λK H lv=>⟨0,Nat.zero_le _,rfl⟩
theorem cE{x:Sem α}{a:α}{b:β}(h1:Rn p w n₀ an c F m1 x ps s a ps1 s1)(h2:Rn p w n₀ an c F m2 (f a) ps1 s1 b ps2 s2):Rn p w n₀ an c F (m1+m2) (x >>= f) ps s b ps2 s2:=λK H lv=>by
 obtain⟨J,l1,e1⟩:=h1 (λa=>(f a).wrap K H id lv) H lv
 obtain⟨W,l2,I⟩:=h2 K H lv;refine⟨J+W,Nat.add_le_add l1 l2,?_⟩;rw[Sem.bind_eq_wrap',Sem.wrap_wrap];exact Hu e1 I
theorem SV{x:Sem α}{a:α}{vs:au}(h:Rn p w n₀ an c F m x ps s a ps' s'):Rn p w n₀ an c F m (x.keep vs) ps s a ps' s':=λK H lv=>by
 obtain⟨n,l,e⟩:=h K H (λr=>lv (vs++r))
 refine⟨n,l,?_⟩;rw[Sem.keep_eq_wrap,Sem.wrap_wrap];exact e
theorem sF{x:Sem α}{a:α}{vs:au}(h:Rn p w n₀ an c F m x ps s a ps' s'):Rn p w n₀ an c F m (holding vs x) ps s a ps' s':=by
 unfold holding;split
 . exact h
 . exact SV h
theorem jg{x:Sem α}{a:α}{n:Nat}(h:∀(K:α->Sem Fin) (H:Value->Sem Fin) (lv:au->au),segGoT treeTable p w n₀ an 1 n s ⟨x.wrap K H id lv,c,ps,F⟩=some (s',⟨K a,c,ps',F⟩)):Rn p w n₀ an c F n x ps s a ps' s':=
 λK H lv=>⟨n,aU _,h K H lv⟩
theorem mapOf{f g:α->β}:∀{l:List α},l.map f=l.map g->∀i∈l,f i=g i:=λh=>List.map_inj_left.mp h
theorem UQ{I:Type}{l:List I}{g:I->Nat}{x:I->Sem α}{a:α}(h:∀(K:α->Sem Fin) (H:Value->Sem Fin) (lv:au->au),l.map (λi=>segGoT treeTable p w n₀ an 1 (g i) s ⟨(x i).wrap K H id lv,c,ps,F⟩)=l.map λ_=>some (s',⟨K a,c,ps',F⟩)):∀i∈l,Rn p w n₀ an c F (g i) (x i) ps s a ps' s':=
 λi hi=>jg λK H lv=>mapOf (h K H lv) i hi
theorem zK{b:β}:∀{xs:List α},(∀x∈xs,Rn p w n₀ an c F m (f x b) ps s (.yield b) ps s)->Rn p w n₀ an c F (m*xs.length) (forIn xs b f) ps s b ps s
 | [],_=>by rw[List.forIn_nil];exact gg
 |x::xs,h=>by
  rw[q9];have h1:=h x (iC ..);have h2:=zK (xs:=xs) λy I=>h y (gA _ I)
  have e:m*(x::xs).length=m+m*xs.length:=by rw[eG,Nat.mul_succ,Nat.add_comm]
  rw[e];exact cE h1 h2
end
section
variable {p:Program}{w:World}{n₀:Nat}{an:cR}{c:Code}{F:List Frame}{ps:Pos}{s:SharedT}{m L:Nat}
theorem Qx{a:Addr}{st:au}(I:st.length<=L)(J:Rn p w n₀ an c F m (eqIsQuiet 8 (.ref a)) ps s true ps s)
 (hs:∀v∈st,Rn p w n₀ an c F m (eqIsQuiet 8 v) ps s true ps s):Rn p w n₀ an c F (m+m*L) (tableMayTell (.ref a) st) ps s false ps s:=by
 unfold tableMayTell;split
 . exact gg
 . refine Rn.more (cE J (m2:=m*st.length) ?_) (Nat.add_le_add_left (Nat.mul_le_mul_left _ I) _)
   rw[if_neg (by decide)]
   refine Rn.more (cE (m2:=0) (zK (m:=m) λv W=>?_) ?_) (aU _)
   . refine Rn.more (cE (m2:=0) (hs v W) ?_) (aU _)
     rw[if_neg (by decide)]
     exact gg
   . exact gg
theorem find_none{d a:Addr}{es:Array DictEntry}(hL:es.size<=L)(rn_rule:∀t,Rn p w n₀ an c F 1 (rule t) ps s () ps s)
 (hd:Rn p w n₀ an c F 1 (dictEntries d none) ps s es ps s) (he:Rn p w n₀ an c F 1 (dictEpoch d none) ps s ep ps s)
 (hq:Rn p w n₀ an c F m (eqIsQuiet 8 (.ref a)) ps s true ps s)
 (hk:∀e∈es.toList,(∃b:Addr,e.key= .ref b/\b≠a)/\Rn p w n₀ an c F m (eqIsQuiet 8 e.key) ps s true ps s/\Rn p w n₀ an c F m (eqBool e.key (.ref a)) ps s false ps s):
 Rn p w n₀ an c F (1+((m+m*L)+(m+3)*L)) (dictFind d (.ref a) h) ps s none ps s:=by
 unfold dictFind;refine sF ?_;dsimp only[keyPart];refine cE hd ?_;have hp:∀i∈placesWithHash es.size (λi=>Option.map (λx=>x.hash) es[i]?) h,i<es.size:=λi hi=>by
  unfold placesWithHash at hi;exact rf.mp (cH.mp hi).1
 have hpl:(placesWithHash es.size (λi=>Option.map (λx=>x.hash) es[i]?) h).length<=L:=by
  unfold placesWithHash;refine dJ (gY _ _) ?_;rw[List.length_range];exact hL
 generalize placesWithHash es.size (λi=>Option.map (λx=>x.hash) es[i]?) h=places at hp hpl ⊢
 have hst:∀v∈List.filterMap (λi=>Option.map (λx=>x.key) es[i]?) places,∃e∈es.toList,v=e.key:=λv hv=>by
  obtain⟨i,hi,e⟩:=uM.mp hv;obtain⟨x,hx,rfl⟩:=mX.mp e;exact⟨x,Array.mem_toList_iff.mpr (Array.mem_of_getElem? hx),rfl⟩
 have hsl:(List.filterMap (λi=>Option.map (λx=>x.key) es[i]?) places).length<=L:=dJ (List.length_filterMap_le _ _) hpl
 generalize List.filterMap (λi=>Option.map (λx=>x.key) es[i]?) places=stored at hst hsl ⊢
 have hno:∀e∈es.toList,(e.key==Value.ref a)=false:=λe h1=>by
  obtain⟨⟨b,h2,h3⟩,_⟩:=hk e h1;rw[h2];exact beq_eq_false_iff_ne.mpr λq=>h3 (Value.ref.inj q)
 rw[if_neg (by simp[carriedByValue])]
 rw[if_neg (by
  rw[<-Array.any_toList,Bool.not_eq_true,List.any_eq_false];intro e h1;rw[hno e h1];simp)]
 rw[if_neg (by
  intro q;have q:=eq_of_beq q;obtain⟨e,h1,h2⟩:=hst (.ref a) (by rw[q];exact iC ..)
  have:=hno e h1;rw[<-h2]at this;simp at this)]
 refine cE (Qx hsl hq λv hv=>?_) ?_
 . obtain⟨e,h1,rfl⟩:=hst v hv
   exact(hk e h1).2.1
 rw[if_neg (by simp)]
 refine Rn.more (cE (m2:=0) (zK (m:=m+3) λi hi=>?_) ?_) (Nat.mul_le_mul_left _ hpl)
 . have hi':=hp i hi
   have hg:es[i]? =some es[i]:=Array.getElem?_eq_getElem hi';rw[hg];dsimp only;split
   . obtain⟨_,_,hb⟩:=hk es[i] (Array.mem_toList_iff.mpr (Array.getElem_mem hi'))
     refine Rn.more (cE he (cE (m2:=2) hb (cE (m2:=1) he ?_))) (by omega)
     rw[if_neg (by simp),if_neg (by decide)]
     refine Rn.more (cE (m2:=0) (rn_rule _) ?_) (aU _);rw[if_neg (by simp)]
     exact gg
   . exact gg
 . exact gg
end
section
variable {α β:Type}{p:Program}{w:World}{n₀:Nat}{an:cR}{c:Code}{F:List Frame}{ps ps1 ps2:Pos}{s s1 s2:SharedT}{m m1 m2 m3 mf mu:Nat}
theorem RN{i:Int}(I:∀t,Rn p w n₀ an c F 1 (rule t) ps s () ps s):Rn p w n₀ an c F 1 (pyHashByItsType.reduced i) ps s (reduceHash i) ps s:=by
 unfold pyHashByItsType.reduced reduceHash;split
 . exact gg
 . exact Rn.more (cE (m2:=0) (I _) gg) (aU _)
theorem RL{a:Addr}{i:Int}{t:Tok}(J:∀x,Rn p w n₀ an c F 1 (rule x) ps s1 () ps s1)(h1:Rn p w n₀ an c F m1 (cRoomFor "hash" [.ref a]) ps s () ps s)
 (h2:Rn p w n₀ an c F m2 (specialOf (.ref a) "__hash__") ps s (some (.builtin "tuple.__hash__")) ps s)
 (I:∀E,Rn p w n₀ an c F m3 (callSpecialIfBoundUnlessNone? (.ref a) "__hash__" E) ps s (some (.int i t)) ps s1):Rn p w n₀ an c F (m1+(m2+(m2+(m3+1)))) (pyHash (.ref a)) ps s (reduceHash i) ps s1:=by
 unfold pyHash;dsimp only;unfold pyHashByItsType;refine cE h1 (cE h2 ?_);rw[if_neg (by decide)]
 refine cE h2 ?_;rw[if_neg (by decide)]
 refine cE (I _) ?_;exact RN J
theorem To{d a:Addr}{v:Value}(W:∀x,Rn p w n₀ an c F 1 (rule x) ps s1 () ps s1)(J:Rn p w n₀ an c F m1 (pyHash (.ref a)) ps s h ps s1)(I:Rn p w n₀ an c F mf (dictFind d (.ref a) h) ps s1 none ps s1)
 (Y:Rn p w n₀ an c F mu (updateDictKeys d (λx=>x.push ⟨h,.ref a,v⟩) none) ps s1 () ps s2):Rn p w n₀ an c F (m1+(mf+(1+mu))) (dictSet d (.ref a) v) ps s () ps s2:=by
 unfold dictSet;refine sF (cE J ?_);unfold dictSetHashed;refine sF (cE I ?_);exact cE (W _) Y
theorem SS{x:α}{b:β}(h1:Rn p w n₀ an c F m1 (f x b) ps s (.yield b) ps1 s1)(h2:Rn p w n₀ an c F m2 (forIn xs b f) ps1 s1 b ps2 s2):Rn p w n₀ an c F (m1+m2) (forIn (x::xs) b f) ps s b ps2 s2:=by
 rw[q9];exact cE h1 h2
theorem SU{b:β}:Rn p w n₀ an c F 0 (forIn [] b f) ps s b ps s:=by
 rw[List.forIn_nil];exact gg
theorem Xj{x y:Sem α}{a:α}(e:x=y)(h:Rn p w n₀ an c F m y ps s a ps1 s1):Rn p w n₀ an c F m x ps s a ps1 s1:=e ▸ h
end
section
theorem TC{q:Program}{loose I:az}{Xt:Shared->Bool}{h:Heap}{d:Drawn}{k:Nat}{os:OsState}
 (a:PyProof.Rows.seen (List.map (λx=>x.name) (recsOf q)) (ownsOf q) [] ⟨h,#[],d,k,os⟩=expectedOf q) (b:h.bltView=bltViewBooted)
 (c:h.keysOk (looseW q loose) (List.map (λx=>x.name) (recsOf q)) (List.map (λx=>x.fst) (litsOf q)) (List.map (λx=>x.name) (clssOf q (looseW q loose)))=true)
 (W:h.accountedOkI I=true) (J:(h.isNs mainGlobals&&h.isNs builtinsNs)=true) (Y:tablesOk q h=true) (Z:Xt ⟨h,#[],d,k,os⟩=true)
 (e:tabsOk q ⟨h,#[],d,k,os⟩=true) (f:pinSeenD q (drecsOf q) ⟨h,#[],d,k,os⟩=pinGoodD (drecsOf q)) (g:plainSeenE q (looseW q loose) ⟨h,#[],d,k,os⟩=plainGoodE q (looseW q loose)) (g2:plainSeenD q loose ⟨h,#[],d,k,os⟩=plainGoodD q loose)
 (g3:wideSeen q ⟨h,#[],d,k,os⟩=wideGood q) (g4:clsSeenW q loose ⟨h,#[],d,k,os⟩=clsGoodW q loose):openSeen q loose I Xt true ⟨h,#[],d,k,os⟩=openGood q loose:=by
 rw[bj]at J;unfold openSeen openGood;dsimp only;rw[a,b,c,W,J.1,J.2,Y,Z,e,f,g,g2,g3,g4];rfl
end
end HD
namespace R
open PySem PySem.Spec PyProof.Rows L2
def AB:Stmt->Bool
 | .FunctionDef ..=>true
 |_=>false
structure FA where
 n:String
 q:String
 s:Stmt
 g:Addr
 c:Addr
 pm:Value
def FA.fn(D:FA):Obj:=HD.gC D.n D.q D.s D.pm (.ref D.c)
def fdOf(D:FA):FuncData:=PySem.W.fnOf D.n D.q (Hl D.s) (oQ D.s) (fW D.s) .none .none .none D.pm none (.ref D.c) .none
theorem X4{D:FA}(h:AB D.s=true):D.fn=⟨.type "function",none,.func (fdOf D),#[]⟩:=by
 unfold FA.fn fdOf;cases e:D.s<;>rw[e]at h<;>first|rfl|cases h
theorem VO{K:ag}{D:FA}(h:AB D.s=true)(l:K.lookup D.g=some D.fn)(c:PySem.W.codeIn K (.ref D.c) D.q=true)(k:PySem.W.keepIn K (.ref D.g)=true):rh K D.n D.q D.s D.g (fdOf D):=
 ⟨⟨_,_,_,_,_,_,_,_,_,rfl,by rw[l,X4 h],c⟩,k⟩
def AN(o:Option NameKind):Bool:=match o with
 |some .local=>true
 |some .cell=>true
 |_=>false
theorem TR(h:AN o=true):o=some .local∨o=some .cell:=by
 unfold AN at h;split at h
 . exact .inl rfl
 . exact .inr rfl
 . cases h
def X1:NameKind->Bool
 | .free=>false
 |_=>true
def zY(N ps:az)(sc:Scope):Bool:=(match sc.kind with| .function=>true|_=>false)&& !sc.isCoroutine&& !sc.isGenerator&&decide N.Nodup&&decide (N.take ps.length=ps)&&sc.names.all (λy=>X1 y.2)&&N.all (λx=>AN (sc.names.lookup x)&& !(x==("__debug__":Str))&& !(x==("__classdict__":Str)))
theorem RQ{sc:Scope}(h:zY N ps sc=true):qk N ps sc/\Iu N sc:=by
 unfold zY at h;simp only[bj,Bool.not_eq_true',decide_eq_true_eq,gB]at h;obtain⟨⟨⟨⟨⟨⟨h1,h2⟩,Y⟩,J⟩,W⟩,Z⟩,I⟩:=h;have l:∀x∈N,sc.names.lookup x=some .local∨sc.names.lookup x=some .cell:=λx hx=>TR (I x hx).1.1
 refine⟨⟨?_,h2,Y,J,W,λx hx=>l x ?_,λy hy=>?_⟩,⟨J,l,λx hx=>⟨(I x hx).1.2,(I x hx).2⟩⟩⟩
 . revert h1;cases sc.kind<;>simp
 . rw[<-W]at hx;exact List.mem_of_mem_take hx
 . have:=Z y hy
   intro z;rw[z]at this;cases this
def qJ:Option (cR)->Bool
 |some none=>true
 |_=>false
theorem GG(h:qJ o=true):o=some none:=by
 unfold qJ at h;split at h
 . rfl
 . cases h
def xZ(i:Int):Option (cR)->Bool
 |some (some (.int j _))=>j==i
 |_=>false
theorem Tv{i:Int}(h:xZ i o=true):∃t,o=some (some (.int i t)):=by
 unfold xZ at h;split at h
 . rename_i j t;exact⟨t,by rw[eq_of_beq h]⟩
 . cases h
def mJ(a:Addr):Option (cR)->Bool
 |some (some (.ref b))=>b==a
 |_=>false
theorem tP{a:Addr}(h:mJ a o=true):o=some (some (.ref a)):=by
 unfold mJ at h;split at h
 . rw[eq_of_beq h]
 . cases h
def A4:Option (cR)->Bool
 |some (some (.builtin "object.__setattr__"))=>true
 |_=>false
theorem Tw(h:A4 o=true):o=some (some (.builtin "object.__setattr__")):=by
 unfold A4 at h;split at h
 . rfl
 . cases h
def xt:az->au->Bool
 | [],[]=>true
 |x::xs,.str y _::ys=>(x==y)&&xt xs ys
 |_,_=>false
theorem Gm:∀{I:az} {vs:au},xt I vs=true->Vals (I.map V.str) vs
 | [],[],_=>.nil
 |x::xs,.str y t::ys,h=>by
  unfold xt at h;rw[bj]at h;cases eq_of_beq h.1;exact .cons ⟨t,rfl⟩ (Gm h.2)
def xU(K:ag)(I:az):Option (cR)->Bool
 |some (some (.ref a))=>match K.lookup a with
  |some ⟨.type "tuple",_,.seq ae _,_⟩=>decide (ae.size<=100)&&xt I ae.toList
  |_=>false
 |_=>false
theorem T9{K:ag}{x:Str}(X:K.In h)(G:h.Ns mainGlobals mg)(e:xU K ss (PySem.W.nsIn K mainGlobals x)=true):pG K mg x ss:=by
 unfold xU at e;split at e
 . rename_i a I
   split at e
   . rename_i ae n d sl J
     rw[bj,decide_eq_true_eq]at e;exact Tf (mW X G I) J (dJ e.1 (by decide)) (Gm e.2)
   . cases e
 . cases e
def pF(K:ag)(C:Addr):Bool:=uO K C Str.empty&&yp K C&&PySem.W.plainOver K C&&A4 (PySem.W.findIn K (.ref C) "__setattr__")
theorem Ae{K:ag}(h:pF K C=true):cI K C:=by
 unfold pF at h;simp only[bj]at h;exact⟨h.1.1.1,h.1.1.2,h.1.2,Tw h.2⟩
noncomputable def xa (K:ag)(c P:Addr):Bool:=match K.lookup c with
 |some ⟨.type "code",_,.fields (vs:Array Value),_⟩=>(match(vs[11]?:cR)with|some (.ref b)=>b==P|_=>false)&&(match vs.getD 18 .none with| .str _ _=>true|_=>false)&&(match vs.getD 7 .none with| .int _ _=>true|_=>false)&&(match vs.getD 9 .none with| .bool _=>true|_=>false)&&(match vs.getD 10 .none with| .int _ _=>true|_=>false)&& !(c==P)
 |_=>false
theorem Fp{K:ag}{c P:Addr}(e:xa K c P=true)(X:K.In h):PySem.W.CodeHd h c P:=by
 unfold xa at e;split at e
 . rename_i d vs sl el
   simp only[bj]at e;obtain⟨⟨⟨⟨⟨e1,J⟩,Y⟩,Z⟩,e5⟩,e6⟩:=e;have ne:c≠P:=by simpa using e6
   split at e1
   . rename_i b eb
     have I:b=P:=eq_of_beq e1;subst I;have eg:vs.getD 11 .none= .ref b:=by simp only[Array.getD_eq_getD_getElem?];rw[eb];rfl
     split at J
     . rename_i a2 t2 h2
       split at Y
       . rename_i a3 t3 h3
         split at Z
         . rename_i a4 h4
           split at e5
           . rename_i a5 t5 h5
             exact⟨_,vs,a2,t2,a3,t3,a4,a5,t5,X _ _ el,rfl,rfl,eb,eg,h2,h3,h4,h5,ne⟩
           . cases e5
         . cases Z
       . cases Y
     . cases J
   . cases e1
 . cases e
def yD(K:ag)(lP:Addr):Bool:=match PySem.W.nsIn K mainGlobals "__builtins__" with
 |some (some (.ref bm))=>!(bm==builtinsNs)&& !(bm==mainGlobals)&& !(bm==lP)&&(match K.lookup bm with
  |some ⟨.type "module",some n,.plain,_⟩=>n==builtinsNs
  |_=>false)
 |_=>false
theorem XJ{K:ag}(J:K.In h0)(G:h0.Ns mainGlobals mg)(e:yD K lP=true)(X:K.In h):h.BuiltinsAt mg lP:=by
 unfold yD at e;split at e
 . rename_i W eb
   simp only[bj]at e;obtain⟨⟨⟨e1,Y⟩,Z⟩,I⟩:=e;split at I
   . rename_i n sl el
     cases eq_of_beq I;exact⟨W,_,mW J G eb,by simpa using e1,by simpa using Y,by simpa using Z,X _ _ el,rfl,rfl,rfl⟩
   . cases I
 . cases e
def Dl(K:ag)(S:SI)(lP:Addr)(d:FD)(D:FA):Bool:=!(decide (d.N=S.ln))||(decide ((D.q:Str)++(".<locals>.":Str)++("<lambda>":Str)=S.lq)&&xa K D.c lP)
noncomputable def qK (K:ag)(S:SI)(C:Nat->Addr)(lP:Addr)(d:FD)(D:FA):Bool:=Dl K S lP d D&&AB D.s&&PySem.W.codeIn K (.ref D.c) D.q&&PySem.W.keepIn K (.ref D.g)&&zY d.N d.ps (fW D.s)&&decide (d.name=(D.n:Str))&&
 (match d.kind with
  |0=>mJ D.g (PySem.W.nsIn K mainGlobals d.name)
  |1=>pF K (C d.cls)&&mJ D.g (PySem.W.findIn K (.ref (C d.cls)) d.name)&&PySem.W.isFn K (.ref D.g)
  |2=>PySem.W.makesIn K (C d.cls)&&mJ D.g (PySem.W.findIn K (.ref (C d.cls)) "__init__")&&PySem.W.isFn K (.ref D.g)&&PySem.W.keepIn K (.ref (C d.cls))
  |_=>false)
theorem U5{K:ag}{S:SI}(X:K.In h)(G:h.Ns mainGlobals mg)(b:qK K S C lP d D=true)(l:K.lookup D.g=some D.fn)(m:mt S true d.N (fW D.s) d.body (.b (oQ D.s))=true)
 (I:∀us:au,us.length=d.ps.length->bindArgs (fdOf D) ⟨us,[]⟩=pure (d.ps.zip us)):jo K mg S C lP d D.g (fdOf D):=by
 unfold qK at b;simp only[bj,decide_eq_true_eq]at b;obtain⟨⟨⟨⟨⟨⟨b0,b1⟩,b2⟩,b3⟩,b4⟩,b5⟩,b6⟩:=b;obtain⟨s1,s2⟩:=RQ b4;have lm:d.N=S.ln->(D.q:Str)++(".<locals>.":Str)++("<lambda>":Str)=S.lq/\∃cc,(fdOf D).code= .ref cc/\∀h:Heap,K.In h->PySem.W.CodeHd h cc lP:=λz=>by
  unfold Dl at b0;rw[z]at b0;simp only[decide_true,Bool.not_true,Bool.false_or,bj,decide_eq_true_eq]at b0;exact⟨b0.1,D.c,rfl,λh X=>Fp b0.2 X⟩
 refine⟨⟨D.q,D.s,lm,b5 ▸ VO b1 l b2 b3,s1,s2,m⟩,.all I,λk=>?_,λk=>?_,λk=>?_⟩
 . rw[k]at b6;exact mW X G (tP b6)
 . rw[k]at b6
   simp only[bj]at b6;exact⟨Ae b6.1.1,⟨tP b6.1.2,b6.2,b3⟩⟩
 . rw[k]at b6
   simp only[bj]at b6;exact⟨b6.1.1.1,tP b6.1.1.2,b6.1.2,b6.2⟩
theorem qr{l:List α}(h:l.all f=true){x:α}(hx:x∈l):f x=true:=gB.mp h x hx
theorem Ad{f g:α->β}:∀{l:List α},l.map f=l.map g->∀{x:α},x∈l->f x=g x
 |y::l,h,x,hx=>by
  rw[bT,bT]at h;injection h with h1 h2
  rcases cj.mp hx with rfl|hx
  . exact h1
  . exact Ad h2 hx
theorem lookup_mem{x:Str}:∀{l:List (Str×β)},l.lookup x=some y->(x,y)∈l
 |(k,z)::l,h=>by
  unfold List.lookup at h;split at h
  . rename_i e
    cases h;rw[eq_of_beq e];exact .head _
  . exact .tail _ (lookup_mem h)
def vA(l:List (Str×Addr)):bW:=l.map λp=>(.inr p.1,.ref p.2)
def Bd(l:List (Str×Addr)):List (Key×V):=l.map λp=>(.inr p.1,.ref p.2)
theorem Dn:∀l:List (Str×Addr),KV (Bd l) ((l.map λp=>(p.1,Value.ref p.2)).map λp=>((Sum.inr p.1:Key),p.2))
 | []=>.nil
 |(x,a)::r=>.cons ⟨rfl,rfl⟩ (Dn r)
theorem Ik{K:ag}:∀l:List (Str×Addr),aF K H (vA l) (Bd l)
 | []=>rfl
 |p::r=>⟨V.ref p.2,Bd r,rfl,by simp only[Rep],Ik r⟩
theorem RI{P:Program}{w:World}{K:ag}{x:Str}{a:Addr}{l:List (Str×Addr)}
 (J:mg x=some (.ref a)) (lk:K.lookup a=some ⟨.type "dict",none,.dict es ep,#[]⟩) (I:(a==sysModules)=false) (Y:uk w es.toList (l.map λp=>(p.1,Value.ref p.2))) (W:(l.map Prod.fst).Nodup):KTab P w K mg x (vA l):=
 Gz J lk I Y (by rw[bV];exact W) ⟨rfl,rfl,rfl⟩ (Dn l) λH=>Ik l
theorem XY{P:Program}{w:World}{K:ag}{p:iF}(X:K.In h)(G:h.Ns mainGlobals mg)
 (bl:(p.S.bl.all λx=>qJ (PySem.W.nsIn K mainGlobals x))=true) (gi:(p.S.gi.all λx=>xZ x.2 (PySem.W.nsIn K mainGlobals x.1))=true) (gt:(p.S.gt.all λx=>xU K x.2 (PySem.W.nsIn K mainGlobals x.1))=true)
 (cl:(p.S.cl.zipIdx.all λx=>pF K (p.C x.2)&&mJ (p.C x.2) (PySem.W.nsIn K mainGlobals x.1))=true) (fs:(p.S.fs.all λx=>pF K (p.C x.1)&&qJ (PySem.W.findIn K (.ref (p.C x.1)) x.2))=true)
 (tb:∀x∈p.S.tb,KTab P w K mg x (p.tb x)) (tt:∀x l,p.S.tt.lookup x=some l->AL P w K mg x l) (fn:∀d∈p.S.fd,∃g fd,jo K mg p.S p.C p.lP d g fd) (lm:∀(i:Nat) d,p.S.fd[i]? =some d->d.N=p.S.ln->mainGlobals≠p.lP/\∀h:Heap,K.In h->h.BuiltinsAt mg p.lP)
 (cv:∀q∈p.cv,∃d,p.S.fd[q.2]? =some d/\d.kind=0/\mJ q.1 (PySem.W.nsIn K mainGlobals d.name)=true):Hd P w K mg p where
 bl:=λx hx=>PySem.W.mg_none_of X G (GG (qr bl hx))
 gi:=λx i hx=>by
  obtain⟨t,e⟩:=Tv (qr gi (lookup_mem hx));exact⟨t,mW X G e⟩
 gt:=λx l hx=>T9 X G (qr gt (lookup_mem hx))
 tb:=tb
 tt:=tt
 cl:=λi c hi=>by
  have:=qr cl (x:=(c,i)) (List.mk_mem_zipIdx_iff_getElem?.mpr hi);rw[bj]at this;exact⟨Ae this.1,mW X G (tP this.2)⟩
 fs:=λc f hx=>by
  have:=qr fs hx;rw[bj]at this;exact⟨Ae this.1,GG this.2⟩
 fns:=λi d hi=>fn d (List.mem_of_getElem? hi)
 lm:=lm
 cv:=λq I=>by
  obtain⟨d,a,b,c⟩:=cv q I;exact⟨d,a,b,mW X G (tP c)⟩
def iw(K:ag)(S:SI)(C:Nat->Addr)(lP:Addr)(n:Nat)(l:List (FD×FA)):Bool:=l.all λx=>qK K S C lP x.1 x.2&&decide (x.1.ps.length=n)&&mt S true x.1.N (fW x.2.s) x.1.body (.b (oQ x.2.s))
def CM:Nat->(au->Prop)->Prop
 |0,p=>p []
 |n+1,p=>∀v,CM n λl=>p (v::l)
theorem il:∀{n:Nat} {p:au->Prop},CM n p->∀us,us.length=n->p us
 |0,_,h,[],_=>h
 |_+1,_,h,v::us,e=>il (h v) us (Nat.succ.inj e)
abbrev uT(l:List (FD×FA))(n:Nat):Prop:=∀us:au,us.length=n->l.map (λx=>bindArgs (fdOf x.2) ⟨us,[]⟩)=l.map λx=>pure (x.1.ps.zip us)
abbrev ia(K:ag)(l:List (FD×FA)):Prop:=l.map (λx=>K.lookup x.2.g)=l.map λx=>some x.2.fn
def fD(d:HD.DF):FA:=⟨d.n,d.q,d.s,d.a+6,d.a+5,d.pm⟩
theorem iI{K:ag}{S:SI}{n:Nat}{l:List (FD×FA)}(X:K.In h)(G:h.Ns mainGlobals mg)(b:iw K S C lP n l=true)(k:ia K l)(u:uT l n):∀x∈l,jo K mg S C lP x.1 x.2.g (fdOf x.2):=λx hx=>by
 have:=qr b hx;simp only[bj,decide_eq_true_eq]at this;exact U5 X G this.1.1 (Ad k hx) this.2 λus I=>Ad (u us (I.trans this.1.2)) hx
theorem VP{K:ag}{S:SI}{l:List (FD×FA)}(e:S.fd=l.map (·.1))(h:∀x∈l,jo K mg S C lP x.1 x.2.g (fdOf x.2)):∀d∈S.fd,∃g fd,jo K mg S C lP d g fd:=λd hd=>by
 rw[e]at hd;obtain⟨x,hx,rfl⟩:=bu.mp hd;exact⟨_,_,h x hx⟩
theorem jb{P:α->Prop}{a b:List α}(h1:∀x∈a,P x)(h2:∀x∈b,P x):∀x∈a++b,P x:=λx hx=>(eZ.mp hx).elim (h1 x) (h2 x)
open PySem.W
def qF(P:Addr)(pos:Pos)(q:Str):RM:=λb=>if b=P then some (.tb P pos q)else none
theorem FW{P:Addr}{q:Str}:qF P pos q P=some (.tb P pos q):=if_pos rfl
theorem Rr{P b:Addr}{q:Str}(h:b≠P):qF P pos q b=none:=if_neg h
theorem QF{w:World}{K:Frag}{fa a T c:Addr}{q:Str}{x:Str}{sp:bX}{I:Shared}{vs:au}{ns:List Int}
 (KX:K.In I.heap) (hT:K.lookup T=none) (gT:I.heap.get? T=some (tabObj #[])) (C:CodeHd I.heap c T) (hns:I.heap.Ns mainGlobals mg) (J:I.heap.Ns builtinsNs mb) (hbb:∀x:Str,x≠"__name__"->mb x=bootBuiltins x) (hlim:I.heap.NoLimit) (hg:I.gens= #[])
 (ha:I.heap.get? a=some { cls:=.type "list",data:=.seq vs.toArray }) (hi:IntsAre vs ns) (hl:ns.length<=sizeLine) (hr:aH k callerA)
 (F:∀base:Heap,K.In base->base.Ns mainGlobals mg->dz PR w K mg base fz k fa fd [x] (fS K sp)) (hbind:∀s u,BindsTo s fd ⟨[u],[]⟩ [(x,u)])
 (hsp:sp [.ls (ns.map RV.int)] (qF T pos q) λv M'=>v= .bl true/\M' T=some (.tb T pos q)):
 codeAny (model PR w) callerA (.call (.ref fa) ⟨[.ref a],[]⟩) (λr s'=>r= .ok (.ret (.bool true))/\OldK I.heap s'.heap/\s'.os=I.os/\AllBare s'.gens) I:=by
 have rv:=L2.d9 hi;have lenV:=hi.length;have aT:a≠T:=λz=>by rw[z,gT]at ha;cases ha
 have core:∀H:Hp,H T=some (.ext (fY T pos none))->Fz K H a (ns.map V.int)->cJ PR w H I.heap->(∀b,H b≠none->b=T∨b=a/\∃o u,H a=some (.aV o u))->(H a≠none->K.lookup a=none)->
  codeAny (model PR w) callerA (.call (.ref fa) ⟨[.ref a],[]⟩) (λr s'=>r= .ok (.ret (.bool true))/\OldK I.heap s'.heap/\s'.os=I.os/\AllBare s'.gens) I:=by
  intro H hHT hS av hA hK;have nd:∀{b:Addr} {o:Obj} {es:Array DictEntry} {ep:Nat},I.heap.get? b=some o->o.data= .dict es ep->H b=none:=λ{b o es ep} e d=>by
   cases z:H b with
   |none=>rfl
   |some u=>
    rcases hA b (by rw[z];simp)with y|⟨y,_⟩
    . rw[y,gT]at e;cases e;cases d
    . rw[y,ha]at e;cases e
      have d':Data.seq vs.toArray _=Data.dict es ep:=d;cases d'
  have Z:∀{b:Addr} {m:bq},I.heap.Ns b m->(iu I.heap H).Ns b m:=λ{b m} ⟨o,es,ep,e,d,r⟩=>⟨o,es,ep,zp e (nd e d),d,r⟩
  have hKb:K.In (iu I.heap H):=λb o e=>zp (KX b o e) (by
   cases z:H b with
   |none=>rfl
   |some u=>
    rcases hA b (by rw[z];simp)with y|⟨y,_⟩
    . rw[y,hT]at e;cases e
    . rw[y,hK (by rw[<-y,z];simp)]at e;cases e)
  have hM:Mod K mg (iu I.heap H):=⟨hKb,Z hns,⟨mb,Z J,hbb⟩,let⟨mc,h1,h2⟩:=hlim;⟨mc,Z h1,h2⟩⟩;have e0:f7 PR w K mg (iu I.heap H) callerA [] I H:=⟨rfl,hM,λb o e=>GP e,Nat.le_of_eq (Fh _ _),trivial,λb J=>absurd (show b∈([]:List Addr)from J) (by simp),av,.of_eq hg⟩
  have up:fS K sp [.ref a] H (λv H'=>v= .bl true/\∃o,H' T=some (.ext (fY T pos o))) λ_ _ _=>False:=by
   refine⟨[.ls (ns.map RV.int)],qF T pos q,λv M'=>v= .bl true/\M' T=some (.tb T pos q),ab.cons (by simp only[Rep];exact⟨a,_,rfl,hS,E8 ns⟩) ab.nil,λb o e=>?_,hsp,λrv M' v H' z _ w' r=>?_⟩
   . by_cases J:b=T
     . subst J;rw[FW]at e;cases e;exact⟨_,hHT,.inl rfl⟩
     . rw[Rr J]at e;cases e
   . obtain⟨rfl,z⟩:=z
     obtain⟨ho,e1,e2⟩:=w' T _ z;simp only[Rep]at r;rcases e2 with rfl|⟨c',_,_,_,rfl,_⟩
     . exact⟨r,none,e1⟩
     . exact⟨r,some c',e1⟩
  refine codeAny_mono ((F _ hKb (Z hns)).run callerA [] I H ⟨[.ref a],[]⟩ [.ref a] [.ref a] _ _ hr e0 (hbind I (.ref a)) (.cons rfl .nil) up) λr s' h=>?_
  cases r with
  |error e=>exact False.elim h
  |ok fl=>
   cases fl with
   |next=>exact False.elim h
   |brk=>exact False.elim h
   |cont=>exact False.elim h
   |ret u=>
    obtain⟨v,H',os,bare,un,hok',r',q',o,hT'⟩:=h;subst q';obtain rfl:u=Value.bool true:=r';have gT':fY T pos o s'.heap:=(hok' T _ hT').1;refine⟨rfl,⟨λb ob e=>?_,λb ob e=>un.there b ob e (by simp)⟩,os,bare⟩
    cases z:H b with
    |none=>exact .inl (un.keep b ob e z (by intro z;exact absurd (show b∈([]:List Addr)from z) (by simp)) (by simp))
    |some u=>
     rcases hA b (by rw[z];simp)with rfl|⟨rfl,ob',u',Y⟩
     . rw[gT]at e;cases e
       refine .inr (.inl ⟨(C.tab gT).isCodeTable,rfl,#[],match o with|none=>#[]|some c=>#[rawInt pos.line,rawInt pos.col,.ref c],rfl,?_⟩)
       cases o<;>exact gT'
     . have z2:=un.aI b ob' u' Y
       have e1:=(av b _ Y).1;rw[e]at e1;cases e1;exact .inl (hok' b _ z2).1
 cases hk:K.lookup a with
 |some o=>
  have e:=KX a o hk;rw[ha]at e;cases e;refine core (λb=>if b=T then some (.ext (fY T pos none))else none) (if_pos rfl) (.inr ⟨_,vs.toArray,_,hk,rfl,rfl,rfl,by rw[eQ,lenV];exact hl,by simpa using rv⟩) (λb u z=>?_) (λb z=>?_) λz=>absurd (if_neg aT) z
  . by_cases J:b=T
    . subst J;have Y:=(if_pos rfl).symm.trans z;cases Y;exact zU gT
    . have Y:=(if_neg J).symm.trans z;cases Y
  . by_cases J:b=T
    . exact .inl J
    . exact absurd (if_neg J) z
 |none=>
  refine core (λb=>if b=T then some (.ext (fY T pos none))else if b=a then some (.aV { cls:=.type "list",data:=.seq vs.toArray } (.lst (ns.map V.int)))else none) (if_pos rfl) (.inl ⟨_,(if_neg aT).trans (if_pos rfl)⟩) (λb u z=>?_) (λb z=>?_) λ_=>hk
  . by_cases J:b=T
    . subst J;have Y:=(if_pos rfl).symm.trans z;cases Y;exact zU gT
    . by_cases W:b=a
      . have Y:=((if_neg J).trans (if_pos W)).symm.trans z
        cases Y;subst W;exact⟨ha,by rw[br];exact hl,vs,_,rv,ha⟩
      . have Y:=((if_neg J).trans (if_neg W)).symm.trans z;cases Y
  . by_cases J:b=T
    . exact .inl J
    . by_cases W:b=a
      . exact .inr ⟨W,_,_,(if_neg aT).trans (if_pos rfl)⟩
      . exact absurd ((if_neg J).trans (if_neg W)) z
theorem jn{l:OpenLaw}{n k:Nat}{q:Program}{loose:az}{d:DefRec}{K:Params->Frag}{sp:bX}{x:Str}{T c:Addr}
 (hn:l.most=some n) (hn2:n<=sizeLine) (hdf:d.params.defaults= []) (hr:aH k callerA)
 (hY:∀w h,YP w h->(K w.params).In h/\h.get? T=some (tabObj #[])) (hT:∀p,(K p).lookup T=none) (hC:∀p h,(K p).In h->CodeHd h c T)
 (F:∀w mg Z h,(K w.params).In h->h.Ns mainGlobals mg->mg d.name=some (.ref Z)->
  ∃fd:FuncData,(∀s u,BindsTo s fd ⟨[u],[]⟩ [(x,u)])/\
   ∀base:Heap,(K w.params).In base->base.Ns mainGlobals mg->dz l.prog w (K w.params) mg base fz k Z fd [x] (fS (K w.params) sp))
 (hsp:∀ns:List Int,ns.length<=n->sp [.ls (ns.map RV.int)] (qF T pos lq) λv M'=>v= .bl true/\M' T=some (.tb T pos lq)):
 WalkO q loose XP YP l.row.toRowW d [] (λf vs=>PySem.call f vs):=by
 refine Att.ee hn hdf λw s₀ s₁ mg mb Z o pm cd doc a vs ns G Y ho hd hcd hmg W J I hg=>?_
 obtain⟨KX,gT⟩:=hY w _ Y;obtain⟨fd,hb,hF⟩:=F w mg Z _ KX G.T.g hmg;exact QF KX (hT _) gT (hC _ _ KX) G.T.g G.T.b G.T.builtins G.T.nolimit hg W J (dJ I hn2) hr hF hb (hsp ns I)
end R
namespace H35
open PySem PySem.W PyProof.Rows HD
variable(P:Params)
abbrev p:=PySem.Challenge.pw_lentgate_k35_meetings_by_two_gates
abbrev body:=behindTheImports p
abbrev top(i:Nat):Stmt:=WI p i
def env:Env:={ scope:=p.main.scope,locals:=mainNs,globals:=mainNs,cells:=[],code:=.ref 13,frame:=some 14 }
def cd:Code:=.body body env
def ann:cR:=some (.ref 6)
def q0:Pos:=⟨0,0,0,0⟩
def B:List Frame:=[topFrame q0]
abbrev wf(w:World)(b:Bool):World:=w.withFollow "special-get-raises" b
noncomputable section
abbrev BD:Value:=.str "__main__" 164
abbrev fw:Value:=.str "lentgate.ends" 194
abbrev p8:Value:=.str "lentgate.forms" 491
abbrev p9:Value:=.str "lentgate.lines" 581
abbrev i6:Value:=.str "lentgate.rules" 727
abbrev gJ:Value:=.str "lentgate.pool" 810
abbrev eK:Value:=.str "lentgate.talks" 910
abbrev cD:Value:=.str "lentgate.gate" 1117
abbrev i7:Value:=.str "lentgate.meetings" 1442
abbrev kZ:Value:=.str "law_lentgate_k35_meetings_by_two_gates" 1545
noncomputable def cO (n q:Str)(a:Nat)(L k f:Int)(r:Nat)(b:Bool)(z:Value):Obj:=Br [.str n a,.str q (a+1),.str "/claim/cut.py" (a+2),.int L 0,.int k 0,.int 0 0,.int 0 0,.int f 0,.ref r,.bool b,.int 181 0,.ref (r+1),.none,.none,.none,z,.int ((a+3:Nat):Int) 0,.int L 0,.str "/claim/cut.py" (a+4)]
noncomputable def cC (n:Str)(a:Nat)(L:Int)(r:Nat):Obj:=cO n n a L 0 0 r false .none
noncomputable def cF (n q:Str)(a:Nat)(L k:Int)(r:Nat):Obj:=cO n q a L k 3 r true (.ref (r+2))
noncomputable def i0 (b:Nat)(v:Value):Obj:=⟨.type "frame",none,.plain,#[some (.ref (b+3)),some (.ref 3),some (.ref b),none,some v,none,some (.ref 0)]⟩
noncomputable def Bq (n:Str)(bs rs:au)(k:Nat)(I:au)(x:cR)(a b:Nat)(w:String):Obj:=⟨.type "type",none,.cls { name:=n,bases:=bs,mro:=.ref (k+1)::rs,ns:=k,qualname:=n,hasDict:=true,slotNames:=[],subclasses:=I,abstract:=false,collection:=none,hasDel:=false },#[x,none,some (.str n a),some (.str n b),some (.builtin w),some (.bool true)]⟩
noncomputable def pX (n:Str)(k a:Nat):Obj:=Bq n [.type "object"] [.type "object"] k [] none a (a+8) "object.__new__"
noncomputable def jG (n:Str)(b:Value)(rs:au)(k:Nat)(I:au)(x a:Nat):Obj:=Bq n [b] (rs++ [.type "ValueError",.type "Exception",.type "BaseException",.type "object"]) k I (some (.ref x)) a (a+8) "ValueError.__new__"
noncomputable def gD (t r:Nat):Obj:=⟨.type "getset_descriptor",none,.fields #[.str "__dict__" t,.ref r,.builtin "function.__dict__",.builtin "function.__dict__#set"],#[]⟩
noncomputable def gW (t r:Nat):Obj:=⟨.type "getset_descriptor",none,.fields #[.str "__weakref__" t,.ref r,.builtin "ExceptionGroup.__weakref__",.none],#[]⟩
noncomputable def sU (r:Nat):Obj:=⟨.type "super",none,.fields #[.ref r,.ref r,.ref r],#[]⟩
noncomputable def iS (r:Nat):Obj:=⟨.type "builtin_function_or_method",none,.fields #[.builtin "object.__init_subclass__",.ref r],#[]⟩
noncomputable def BC (c:Int)(l:List (Int×Nat)):au:=l.flatMap λx=>[.int x.1 0,.int c 0,.ref x.2]
noncomputable def p6 (l:List (Int×Nat)):Obj:=⟨.none,none,.fields (BC 4 l).toArray,#[]⟩
noncomputable def rE (l:List (String×Nat×Nat)):List DictEntry:=l.map λx=>e1 P x.1 x.2.1 (.ref x.2.2)
def nB(v:Value)(n:Str)(t:Nat)(L:Int)(l:List (String×Nat×Nat))(a b:Nat):Obj:=eJ ([e1 P "__module__" t v,e1 P "__qualname__" (t+2) (.str n (t+1)),e1 P "__firstlineno__" (t+4) (.int L (t+3))]++rE P l++ [e1 P "__static_attributes__" a (.ref b)]) (l.length+4)
def nA(v:Value)(t:Nat)(L:Int)(l:List (String×Nat×Nat))(a b:Nat)(es:List DictEntry)(k:Nat):Obj:=eJ ([e1 P "__module__" t v,e1 P "__firstlineno__" (t+4) (.int L (t+3))]++rE P l++ [e1 P "__static_attributes__" a (.ref b)]++es) k
def nF(v:Value)(t:Nat)(L:Int)(l:List (String×Nat×Nat))(a b:Nat):Obj:=nA P v t L l a b [e1 P "__dict__" (a+2) (.ref (b+3)),e1 P "__weakref__" (a+4) (.ref (b+4)),e1 P "__doc__" (a+5) .none] 4
def ns:List DictEntry:=[e1 P "__name__" 165 kZ,e1 P "__doc__" 166 (.none),e1 P "__package__" 167 (.none),e1 P "__loader__" 168 (.builtin "__main__.__loader__#opaque"),e1 P "__spec__" 169 (.none),e1 P "__annotations__" 170 (.ref 6),e1 P "__builtins__" 171 (.ref 4),e1 P "__file__" 173 (.str "/claim/cut.py" 172),e1 P "__cached__" 174 (.none),e1 P "_wall" 193 (.ref 21),e1 P "GREATEST_HOUSE" 197 (.int 99 196),e1 P "GREATEST_DOOR" 199 (.int 9999 198),e1 P "GREATEST_PLACE" 201 (.int 1000000 200),e1 P "GREATEST_TICKS" 203 (.int 1000000 202),e1 P "GREATEST_RULE" 205 (.int 1000000 204),e1 P "MOST_SIGNS" 207 (.int 40 206),e1 P "FIRST_SIGN" 209 (.int 32 208),e1 P "LAST_SIGN" 211 (.int 126 210),e1 P "PERCENT_SIGN" 213 (.int 37 212),e1 P "KINDS" 216 (.ref 22),e1 P "NOTE_WORDS" 218 (.ref 23),e1 P "LINE_WORDS" 223 (.ref 24),e1 P "is_whole" 230 (.ref 31),e1 P "is_whole_within" 239 (.ref 38),e1 P "is_house" 246 (.ref 45),e1 P "is_door" 253 (.ref 52),e1 P "is_place" 260 (.ref 59),e1 P "is_outer_place" 267 (.ref 66),e1 P "is_ticks" 274 (.ref 73),e1 P "is_kind" 281 (.ref 80),e1 P "is_word" 289 (.ref 87),e1 P "is_sign" 297 (.ref 94),e1 P "is_text" 303 (.ref 99),e1 P "is_letter" 312 (.ref 106),e1 P "is_out" 326 (.ref 113),e1 P "is_come" 339 (.ref 120),e1 P "is_lost" 351 (.ref 127),e1 P "is_wait" 358 (.ref 134),e1 P "is_rule" 370 (.ref 141),e1 P "is_unrule" 377 (.ref 148),e1 P "DEEDS" 390 (.ref 149),e1 P "name_of" 397 (.ref 156),e1 P "is_deed" 406 (.ref 163),e1 P "GateError" 426 (.ref 173),e1 P "NoForm" 442 (.ref 186),e1 P "NoDeed" 458 (.ref 198),e1 P "NoRule" 474 (.ref 210),e1 P "NoPlan" 490 (.ref 222),e1 P "LENDINGS" 496 (.ref 225),e1 P "SIEVES" 500 (.ref 226),e1 P "PICKS" 503 (.ref 227),e1 P "WIDEST_STEP" 505 (.int 199 504),e1 P "GREATEST_MOST" 507 (.int 200 506),e1 P "GREATEST_TIME" 509 (.int 1000000 508),e1 P "TIME_AT" 528 (.ref 228),e1 P "is_pool" 536 (.ref 235),e1 P "is_times" 542 (.ref 240),e1 P "is_form" 557 (.ref 247),e1 P "holder_of" 571 (.ref 254),e1 P "time_of" 580 (.ref 261),e1 P "LINE_STEPS" 693 (.ref 262),e1 P "BREAKABLE" 699 (.ref 277),e1 P "note_state" 707 (.ref 284),e1 P "line_state" 716 (.ref 291),e1 P "next_state" 726 (.ref 298),e1 P "Rules" 809 (.ref 350),e1 P "Pool" 909 (.ref 423),e1 P "Talk" 946 (.ref 444),e1 P "Talks" 1116 (.ref 564),e1 P "Gate" 1441 (.ref 774),e1 P "FIRST_PLACE" 1445 (.int 1 1444),e1 P "SECOND_PLACE" 1447 (.int 2 1446),e1 P "HELPER_PLACE" 1449 (.int 3 1448),e1 P "HELPER_DOOR" 1451 (.int 1 1450),e1 P "HOUSE" 1453 (.int 0 1452),e1 P "WRITERS" 1456 (.ref 779),e1 P "MOST_STEPS" 1458 (.int 100 1457),e1 P "is_doors" 1465 (.ref 786),e1 P "is_steps" 1471 (.ref 791),e1 P "Side" 1514 (.ref 815),e1 P "write_to" 1524 (.ref 826),e1 P "meeting" 1538 (.ref 833),e1 P "meets" 1544 (.ref 838),e1 P "_law_cell" 1554 (.ref 845),e1 P "_law_well" 1562 (.ref 852),e1 P "_law_take" 1573 (.ref 859),e1 P "_law_a_form" 1579 (.ref 864),e1 P "_law_step" 1587 (.ref 871),e1 P "_law_due" 1593 (.ref 876),e1 P "_law_met" 1599 (.ref 881),e1 P "law" 1605 (.ref 886)]
def tb:au:=BC 0 [(1,20),(17,30),(19,37),(21,44),(23,51),(25,58),(27,65),(29,72),(31,79),(33,86),(37,93),(40,98),(44,105),(46,112),(51,119),(56,126),(61,133),(63,140),(70,147),(73,155),(77,162),(84,169),(86,182),(88,194),(90,206),(92,218),(102,234),(104,239),(109,246),(118,253),(126,260),(132,283),(136,290),(140,297),(145,304),(173,360),(217,433),(224,454),(307,574),(485,785),(487,790),(491,797),(501,825),(507,832),(524,837),(529,844),(533,851),(537,858),(547,863),(559,870),(562,875),(578,880),(581,885)]
abbrev yF:=df "_wall" "_wall" (top 0) 15 187 1 1 ["k"] BD
abbrev vb:=df "is_whole" "is_whole" (top 14) 25 224 17 1 ["thing"] fw
abbrev vd:=df "is_whole_within" "is_whole_within" (top 15) 32 231 19 3 ["thing","least","greatest"] fw
abbrev ve:=df "is_house" "is_house" (top 16) 39 240 21 1 ["thing"] fw
abbrev vf:=df "is_door" "is_door" (top 17) 46 247 23 1 ["thing"] fw
abbrev vg:=df "is_place" "is_place" (top 18) 53 254 25 1 ["thing"] fw
abbrev vh:=df "is_outer_place" "is_outer_place" (top 19) 60 261 27 1 ["thing"] fw
abbrev vi:=df "is_ticks" "is_ticks" (top 20) 67 268 29 1 ["thing"] fw
abbrev vj:=df "is_kind" "is_kind" (top 21) 74 275 31 1 ["thing"] fw
abbrev vk:=df "is_word" "is_word" (top 22) 81 282 33 2 ["kind","thing"] fw
abbrev vm:=df "is_sign" "is_sign" (top 23) 88 290 37 1 ["sign","at"] fw
abbrev jH:=df "is_letter" "is_letter" (top 25) 100 304 44 3 ["kind","word","text"] fw
abbrev jI:=df "is_out" "is_out" (top 26) 107 313 46 1 ["parts","kind","house","door","place","far","word","text"] fw
abbrev jJ:=df "is_come" "is_come" (top 27) 114 327 51 1 ["parts","kind","place","far","number","word","text"] fw
abbrev nv:=df "is_lost" "is_lost" (top 28) 121 340 56 1 ["parts","teller","kind","number","place","far"] fw
abbrev jK:=df "is_wait" "is_wait" (top 29) 128 352 61 1 ["parts"] fw
abbrev nz:=df "is_rule" "is_rule" (top 30) 135 359 63 1 ["parts","kind","number","place","house","door"] fw
abbrev nE:=df "is_unrule" "is_unrule" (top 31) 142 371 70 1 ["parts"] fw
abbrev jL:=df "name_of" "name_of" (top 33) 150 391 73 1 ["thing"] fw
abbrev jM:=df "is_deed" "is_deed" (top 34) 157 398 77 1 ["thing","name","has_parts"] fw
abbrev jN:=df "is_pool" "is_pool" (top 49) 229 529 102 2 ["low","high"] p8
abbrev jO:=df "is_form" "is_form" (top 51) 241 543 109 1 ["thing","low","high","lending","sieve","pick","most","renew","times"] p8
abbrev jP:=df "holder_of" "holder_of" (top 52) 248 558 118 2 ["form","inner","kind","house","door","place","far","lending"] p8
abbrev jQ:=df "time_of" "time_of" (top 53) 255 572 126 2 ["form","state","times"] p8
abbrev jR:=df "note_state" "note_state" (top 57) 278 700 132 2 ["state","word"] p9
abbrev nG:=df "line_state" "line_state" (top 58) 285 708 136 3 ["state","side","word"] p9
abbrev jS:=df "next_state" "next_state" (top 59) 292 717 140 4 ["kind","state","side","word"] p9
abbrev jT:=df "__init__" "Rules.__init__" (sub (top 61) 0) 306 741 147 1 ["self"] i6
abbrev nH:=df "tell" "Rules.tell" (sub (top 61) 1) 313 748 151 6 ["self","kind","number","place","house","door","told"] i6
abbrev nI:=df "stands" "Rules.stands" (sub (top 61) 2) 320 761 157 2 ["self","k"] i6
abbrev nJ:=df "drop" "Rules.drop" (sub (top 61) 3) 327 769 160 2 ["self","k"] i6
abbrev nK:=df "door_for" "Rules.door_for" (sub (top 61) 4) 334 777 163 4 ["self","kind","number","place","rule_kind","rule_number","rule_place","house","door","fits_place"] i6
abbrev nM:=df "listed" "Rules.listed" (sub (top 61) 5) 341 793 170 1 ["self"] i6
abbrev jU:=df "__init__" "Pool.__init__" (sub (top 63) 0) 362 824 175 3 ["self","low","high"] gJ
abbrev jV:=df "has" "Pool.has" (sub (top 63) 1) 369 833 182 2 ["self","number"] gJ
abbrev jW:=df "is_free" "Pool.is_free" (sub (top 63) 2) 376 841 185 3 ["self","number","moment"] gJ
abbrev jX:=df "from_mark" "Pool.from_mark" (sub (top 63) 3) 383 850 190 1 ["self"] gJ
abbrev jY:=df "picked" "Pool.picked" (sub (top 63) 4) 390 857 193 4 ["self","pick","door","moment","number"] gJ
abbrev jZ:=df "take" "Pool.take" (sub (top 63) 5) 397 868 201 2 ["self","number"] gJ
abbrev j0:=df "give" "Pool.give" (sub (top 63) 6) 404 876 207 3 ["self","number","until"] gJ
abbrev j4:=df "__init__" "Talk.__init__" (sub (top 65) 0) 435 924 219 5 ["self","inner","number","state","over"] eK
abbrev j5:=df "__init__" "Talks.__init__" (sub (top 66) 0) 456 959 226 2 ["self","form"] eK
abbrev j6:=df "of_inner" "Talks.of_inner" (sub (top 66) 1) 463 967 235 2 ["self","inner"] eK
abbrev j7:=df "of_outer" "Talks.of_outer" (sub (top 66) 2) 470 975 238 5 ["self","kind","number","place","far"] eK
abbrev j8:=df "living" "Talks.living" (sub (top 66) 4) 482 992 246 1 ["self"] eK
abbrev nN:=df "is_living" "Talks.is_living" (sub (top 66) 5) 489 999 249 2 ["self","talk"] eK
abbrev j9:=df "number_of" "Talks.number_of" (sub (top 66) 6) 496 1007 252 2 ["self","inner"] eK
abbrev ka:=df "holder_at" "Talks.holder_at" (sub (top 66) 7) 503 1015 255 2 ["self","number"] eK
abbrev nO:=df "lent_until" "Talks.lent_until" (sub (top 66) 9) 515 1029 261 2 ["self","number"] eK
abbrev kc:=df "lend" "Talks.lend" (sub (top 66) 10) 522 1037 264 3 ["self","number","inner","holder"] eK
abbrev ke:=df "end_lend" "Talks.end_lend" (sub (top 66) 11) 529 1047 270 3 ["self","number","moment"] eK
abbrev kf:=df "begin" "Talks.begin" (sub (top 66) 12) 536 1056 275 4 ["self","inner","number","state","kind","house","door","place","far","talk"] eK
abbrev kg:=df "lead" "Talks.lead" (sub (top 66) 13) 543 1072 283 3 ["self","talk","state"] eK
abbrev kh:=df "end" "Talks.end" (sub (top 66) 14) 550 1081 290 3 ["self","talk","moment","kind","house","door","place","far","number"] eK
abbrev kj:=df "__init__" "Gate.__init__" (sub (top 68) 0) 576 1131 309 2 ["self","form"] cD
abbrev kl:=df "deed" "Gate.deed" (sub (top 68) 1) 583 1139 318 2 ["self","deed","answer"] cD
abbrev km:=df "out" "Gate.out" (sub (top 68) 2) 590 1148 325 8 ["self","kind","house","door","place","far","word","text"] cD
abbrev kn:=df "come" "Gate.come" (sub (top 68) 3) 597 1162 328 7 ["self","kind","place","far","number","word","text"] cD
abbrev nQ:=df "lost" "Gate.lost" (sub (top 68) 4) 604 1175 331 6 ["self","teller","kind","number","place","far"] cD
abbrev kq:=df "wait" "Gate.wait" (sub (top 68) 5) 611 1187 334 2 ["self","ticks"] cD
abbrev nR:=df "rule" "Gate.rule" (sub (top 68) 6) 618 1195 337 6 ["self","kind","number","place","house","door"] cD
abbrev nS:=df "unrule" "Gate.unrule" (sub (top 68) 7) 625 1207 340 2 ["self","k"] cD
abbrev nT:=df "moment" "Gate.moment" (sub (top 68) 8) 632 1215 343 1 ["self"] cD
abbrev nU:=df "free" "Gate.free" (sub (top 68) 9) 639 1222 346 1 ["self"] cD
abbrev nV:=df "lends" "Gate.lends" (sub (top 68) 10) 646 1229 349 1 ["self"] cD
abbrev nW:=df "talks" "Gate.talks" (sub (top 68) 11) 653 1236 352 1 ["self"] cD
abbrev nX:=df "rests" "Gate.rests" (sub (top 68) 12) 660 1243 355 1 ["self"] cD
abbrev nY:=df "rules" "Gate.rules" (sub (top 68) 13) 667 1250 358 1 ["self"] cD
abbrev nZ:=df "book" "Gate.book" (sub (top 68) 14) 674 1257 361 1 ["self"] cD
abbrev kr:=df "answered" "Gate.answered" (sub (top 68) 15) 681 1264 364 3 ["self","name","parts","kind","place","far","number","word","text"] cD
abbrev ku:=df "sent" "Gate.sent" (sub (top 68) 16) 688 1279 379 2 ["self","parts","kind","house","door","place","far","word","text","answer","number"] cD
abbrev ky:=df "lead_out" "Gate.lead_out" (sub (top 68) 17) 695 1296 387 3 ["self","inner","word","talk","state"] cD
abbrev kA:=df "begin_out" "Gate.begin_out" (sub (top 68) 18) 702 1307 397 3 ["self","inner","state","number"] cD
abbrev kC:=df "picked_for" "Gate.picked_for" (sub (top 68) 19) 709 1317 409 2 ["self","door","pool","now"] cD
abbrev kD:=df "come_in" "Gate.come_in" (sub (top 68) 20) 716 1327 415 6 ["self","kind","place","far","number","word","talk"] cD
abbrev kE:=df "lead_in" "Gate.lead_in" (sub (top 68) 21) 723 1340 423 3 ["self","talk","word","kind","house","door","place","far","state","renew"] cD
abbrev kF:=df "sifted" "Gate.sifted" (sub (top 68) 22) 730 1356 433 4 ["self","kind","place","number","holder"] cD
abbrev kG:=df "lets_note_in" "Gate.lets_note_in" (sub (top 68) 23) 737 1367 441 3 ["self","place","number","sieve"] cD
abbrev oe:=df "come_by_rule" "Gate.come_by_rule" (sub (top 68) 24) 744 1377 445 6 ["self","kind","place","far","number","word","to","house","door","state","inner"] cD
abbrev og:=df "told_lost" "Gate.told_lost" (sub (top 68) 25) 751 1394 459 2 ["self","parts","teller","kind","number","place","far","talk"] cD
abbrev oh:=df "rule_told" "Gate.rule_told" (sub (top 68) 26) 758 1408 466 2 ["self","parts","kind","number","place","house","door"] cD
abbrev oj:=df "rule_dropped" "Gate.rule_dropped" (sub (top 68) 27) 765 1421 472 2 ["self","k"] cD
abbrev kH:=df "is_doors" "is_doors" (top 77) 780 1459 485 1 ["thing"] i7
abbrev kI:=df "__init__" "Side.__init__" (sub (top 79) 0) 799 1484 493 4 ["self","form","place","door"] i7
abbrev kJ:=df "write" "Side.write" (sub (top 79) 1) 806 1494 499 3 ["self","place","far"] i7
abbrev kK:=df "write_to" "write_to" (top 80) 820 1515 501 2 ["writer","reader","answer","arrived"] i7
abbrev kL:=df "meeting" "meeting" (top 81) 827 1525 507 4 ["one","other","doors","steps","first","second","rows","step"] i7
abbrev kM:=df "_law_cell" "_law_cell" (top 84) 839 1547 529 2 ["script","k"] kZ
abbrev kN:=df "_law_well" "_law_well" (top 85) 846 1555 533 2 ["cell","turn"] kZ
abbrev kO:=df "_law_take" "_law_take" (top 86) 853 1563 537 2 ["bag","many","found","p","n"] kZ
abbrev kQ:=df "_law_step" "_law_step" (top 88) 865 1580 559 1 ["bag","ticks"] kZ
def v7:Obj:=tup []
def Bb:Obj:=cC "<module>" 182 1 11
noncomputable def Lj:Obj:=⟨.type "frame",none,.plain,#[some (.ref 13),some (.ref 3),some (.ref 3),none,some BD,none,some (.ref 0)]⟩
def Lk:Obj:=tup [.str "note" 214,.str "line" 215]
def Ll:Obj:=tup [.str "say" 217]
def Lm:Obj:=tup [.str "open" 219,.str "say" 220,.str "close" 221,.str "break" 222]
noncomputable def v8:Obj:=⟨.none,none,.fields #[],#[]⟩
def Mu:Obj:=gR "is_text" "is_text" (top 24)
def DA:Obj:=cF "is_text" "is_text" 298 40 1 95
def Dz:Obj:=gC "is_text" "is_text" (top 24) fw (.ref 98)
def pM:Obj:=eJ (rE P [("out",378,113),("come",379,120),("lost",380,127),("wait",381,134),("rule",382,141),("unrule",383,148)]) 6
def Dy:Obj:=tup [.type "ValueError"]
noncomputable def fy:Obj:=⟨.type "builtin_function_or_method",none,.fields #[.builtin "type.__prepare__",.type "type"],#[]⟩
def Dx:Obj:=nB P (.str "lentgate.errors" 407) "GateError" 416 84 [] 421 171
def BN:Obj:=cC "GateError" 411 84 167
def BM:Obj:=i0 166 (.str "lentgate.errors" 407)
def BL:Obj:=nA P (.str "lentgate.errors" 407) 416 84 [] 421 171 [e1 P "__weakref__" 423 (.ref 174),e1 P "__doc__" 424 (.none)] 3
def Mt:Obj:=jG "GateError" (.type "ValueError") [] 172 [] 164 409
def BK:Obj:=gW 422 173
def BJ:Obj:=sU 173
def BI:Obj:=iS 173
def Ms:Obj:=jG "GateError" (.type "ValueError") [] 172 [.ref 186] 164 409
def mL:Obj:=tup [.ref 173]
def BH:Obj:=nB P (.str "lentgate.errors" 407) "NoForm" 434 86 [] 439 184
def BG:Obj:=cC "NoForm" 429 86 180
def BF:Obj:=i0 179 (.str "lentgate.errors" 407)
def BE:Obj:=nA P (.str "lentgate.errors" 407) 434 86 [] 439 184 [e1 P "__doc__" 440 (.none)] 2
def Cg:Obj:=jG "NoForm" (.ref 173) [.ref 173] 185 [] 177 427
def Cf:Obj:=sU 186
def Ce:Obj:=iS 186
def Mr:Obj:=jG "GateError" (.type "ValueError") [] 172 [.ref 186,.ref 198] 164 409
def Cd:Obj:=nB P (.str "lentgate.errors" 407) "NoDeed" 450 88 [] 455 196
def Cc:Obj:=cC "NoDeed" 445 88 192
def Cb:Obj:=i0 191 (.str "lentgate.errors" 407)
def Ca:Obj:=nA P (.str "lentgate.errors" 407) 450 88 [] 455 196 [e1 P "__doc__" 456 (.none)] 2
def B9:Obj:=jG "NoDeed" (.ref 173) [.ref 173] 197 [] 189 443
def B8:Obj:=sU 198
def B7:Obj:=iS 198
def Mq:Obj:=jG "GateError" (.type "ValueError") [] 172 [.ref 186,.ref 198,.ref 210] 164 409
def B6:Obj:=nB P (.str "lentgate.errors" 407) "NoRule" 466 90 [] 471 208
def B5:Obj:=cC "NoRule" 461 90 204
def B4:Obj:=i0 203 (.str "lentgate.errors" 407)
def B3:Obj:=nA P (.str "lentgate.errors" 407) 466 90 [] 471 208 [e1 P "__doc__" 472 (.none)] 2
def B0:Obj:=jG "NoRule" (.ref 173) [.ref 173] 209 [] 201 459
def BZ:Obj:=sU 210
def BY:Obj:=iS 210
def BX:Obj:=jG "GateError" (.type "ValueError") [] 172 [.ref 186,.ref 198,.ref 210,.ref 222] 164 409
def BW:Obj:=nB P (.str "lentgate.errors" 407) "NoPlan" 482 92 [] 487 220
def BV:Obj:=cC "NoPlan" 477 92 216
def BU:Obj:=i0 215 (.str "lentgate.errors" 407)
def BS:Obj:=nA P (.str "lentgate.errors" 407) 482 92 [] 487 220 [e1 P "__doc__" 488 (.none)] 2
def BR:Obj:=jG "NoPlan" (.ref 173) [.ref 173] 221 [] 213 475
def BQ:Obj:=sU 222
def BP:Obj:=iS 222
def BO:Obj:=tup [.str "door" 493,.str "place" 494,.str "talk" 495]
def CL:Obj:=tup [.str "all" 497,.str "place" 498,.str "talk" 499]
def CK:Obj:=tup [.str "next" 501,.str "keep" 502]
def pN:Obj:=eJ [e1 P "note" 510 (.int 0 511),e1 P "asked" 512 (.int 1 513),e1 P "called" 514 (.int 1 515),e1 P "up" 516 (.int 2 517),e1 P "near" 518 (.int 2 519),e1 P "far" 520 (.int 2 521)] 6
def Mp:Obj:=gR "is_times" "is_times" (top 50)
def CJ:Obj:=cF "is_times" "is_times" 537 104 1 236
def CI:Obj:=gC "is_times" "is_times" (top 50) p8 (.ref 239)
def CG:Obj:=tup [.str "house" 583,.none,.str "open" 584]
def CF:Obj:=tup [.str "house" 586,.str "asked" 587,.str "open" 588]
def CD:Obj:=tup [.str "house" 590,.str "called" 591,.str "open" 592]
def CC:Obj:=tup [.str "house" 594,.str "up" 595,.str "say" 596]
def CB:Obj:=tup [.str "house" 598,.str "far" 599,.str "say" 600]
def CA:Obj:=tup [.str "house" 602,.str "up" 603,.str "close" 604]
def Cz:Obj:=tup [.str "house" 606,.str "far" 607,.str "close" 608]
def Cy:Obj:=tup [.str "far" 610,.none,.str "open" 611]
def Cw:Obj:=tup [.str "far" 613,.str "called" 614,.str "open" 615]
def Cv:Obj:=tup [.str "far" 617,.str "asked" 618,.str "open" 619]
def Cu:Obj:=tup [.str "far" 621,.str "up" 622,.str "say" 623]
def Ct:Obj:=tup [.str "far" 625,.str "near" 626,.str "say" 627]
def Cs:Obj:=tup [.str "far" 629,.str "up" 630,.str "close" 631]
def Cr:Obj:=tup [.str "far" 633,.str "near" 634,.str "close" 635]
def Cq:Obj:=tup [.str "asked" 694,.str "called" 695,.str "up" 696,.str "near" 697,.str "far" 698]
noncomputable def Jw:List (String×Nat×Nat):=[("__init__",747,312),("tell",760,319),("stands",768,326),("drop",776,333),("door_for",792,340),("listed",799,347)]
def Cp:Obj:=nB P i6 "Rules" 736 145 Jw 802 348
def Mo:Obj:=p6 [(147,311),(151,318),(157,325),(160,332),(163,339),(170,346)]
def Co:Obj:=cC "Rules" 731 145 302
def Cn:Obj:=i0 301 i6
def Cm:Obj:=tup [.str "many_told" 800,.str "standing" 801]
def Ck:Obj:=nF P i6 736 145 Jw 802 348
def Cj:Obj:=pX "Rules" 349 729
def Ci:Obj:=gD 803 350
def J1:Obj:=gW 805 350
def J0:Obj:=sU 350
def JZ:Obj:=iS 350
noncomputable def Jv:List (String×Nat×Nat):=[("__init__",832,368),("has",840,375),("is_free",849,382),("from_mark",856,389),("picked",867,396),("take",875,403),("give",884,410),("resting",890,415),("many_free",896,420)]
def JY:Obj:=nB P gJ "Pool" 819 173 Jv 902 421
def Mn:Obj:=p6 [(175,367),(182,374),(185,381),(190,388),(193,395),(201,402),(207,409),(211,414),(214,419)]
def JX:Obj:=cC "Pool" 814 173 358
def JW:Obj:=i0 357 gJ
def Mm:Obj:=gR "resting" "Pool.resting" (sub (top 63) 7)
def JV:Obj:=cF "resting" "Pool.resting" 885 211 2 411
def JU:Obj:=gC "resting" "Pool.resting" (sub (top 63) 7) gJ (.ref 414)
def Ml:Obj:=gR "many_free" "Pool.many_free" (sub (top 63) 8)
def JT:Obj:=cF "many_free" "Pool.many_free" 891 214 2 416
def JS:Obj:=gC "many_free" "Pool.many_free" (sub (top 63) 8) gJ (.ref 419)
def Kr:Obj:=tup [.str "high" 897,.str "low" 898,.str "mark" 899,.str "taken" 900,.str "until" 901]
def Kq:Obj:=nF P gJ 819 173 Jv 902 421
def Kp:Obj:=pX "Pool" 422 812
def Ko:Obj:=gD 903 423
def Kn:Obj:=gW 905 423
def Km:Obj:=sU 423
def Kl:Obj:=iS 423
noncomputable def Ju:List (String×Nat×Nat):=[("__init__",934,441)]
def Kk:Obj:=nB P eK "Talk" 919 217 Ju 939 442
def Mj:Obj:=p6 [(219,440)]
def Kj:Obj:=cC "Talk" 914 217 431
def Ki:Obj:=i0 430 eK
def Kh:Obj:=tup [.str "inner" 935,.str "number" 936,.str "over" 937,.str "state" 938]
def Kg:Obj:=nF P eK 919 217 Ju 939 442
def Kf:Obj:=pX "Talk" 443 912
def Ke:Obj:=gD 940 444
def Kd:Obj:=gW 942 444
def Kc:Obj:=sU 444
def Kb:Obj:=iS 444
noncomputable def Jt:List (String×Nat×Nat):=[("__init__",966,462),("of_inner",974,469),("of_outer",985,476),("is_with",991,481),("living",998,488),("is_living",1006,495),("number_of",1014,502),("holder_at",1022,509),("held",1028,514),("lent_until",1036,521),("lend",1046,528),("end_lend",1055,535),("begin",1071,542),("lead",1080,549),("end",1095,556),("pass_by",1101,561)]
def Ka:Obj:=nB P eK "Talks" 954 224 Jt 1109 562
def Mi:Obj:=p6 [(226,461),(235,468),(238,475),(243,480),(246,487),(249,494),(252,501),(255,508),(258,513),(261,520),(264,527),(270,534),(275,541),(283,548),(290,555),(301,560)]
def J9:Obj:=cC "Talks" 949 224 452
def J8:Obj:=i0 451 eK
def Mh:Obj:=gR "is_with" "Talks.is_with" (sub (top 66) 3)
def J7:Obj:=cF "is_with" "Talks.is_with" 986 243 3 477
def J6:Obj:=gC "is_with" "Talks.is_with" (sub (top 66) 3) eK (.ref 480)
def Mg:Obj:=gR "held" "Talks.held" (sub (top 66) 8)
def J5:Obj:=cF "held" "Talks.held" 1023 258 2 510
def J4:Obj:=gC "held" "Talks.held" (sub (top 66) 8) eK (.ref 513)
def Mf:Obj:=gR "pass_by" "Talks.pass_by" (sub (top 66) 15)
def J3:Obj:=cF "pass_by" "Talks.pass_by" 1096 301 2 557
def J2:Obj:=gC "pass_by" "Talks.pass_by" (sub (top 66) 15) eK (.ref 560)
def KZ:Obj:=tup [.str "by_inner" 1102,.str "by_number" 1103,.str "form" 1104,.str "holders" 1105,.str "now" 1106,.str "numbers" 1107,.str "pool" 1108]
def KY:Obj:=nF P eK 954 224 Jt 1109 562
def KW:Obj:=pX "Talks" 563 947
def KU:Obj:=gD 1110 564
def KS:Obj:=gW 1112 564
def KR:Obj:=sU 564
def KQ:Obj:=iS 564
noncomputable def Js:List (String×Nat×Nat):=[("__init__",1138,582),("deed",1147,589),("out",1161,596),("come",1174,603),("lost",1186,610),("wait",1194,617),("rule",1206,624),("unrule",1214,631),("moment",1221,638),("free",1228,645),("lends",1235,652),("talks",1242,659),("rests",1249,666),("rules",1256,673),("book",1263,680),("answered",1278,687),("sent",1295,694),("lead_out",1306,701),("begin_out",1316,708),("picked_for",1326,715),("come_in",1339,722),("lead_in",1355,729),("sifted",1366,736),("lets_note_in",1376,743),("come_by_rule",1393,750),("told_lost",1407,757),("rule_told",1420,764),("rule_dropped",1428,771)]
def KP:Obj:=nB P cD "Gate" 1126 307 Js 1434 772
def Me:Obj:=p6 [(309,581),(318,588),(325,595),(328,602),(331,609),(334,616),(337,623),(340,630),(343,637),(346,644),(349,651),(352,658),(355,665),(358,672),(361,679),(364,686),(379,693),(387,700),(397,707),(409,714),(415,721),(423,728),(433,735),(441,742),(445,749),(459,756),(466,763),(472,770)]
def KO:Obj:=cC "Gate" 1121 307 572
def KN:Obj:=i0 571 cD
def KL:Obj:=tup [.str "done" 1429,.str "form" 1430,.str "strangers" 1431,.str "table" 1432,.str "wish" 1433]
def KJ:Obj:=nF P cD 1126 307 Js 1434 772
def KI:Obj:=pX "Gate" 773 1119
def KH:Obj:=gD 1435 774
def KG:Obj:=gW 1437 774
def KD:Obj:=sU 774
def KC:Obj:=iS 774
def KA:Obj:=tup [.str "one" 1454,.str "other" 1455]
def Md:Obj:=gR "is_steps" "is_steps" (top 78)
def Kz:Obj:=cF "is_steps" "is_steps" 1466 487 1 787
def Ky:Obj:=gC "is_steps" "is_steps" (top 78) i7 (.ref 790)
noncomputable def Jr:List (String×Nat×Nat):=[("__init__",1493,805),("write",1502,812)]
def Kx:Obj:=nB P i7 "Side" 1479 491 Jr 1507 813
def Mc:Obj:=p6 [(493,804),(499,811)]
def Kw:Obj:=cC "Side" 1474 491 795
def Kv:Obj:=i0 794 i7
def Ku:Obj:=tup [.str "door" 1503,.str "gate" 1504,.str "known" 1505,.str "place" 1506]
def Kt:Obj:=nF P i7 1479 491 Jr 1507 813
def Ks:Obj:=pX "Side" 814 1472
def JP:Obj:=gD 1508 815
def JO:Obj:=gW 1510 815
def JN:Obj:=sU 815
def JM:Obj:=iS 815
def Mb:Obj:=gR "meets" "meets" (top 82)
def JL:Obj:=cF "meets" "meets" 1539 524 4 834
def JK:Obj:=gC "meets" "meets" (top 82) i7 (.ref 837)
def WD:Obj:=gR "_law_a_form" "_law_a_form" (top 87)
def IJ:Obj:=cF "_law_a_form" "_law_a_form" 1574 547 1 860
def II:Obj:=gC "_law_a_form" "_law_a_form" (top 87) kZ (.ref 863)
def WC:Obj:=gR "_law_due" "_law_due" (top 89)
def IH:Obj:=cF "_law_due" "_law_due" 1588 562 4 872
def IG:Obj:=gC "_law_due" "_law_due" (top 89) kZ (.ref 875)
def WB:Obj:=gR "_law_met" "_law_met" (top 90)
def IF:Obj:=cF "_law_met" "_law_met" 1594 578 1 877
def IE:Obj:=gC "_law_met" "_law_met" (top 90) kZ (.ref 880)
def WA:Obj:=gR "law" "law" (top 91)
def ID:Obj:=cF "law" "law" 1600 581 1 882
def IC:Obj:=gC "law" "law" (top 91) kZ (.ref 885)
def fin(P:Params)(D:Obj):List Obj:=[boot_o_0 P,boot_o_1 P,boot_o_2 P,eJ ((ns P).take 91) 91,boot_o_4 P,boot_o_5 P,boot_o_6 P,boot_o_7 P,boot_o_8 P,boot_o_9 P,boot_o_10 P,v7,bK (tb.take 159),Bb,Lj]++(yF.objs++([Lk,Ll,Lm]++(vb.objs++(vd.objs++(ve.objs++(vf.objs++(vg.objs++(vh.objs++(vi.objs++(vj.objs++(vk.objs++(vm.objs++([v7,v8,Mu,DA,Dz]++(jH.objs++(jI.objs++(jJ.objs++(nv.objs++(jK.objs++(nz.objs++(nE.objs++([pM P]++(jL.objs++(jM.objs++([Dy,fy,Dx P,v7,v8,BN,BM,v7,BL P,BX,BK,BJ,BI,mL,fy,BH P,v7,v8,BG,BF,v7,BE P,Cg,Cf,Ce,mL,fy,Cd P,v7,v8,Cc,Cb,v7,Ca P,B9,B8,B7,mL,fy,B6 P,v7,v8,B5,B4,v7,B3 P,B0,BZ,BY,mL,fy,BW P,v7,v8,BV,BU,v7,BS P,BR,BQ,BP,BO,CL,CK,pN P]++(jN.objs++([v7,v8,Mp,CJ,CI]++(jO.objs++(jP.objs++(jQ.objs++([D,CG,CF,CD,CC,CB,CA,Cz,Cy,Cw,Cv,Cu,Ct,Cs,Cr,Cq]++(jR.objs++(nG.objs++(jS.objs++([v7,fy,Cp P,v7,Mo,Co,Cn]++(jT.objs++(nH.objs++(nI.objs++(nJ.objs++(nK.objs++(nM.objs++([Cm,Ck P,Cj,Ci,J1,J0,JZ,v7,fy,JY P,v7,Mn,JX,JW]++(jU.objs++(jV.objs++(jW.objs++(jX.objs++(jY.objs++(jZ.objs++(j0.objs++([v7,v8,Mm,JV,JU,v7,v8,Ml,JT,JS,Kr,Kq P,Kp,Ko,Kn,Km,Kl,v7,fy,Kk P,v7,Mj,Kj,Ki]++(j4.objs++([Kh,Kg P,Kf,Ke,Kd,Kc,Kb,v7,fy,Ka P,v7,Mi,J9,J8]++(j5.objs++(j6.objs++(j7.objs++([v7,v8,Mh,J7,J6]++(j8.objs++(nN.objs++(j9.objs++(ka.objs++([v7,v8,Mg,J5,J4]++(nO.objs++(kc.objs++(ke.objs++(kf.objs++(kg.objs++(kh.objs++([v7,v8,Mf,J3,J2,KZ,KY P,KW,KU,KS,KR,KQ,v7,fy,KP P,v7,Me,KO,KN]++(kj.objs++(kl.objs++(km.objs++(kn.objs++(nQ.objs++(kq.objs++(nR.objs++(nS.objs++(nT.objs++(nU.objs++(nV.objs++(nW.objs++(nX.objs++(nY.objs++(nZ.objs++(kr.objs++(ku.objs++(ky.objs++(kA.objs++(kC.objs++(kD.objs++(kE.objs++(kF.objs++(kG.objs++(oe.objs++(og.objs++(oh.objs++(oj.objs++([KL,KJ P,KI,KH,KG,KD,KC,KA]++(kH.objs++([v7,v8,Md,Kz,Ky,v7,fy,Kx P,v7,Mc,Kw,Kv]++(kI.objs++(kJ.objs++([Ku,Kt P,Ks,JP,JO,JN,JM]++(kK.objs++(kL.objs++([v7,v8,Mb,JL,JK]++(kM.objs++(kN.objs++(kO.objs++([v7,v8,WD,IJ,II]++(kQ.objs++([v7,v8,WC,IH,IG,v7,v8,WB,IF,IE,v7,v8,WA,ID,IC]))))))))))))))))))))))))))))))))))))))))))))))))))))))))))))))))))))))))))))))))))))))))))))))))))))))))))))))
def jz:List Obj:=fin P default
def uW(P:Params)(os:OsState):SharedT:=⟨treeOf ((((jz P).take 15).set 3 (boot_o_3 P)).set 12 (bK (tb.take 0))),15,{},#[],{},187,os⟩
theorem Uj(w:World)(os:OsState):topGo treeTable p w 11 ann 12 ⟨boot_heap w.2,#[],boot_drawn,boot_toks,os⟩ (topStub p)=some ((uW w.2 os).abs,⟨denote treeTable cd,cd,q0,B⟩):=by kernel_rfl
theorem Su(w:World)(os:OsState):segRun treeTable p w 11 ann 1 1 (uW w.2 os).abs (blockOf body env cd q0 B)=some (.next,(uW w.2 os).abs,cd,q0):=by kernel_rfl
def Bj(P:Params)(os:OsState):SharedT:=⟨treeOf ((((jz P).take 81).set 3 (eJ ((e1 P "__name__" 165 fw)::((ns P).drop 1).take 29) 30)).set 12 (bK (tb.take 27))),81,{},#[],{},282,os⟩
theorem MH(w)(os):segRunT treeTable p w 11 ann 1 391 (uW w.2 os) (piecesOf ((body.drop 0).take 22) env cd q0 B)=some (.next,Bj w.2 os,cd,⟨31,0,32,25⟩):=by
 walk_at "w9"
def yw(P:Params)(os:OsState):SharedT:=⟨treeOf ((((jz P).take 149).set 3 (eJ ((e1 P "__name__" 165 fw)::((ns P).drop 1).take 39) 40)).set 12 (bK (tb.take 57))),149,{},#[],{},378,os⟩
theorem MG(w)(os):segRunT treeTable p w 11 ann 1 315 (Bj w.2 os) (piecesOf ((body.drop 22).take 10) env cd ⟨31,0,32,25⟩ B)=some (.next,yw w.2 os,cd,⟨70,0,71,74⟩):=by
 walk_at "w9"
def yx(P:Params)(os:OsState):SharedT:=⟨treeOf (((((jz P).take 177).set 3 (eJ ((e1 P "__name__" 165 (.str "lentgate.errors" 407))::((ns P).drop 1).take 43) 44)).set 12 (bK (tb.take 66))).set 173 (Mt)),177,{},#[],{},427,os⟩
theorem Wx(w:World)(os:OsState)(b:Bool):segRunT treeTable p (wf w b) 11 ann 1 362 (yw w.2 os) (piecesOf ((body.drop 32).take 5) env cd ⟨70,0,71,74⟩ B)=some (.next,yx w.2 os,cd,⟨84,0,85,8⟩):=by
 rw[PySem.W.Fast.te10110043849684766642,PySem.W.Fast.te14364793385576792824];cases b<;>kernel_rfl
theorem MF(w)(os):segRunT treeTable p w 11 ann 1 362 (yw w.2 os) (piecesOf ((body.drop 32).take 5) env cd ⟨70,0,71,74⟩ B)=some (.next,yx w.2 os,cd,⟨84,0,85,8⟩):=by
 have h:=Wx w os (w.2.followText "special-get-raises");unfold wf at h;rw[World.withFollow_self]at h;exact h
def Bk(P:Params)(os:OsState):SharedT:=⟨treeOf (((((jz P).take 189).set 3 (eJ ((e1 P "__name__" 165 (.str "lentgate.errors" 407))::((ns P).drop 1).take 44) 45)).set 12 (bK (tb.take 69))).set 173 (Ms)),189,{},#[],{},443,os⟩
theorem ME(w)(os):segRunT treeTable p w 11 ann 1 214 (yx w.2 os) (piecesOf ((body.drop 37).take 1) env cd ⟨84,0,85,8⟩ B)=some (.next,Bk w.2 os,cd,⟨86,0,87,8⟩):=by
 walk_at "w9"
def Bl(P:Params)(os:OsState):SharedT:=⟨treeOf (((((jz P).take 201).set 3 (eJ ((e1 P "__name__" 165 (.str "lentgate.errors" 407))::((ns P).drop 1).take 45) 46)).set 12 (bK (tb.take 72))).set 173 (Mr)),201,{},#[],{},459,os⟩
theorem MD(w)(os):segRunT treeTable p w 11 ann 1 214 (Bk w.2 os) (piecesOf ((body.drop 38).take 1) env cd ⟨86,0,87,8⟩ B)=some (.next,Bl w.2 os,cd,⟨88,0,89,8⟩):=by
 walk_at "w9"
def yy(P:Params)(os:OsState):SharedT:=⟨treeOf (((((jz P).take 213).set 3 (eJ ((e1 P "__name__" 165 (.str "lentgate.errors" 407))::((ns P).drop 1).take 46) 47)).set 12 (bK (tb.take 75))).set 173 (Mq)),213,{},#[],{},475,os⟩
theorem MC(w)(os):segRunT treeTable p w 11 ann 1 214 (Bl w.2 os) (piecesOf ((body.drop 39).take 1) env cd ⟨88,0,89,8⟩ B)=some (.next,yy w.2 os,cd,⟨90,0,91,8⟩):=by
 walk_at "w9"
def yz(P:Params)(os:OsState):SharedT:=⟨treeOf ((((jz P).take 229).set 3 (eJ ((e1 P "__name__" 165 p8)::((ns P).drop 1).take 54) 55)).set 12 (bK (tb.take 78))),229,{},#[],{},529,os⟩
theorem Ww(w:World)(os:OsState)(b:Bool):segRunT treeTable p (wf w b) 11 ann 1 388 (yy w.2 os) (piecesOf ((body.drop 40).take 9) env cd ⟨90,0,91,8⟩ B)=some (.next,yz w.2 os,cd,⟨101,0,101,7⟩):=by
 rw[PySem.W.Fast.te10110043849684766642,PySem.W.Fast.te14364793385576792824];cases b<;>kernel_rfl
theorem MB(w)(os):segRunT treeTable p w 11 ann 1 388 (yy w.2 os) (piecesOf ((body.drop 40).take 9) env cd ⟨90,0,91,8⟩ B)=some (.next,yz w.2 os,cd,⟨101,0,101,7⟩):=by
 have h:=Ww w os (w.2.followText "special-get-raises");unfold wf at h;rw[World.withFollow_self]at h;exact h
def yA(P:Params)(os:OsState):SharedT:=⟨treeOf ((((jz P).take 262).set 3 (eJ ((e1 P "__name__" 165 p9)::((ns P).drop 1).take 59) 60)).set 12 (bK (tb.take 93))),262,{},#[],{},583,os⟩
theorem MA(w)(os):segRunT treeTable p w 11 ann 1 170 (yz w.2 os) (piecesOf ((body.drop 49).take 6) env cd ⟨101,0,101,7⟩ B)=some (.next,yA w.2 os,cd,⟨129,0,129,8⟩):=by
 walk_at "w9"
def ob(P:Params)(i:Nat):Obj:=(((((jz P).take 262).set 3 (eJ ((e1 P "__name__" 165 p9)::((ns P).drop 1).take 59) 60)).set 12 (bK (tb.take 93))):List Obj).getD i default
def Dd(es:Array DictEntry)(n:Nat):Obj:=⟨.type "dict",none,.dict es n,#[]⟩
def S(o:Nat->Obj)(os:OsState)(D:Obj)(tk:Nat):SharedT:=⟨((((((((((((((((treeOf ((List.range 262).map o)).ins 262 D).ins 263 (tup [.str "house" 583,.none,.str "open" 584])).ins 264 (tup [.str "house" 586,.str "asked" 587,.str "open" 588])).ins 265 (tup [.str "house" 590,.str "called" 591,.str "open" 592])).ins 266 (tup [.str "house" 594,.str "up" 595,.str "say" 596])).ins 267 (tup [.str "house" 598,.str "far" 599,.str "say" 600])).ins 268 (tup [.str "house" 602,.str "up" 603,.str "close" 604])).ins 269 (tup [.str "house" 606,.str "far" 607,.str "close" 608])).ins 270 (tup [.str "far" 610,.none,.str "open" 611])).ins 271 (tup [.str "far" 613,.str "called" 614,.str "open" 615])).ins 272 (tup [.str "far" 617,.str "asked" 618,.str "open" 619])).ins 273 (tup [.str "far" 621,.str "up" 622,.str "say" 623])).ins 274 (tup [.str "far" 625,.str "near" 626,.str "say" 627])).ins 275 (tup [.str "far" 629,.str "up" 630,.str "close" 631])).ins 276 (tup [.str "far" 633,.str "near" 634,.str "close" 635])),277,{},#[],{},tk,os⟩
def S0(o:Nat->Obj)(os:OsState)(tk:Nat):SharedT:=⟨treeOf ((List.range 262).map o),262,{},#[],{},tk,os⟩
def Bi(o:Nat->Obj)(os:OsState)(tk:Nat):SharedT:=⟨(treeOf ((List.range 262).map o)).ins 262 (Dd #[] 0),263,{},#[],{},tk,os⟩
theorem Wv(P:Params)(os:OsState):yA P os=S0 (ob P) os 583:=by kernel_rfl
def hs(P:Params)(x:Str):Int:=if x.cps.isEmpty then 0 else reduceHash (P.strHash x.cps)
noncomputable def kt:List (List (Option Str)):=[[some "house",none,some "open"],[some "house",some "asked",some "open"],[some "house",some "called",some "open"],[some "house",some "up",some "say"],[some "house",some "far",some "say"],[some "house",some "up",some "close"],[some "house",some "far",some "close"],[some "far",none,some "open"],[some "far",some "called",some "open"],[some "far",some "asked",some "open"],[some "far",some "up",some "say"],[some "far",some "near",some "say"],[some "far",some "up",some "close"],[some "far",some "near",some "close"]]
noncomputable def vt:au:=[.str "asked" 585,.str "asked" 589,.str "up" 593,.str "up" 597,.str "far" 601,.str "near" 605,.str "shut" 609,.str "called" 612,.str "called" 616,.str "up" 620,.str "up" 624,.str "near" 628,.str "far" 632,.str "shut" 636]
def hx(P:Params):Option Str->Int
 |some x=>hs P x
 |none=>hashW P .none
def hi(k:Nat)(P:Params):Int:=Builtin.Tuple.tupleHashOf ((kt.getD k []).map (hx P))
def en(k:Nat)(P:Params):DictEntry:=⟨reduceHash (hi k P),.ref (263+k),vt.getD k .none⟩
def De(k:Nat)(P:Params):Obj:=Dd ((List.range k).map λj=>en j P).toArray k
theorem aM{X:Nat->Prop}(h0:X 0)(h1:X 1)(h2:X 2)(Z:X 3)(h4:X 4)(h5:X 5)(h6:X 6)(h7:X 7)(h8:X 8)(h9:X 9)(I:X 10)(J:X 11)(W:X 12)(Y:X 13):∀k,k<14->X k:=λk hk=>match k,hk with|0,_=>h0|1,_=>h1|2,_=>h2|3,_=>Z|4,_=>h4|5,_=>h5|6,_=>h6|7,_=>h7|8,_=>h8|9,_=>h9|10,_=>I|11,_=>J|12,_=>W|13,_=>Y|n+14,h=>absurd h (by omega)
section
variable(w:World)(b:Bool)(o:Nat->Obj)(os:OsState)(D:Obj)(tk:Nat)(ps:Pos)
abbrev RR(w:World)(b:Bool)(o:Nat->Obj)(os:OsState)(D:Obj)(tk:Nat)(ps:Pos)(n:Nat)(x:Sem α)(a:α):Prop:=Rn p (wf w b) 11 ann cd B n x ps (S o os D tk) a ps (S o os D tk)
local macro_rules | `(tactic| walk_at "h0") => `(tactic| (refine jg fun K H lv => ?_; rw [PySem.W.Fast.te10295753902157049106, PySem.W.Fast.te14364793385576792824]; kernel_rfl))
theorem ru(x:String):RR w b o os D tk ps 1 (rule x) ():=by walk_at "h0"
theorem den(es:Array DictEntry)(n:Nat):Rn p (wf w b) 11 ann cd B 1 (dictEntries 262 none) ps (S o os (Dd es n) tk) es ps (S o os (Dd es n) tk):=by walk_at "h0"
theorem dep(es:Array DictEntry)(n:Nat):Rn p (wf w b) 11 ann cd B 1 (dictEpoch 262 none) ps (S o os (Dd es n) tk) n ps (S o os (Dd es n) tk):=by walk_at "h0"
local macro_rules | `(tactic| walk_at "h1") => `(tactic| (refine jg fun K H lv => ?_; rw [PySem.W.Fast.te10295753902157049106, PySem.W.Fast.te14364793385576792824, PySem.W.Fast.te13066428366354244818]; kernel_rfl))
theorem qu:∀k,k<14->RR w b o os D tk ps 3 (eqIsQuiet 8 (.ref (263+k))) true:=by
 refine aM ?_ ?_ ?_ ?_ ?_ ?_ ?_ ?_ ?_ ?_ ?_ ?_ ?_ ?_<;>walk_at "h1"
local macro_rules | `(tactic| walk_at "h2") => `(tactic| (refine jg fun K H lv => ?_; rw [PySem.W.Fast.te10295753902157049106, PySem.W.Fast.te14364793385576792824, PySem.W.Fast.te13383273872528276517]; kernel_rfl))
theorem ro:∀k,k<14->RR w b o os D tk ps 1 (cRoomFor "hash" [.ref (263+k)]) ():=by
 refine aM ?_ ?_ ?_ ?_ ?_ ?_ ?_ ?_ ?_ ?_ ?_ ?_ ?_ ?_<;>walk_at "h2"
local macro_rules | `(tactic| walk_at "h3") => `(tactic| (refine jg fun K H lv => ?_; rw [PySem.W.Fast.te10295753902157049106, PySem.W.Fast.te14364793385576792824, PySem.W.Fast.te4214721358667687652]; kernel_rfl))
theorem sp:∀k,k<14->RR w b o os D tk ps 1 (specialOf (.ref (263+k)) "__hash__") (some (.builtin "tuple.__hash__")):=by
 refine aM ?_ ?_ ?_ ?_ ?_ ?_ ?_ ?_ ?_ ?_ ?_ ?_ ?_ ?_<;>walk_at "h3"
local macro_rules | `(tactic| walk_at "h4") => `(tactic| (refine jg fun K H lv => ?_; rw [PySem.W.Fast.te10295753902157049106, PySem.W.Fast.te14364793385576792824, PySem.W.Fast.te16697807410369149715]; cases b <;> kernel_rfl))
theorem ca:∀k,k<14->∀E:Sem Value,Rn p (wf w b) 11 ann cd B 29 (callSpecialIfBoundUnlessNone? (.ref (263+k)) "__hash__" E) ps (S o os D tk) (some (.int (hi k w.2) (tk+3))) ps (S o os D (tk+4)):=
 aM (λE=>Rn.more (m1:=27) (by walk_at "h4") (by decide)) (λE=>Rn.more (m1:=29) (by walk_at "h4") (by decide)) (λE=>Rn.more (m1:=29) (by walk_at "h4") (by decide)) (λE=>Rn.more (m1:=29) (by walk_at "h4") (by decide)) (λE=>Rn.more (m1:=29) (by walk_at "h4") (by decide)) (λE=>Rn.more (m1:=29) (by walk_at "h4") (by decide)) (λE=>Rn.more (m1:=29) (by walk_at "h4") (by decide)) (λE=>Rn.more (m1:=27) (by walk_at "h4") (by decide)) (λE=>Rn.more (m1:=29) (by walk_at "h4") (by decide)) (λE=>Rn.more (m1:=29) (by walk_at "h4") (by decide)) (λE=>Rn.more (m1:=29) (by walk_at "h4") (by decide)) (λE=>Rn.more (m1:=29) (by walk_at "h4") (by decide)) (λE=>Rn.more (m1:=29) (by walk_at "h4") (by decide)) (λE=>Rn.more (m1:=29) (by walk_at "h4") (by decide))
local macro_rules | `(tactic| walk_at "h5") => `(tactic| (refine jg fun K H lv => ?_; rw [PySem.W.Fast.te10295753902157049106, PySem.W.Fast.te14364793385576792824, PySem.W.Fast.te11826078720135083572]; kernel_rfl))
theorem up:∀k,k<14->Rn p (wf w b) 11 ann cd B 3 (updateDictKeys 262 (λx=>x.push (en k w.2)) none) ps (S o os (De k w.2) tk) () ps (S o os (De (k+1) w.2) tk):=by
 refine aM ?_ ?_ ?_ ?_ ?_ ?_ ?_ ?_ ?_ ?_ ?_ ?_ ?_ ?_<;>walk_at "h5"
def pj:List (Nat×Nat):=(List.range 14).flatMap λk=>(List.range k).map λj=>(j,k)
noncomputable def cs:List (List Nat):=[[],[26],[26,20],[26,20,20],[26,20,20,20],[26,20,20,24,20],[26,20,20,20,24,20],[16,16,16,16,16,16,16],[16,16,16,16,16,16,16,26],[16,16,16,16,16,16,16,26,20],[16,16,16,16,16,16,16,26,20,20],[16,16,16,16,16,16,16,26,20,20,20],[16,16,16,16,16,16,16,26,20,20,24,20],[16,16,16,16,16,16,16,26,20,20,20,24,20]]
noncomputable def cn (x:Nat×Nat):Nat:=(cs.getD x.2 []).getD x.1 0
theorem Ls:∀x∈pj,RR w b o os D tk ps (cn x) (eqBool (.ref (263+x.1)) (.ref (263+x.2))) false:=UQ λK H lv=>by
 rw[PySem.W.Fast.te10295753902157049106,PySem.W.Fast.te14364793385576792824,PySem.W.Fast.te13926502685295537346];cases b<;>kernel_rfl
theorem Lr:(pj.all λx=>Nat.ble (cn x) 26)=true:=by kernel_rfl
theorem fi(k:Nat)(hk:k<14)(h):Rn p (wf w b) 11 ann cd B 797 (dictFind 262 (.ref (263+k)) h) ps (S o os (De k w.2) tk) none ps (S o os (De k w.2) tk):=
 find_none (m:=26) (L:=14) (by show((List.range k).map _).length<=14;rw[br,List.length_range];omega) (ru _ _ _ _ _ _ _) (den _ _ _ _ _ _ _ _) (dep _ _ _ _ _ _ _ _) ((qu w b o os _ tk ps k hk).more (by decide)) λe W=>by
  obtain⟨j,I,rfl⟩:=bu.mp (show e∈(List.range k).map λj=>en j w.2 from W)
  have I:=rf.mp I;have J:(j,k)∈pj:=List.mem_flatMap.mpr ⟨k,rf.mpr hk,bu.mpr ⟨j,rf.mpr I,rfl⟩⟩;have Y:j<14:=gz I hk;exact⟨⟨263+j,rfl,cW (Nat.add_lt_add_left I _)⟩,(qu w b o os _ tk ps j Y).more (by decide),(Ls w b o os _ tk ps _ J).more (Nat.le_of_ble_eq_true (gB.mp Lr _ J))⟩
theorem se(k:Nat)(hk:k<14):Rn p (wf w b) 11 ann cd B 834 (dictSet 262 (.ref (263+k)) (vt.getD k .none)) ps (S o os (De k w.2) tk) () ps (S o os (De (k+1) w.2) (tk+4)):=
 (To (h:=reduceHash (hi k w.2)) (ru w b o os _ (tk+4) ps) (RL (ru w b o os _ (tk+4) ps) (ro w b o os _ tk ps k hk) (sp w b o os _ tk ps k hk) (ca w b o os _ tk ps k hk)) (fi w b o os (tk+4) ps k hk _) (up w b o os (tk+4) ps k hk)).more (by decide)
end
def vp(k:Nat):Value×Value:=(.ref (263+k),vt.getD k .none)
def vs:List (Value×Value):=(List.range' 0 14).map vp
def DD:Obj:=De 14 P
theorem HK(w)(b)(o:Nat->Obj)(os)(ps)(I:∀k v,f (k,v) ()=(do dictSet 262 k v;pure (.yield ()))):∀j k tk,k+j=14->
 Rn p (wf w b) 11 ann cd B (834*j) (forIn ((List.range' k j).map vp) () f) ps (S o os (De k w.2) tk) () ps (S o os (DD w.2) (tk+4*j))
 |0,k,tk,h=>by rw[show k=14 by omega];exact SU
 |j+1,k,tk,h=>by
  rw[List.range'_succ,bT,show tk+4*(j+1)=(tk+4)+4*j by omega]
  exact(SS (Xj (I _ _) (cE (m2:=0) (se w b o os tk ps k (by omega)) gg)) (HK w b o os ps I j (k+1) (tk+4) (by omega))).more (by omega)
theorem Ry(w)(b)(o:Nat->Obj)(os)(tk)(ps)(I:∀k v,f (k,v) ()=(do dictSet 262 k v;pure (.yield ()))):
 Rn p (wf w b) 11 ann cd B 11676 (forIn vs () f) ps (S o os (De 0 w.2) tk) () ps (S o os (DD w.2) (tk+56)):=HK w b o os ps I 14 0 tk rfl
def st:Stmt:=body[55]
noncomputable def uf:List (Option PySem.Expr):=match st with| .Assign _ (.Dict ks _ _) _=>ks|_=>[]
noncomputable def ue:List PySem.Expr:=match st with| .Assign _ (.Dict _ vs _) _=>vs|_=>[]
def lH:Pos:=match st with| .Assign _ (.Dict _ _ q) _=>q|_=>default
def iA:Pos:=match st with| .Assign _ _ q=>q|_=>default
def pC:Pos:=⟨130,0,130,10⟩
theorem MO:st= .Assign [.Name "LINE_STEPS" pC] (.Dict uf ue lH) iA:=by kernel_rfl
noncomputable def ae:List (Option (Sem Value)×Sem Value):=(evalEachOpt uf env).zip ((evalEach ue env).map λv=>do let x<-v;standAt lH;pure x)
noncomputable def yW:List (Sem Value×Sem Value):=ae.filterMap λx=>x.1.map λk=>(k,x.2)
theorem Yj:exec st env=(do
 standAt iA
 let v<-eval (.Dict uf ue lH) env
 standAt pC
 bindName env "LINE_STEPS" v
 pure .next):=by rw[MO];exact exec_Assign_Name env "LINE_STEPS" pC (.Dict uf ue lH) iA (by kernel_rfl)
theorem dq:eval (.Dict uf ue lH) env=(do standAt lH;dictDisplay ae):=by kernel_rfl
theorem dd:dictDisplay ae=((subDict yW >>= λd=>pure (some d)) >>= λo=>match o with|some d=>pure (.ref d)|none=>newDict):=by kernel_rfl
theorem VE(w)(o:Nat->Obj)(os)(tk)(ps)(I:∀k v,f (k,v) ()=(do dictSet 262 k v;pure (.yield ()))):
 Rn p w 11 ann cd B 11676 (forIn vs () f) ps (S o os (De 0 w.2) tk) () ps (S o os (DD w.2) (tk+56)):=by
 have h:=Ry w (w.2.followText "special-get-raises") o os tk ps I;unfold wf at h;rw[World.withFollow_self]at h;exact h
theorem at_{w:World}{s:SharedT}{ps ps':Pos}:Rn p w 11 ann cd B 1 (standAt ps') ps s () ps' s:=jg λK H lv=>by kernel_rfl
theorem al{w:World}{o:Nat->Obj}{os:OsState}{tk:Nat}{ps:Pos}:Rn p w 11 ann cd B 1 (alloc { cls:=.type "dict",data:=.dict #[] }) ps (S0 o os tk) 262 ps (Bi o os tk):=jg λK H lv=>by kernel_rfl
theorem ev{w:World}{o:Nat->Obj}{os:OsState}{ps:Pos}:Rn p w 11 ann cd B 96 (evalPairs yW) ps (Bi o os 583) vs lH (S o os (De 0 w.2) 637):=jg λK H lv=>by
 rw[PySem.W.Fast.te10295753902157049106,PySem.W.Fast.te14364793385576792824];kernel_rfl
theorem sub{w:World}{o:Nat->Obj}{os:OsState}{ps:Pos}:Rn p w 11 ann cd B 11773 (subDict yW) ps (S0 o os 583) 262 lH (S o os (DD w.2) 693):=by
 unfold subDict;refine Rn.more (m1:=1+(96+(11676+0)+0)) (cE al (cE (a:=()) (sF ?_) gg)) (by decide)
 rw[if_pos (Nat.le_of_ble_eq_true (by kernel_rfl))]
 refine cE ev (sF ?_);exact cE (VE w o os 637 lH (λ_ _=>rfl)) gg
def rD(P:Params)(os:OsState)(D:Obj):SharedT:=⟨treeOf ((((fin P D).take 277).set 3 (eJ ((e1 P "__name__" 165 p9)::((ns P).drop 1).take 60) 61)).set 12 (bK (tb.take 93))),277,{},#[],{},694,os⟩
theorem bn{w:World}{os:OsState}{D:Obj}{ps:Pos}:Rn p w 11 ann cd B 6 (bindName env "LINE_STEPS" (.ref 262)) ps (S (ob w.2) os D 693) () ps (rD w.2 os D):=jg λK H lv=>by
 rw[PySem.W.Fast.te10295753902157049106,PySem.W.Fast.te14364793385576792824];kernel_rfl
theorem Wl{w:World}{os:OsState}{ps:Pos}:Rn p w 11 ann cd B 11782 (execs [st] env) ps (S0 (ob w.2) os 583) .next pC (rD w.2 os (DD w.2)):=by
 rw[execs_cons,Yj,dq,dd];refine Rn.more (m1:=(1+((1+((11773+0)+0))+(1+(6+0))))+0) (cE (a:=.next) (cE at_ (cE (cE at_ (cE (cE sub gg) gg)) (cE at_ (cE bn gg)))) ?_) (by decide)
 exact gg
theorem Mz(w:World)(os:OsState):segRunT treeTable p w 11 ann 1 11783 (yA w.2 os) (piecesOf [st] env cd ⟨129,0,129,8⟩ B)=some (.next,rD w.2 os (DD w.2),cd,pC):=by
 rw[Wv];obtain⟨n,J,h⟩:=Wl (w:=w) (os:=os) (ps:=⟨129,0,129,8⟩) doneF deadEnd id;have e:=Gq (m:=1) (r:=(.next,rD w.2 os (DD w.2),cd,pC)) h rfl;have I:=FO (11782-n) e;rw[show n+1+(11782-n)=11783 by omega]at I
 exact I
def Bm(P:Params)(os:OsState)(D:Obj):SharedT:=⟨treeOf ((((fin P D).take 299).set 3 (eJ ((e1 P "__name__" 165 i6)::((ns P).drop 1).take 64) 65)).set 12 (bK (tb.take 102))),299,{},#[],{},729,os⟩
theorem My(w)(os)(D):segRunT treeTable p w 11 ann 1 118 (rD w.2 os D) (piecesOf ((body.drop 56).take 5) env cd pC B)=some (.next,Bm w.2 os D,cd,⟨144,0,144,8⟩):=by
 walk_at "w9"
def D1(P:Params)(os:OsState)(D:Obj):SharedT:=⟨treeOf ((((fin P D).take 355).set 3 (eJ ((e1 P "__name__" 165 i6)::((ns P).drop 1).take 65) 66)).set 12 (bK (tb.take 105))),355,{},#[],{},810,os⟩
theorem V5(w)(os)(D):segRunT treeTable p w 11 ann 1 395 (Bm w.2 os D) (piecesOf ((body.drop 61).take 1) env cd ⟨144,0,144,8⟩ B)=some (.next,D1 w.2 os D,cd,⟨145,0,171,16⟩):=by
 walk_at "w9"
def DZ(P:Params)(os:OsState)(D:Obj):SharedT:=⟨treeOf ((((fin P D).take 355).set 3 (eJ ((e1 P "__name__" 165 gJ)::((ns P).drop 1).take 65) 66)).set 12 (bK (tb.take 105))),355,{},#[],{},812,os⟩
theorem V4(w)(os)(D):segRunT treeTable p w 11 ann 1 10 (D1 w.2 os D) (piecesOf ((body.drop 62).take 1) env cd ⟨145,0,171,16⟩ B)=some (.next,DZ w.2 os D,cd,⟨172,0,172,8⟩):=by
 walk_at "w9"
def DY(P:Params)(os:OsState)(D:Obj):SharedT:=⟨treeOf ((((fin P D).take 428).set 3 (eJ ((e1 P "__name__" 165 gJ)::((ns P).drop 1).take 66) 67)).set 12 (bK (tb.take 108))),428,{},#[],{},910,os⟩
theorem V3(w)(os)(D):segRunT treeTable p w 11 ann 1 480 (DZ w.2 os D) (piecesOf ((body.drop 63).take 1) env cd ⟨172,0,172,8⟩ B)=some (.next,DY w.2 os D,cd,⟨173,0,215,105⟩):=by
 walk_at "w9"
def DX(P:Params)(os:OsState)(D:Obj):SharedT:=⟨treeOf ((((fin P D).take 449).set 3 (eJ ((e1 P "__name__" 165 eK)::((ns P).drop 1).take 67) 68)).set 12 (bK (tb.take 111))),449,{},#[],{},947,os⟩
theorem V2(w)(os)(D):segRunT treeTable p w 11 ann 1 238 (DY w.2 os D) (piecesOf ((body.drop 64).take 2) env cd ⟨173,0,215,105⟩ B)=some (.next,DX w.2 os D,cd,⟨217,0,223,24⟩):=by
 walk_at "w9"
def DW(P:Params)(os:OsState)(D:Obj):SharedT:=⟨treeOf ((((fin P D).take 569).set 3 (eJ ((e1 P "__name__" 165 eK)::((ns P).drop 1).take 68) 69)).set 12 (bK (tb.take 114))),569,{},#[],{},1117,os⟩
theorem V1(w)(os)(D):segRunT treeTable p w 11 ann 1 718 (DX w.2 os D) (piecesOf ((body.drop 66).take 1) env cd ⟨217,0,223,24⟩ B)=some (.next,DW w.2 os D,cd,⟨224,0,305,37⟩):=by
 walk_at "w9"
def DV(P:Params)(os:OsState)(D:Obj):SharedT:=⟨treeOf ((((fin P D).take 569).set 3 (eJ ((e1 P "__name__" 165 cD)::((ns P).drop 1).take 68) 69)).set 12 (bK (tb.take 114))),569,{},#[],{},1119,os⟩
theorem V0(w)(os)(D):segRunT treeTable p w 11 ann 1 10 (DW w.2 os D) (piecesOf ((body.drop 67).take 1) env cd ⟨224,0,305,37⟩ B)=some (.next,DV w.2 os D,cd,⟨306,0,306,8⟩):=by
 walk_at "w9"
def CU(P:Params)(os:OsState)(D:Obj):SharedT:=⟨treeOf ((((fin P D).take 779).set 3 (eJ ((e1 P "__name__" 165 cD)::((ns P).drop 1).take 69) 70)).set 12 (bK (tb.take 117))),779,{},#[],{},1442,os⟩
theorem VZ(w)(os)(D):segRunT treeTable p w 11 ann 1 1165 (DV w.2 os D) (piecesOf ((body.drop 68).take 1) env cd ⟨306,0,306,8⟩ B)=some (.next,CU w.2 os D,cd,⟨307,0,476,19⟩):=by
 walk_at "w9"
def CT(P:Params)(os:OsState)(D:Obj):SharedT:=⟨treeOf ((((fin P D).take 820).set 3 (eJ ((e1 P "__name__" 165 i7)::((ns P).drop 1).take 79) 80)).set 12 (bK (tb.take 126))),820,{},#[],{},1515,os⟩
theorem VY(w)(os)(D):segRunT treeTable p w 11 ann 1 391 (CU w.2 os D) (piecesOf ((body.drop 69).take 11) env cd ⟨307,0,476,19⟩ B)=some (.next,CT w.2 os D,cd,⟨491,0,500,77⟩):=by
 walk_at "w9"
def CS(P:Params)(os:OsState)(D:Obj):SharedT:=⟨treeOf ((fin P D).take 887),887,{},#[],{},1606,os⟩
theorem Wy(w)(os)(D):segRunT treeTable p w 11 ann 1 331 (CT w.2 os D) (piecesOf ((body.drop 80).take 12) env cd ⟨491,0,500,77⟩ B)=some (.next,CS w.2 os D,cd,⟨581,0,597,15⟩):=by
 walk_at "w9"
def TF:BT:=(CS P default (DD P)).tree
def H1:Heap:=absHeap (TF P) 887 {}
theorem Ud:body=((body.drop 0).take 22)++(((body.drop 22).take 10)++(((body.drop 32).take 5)++(((body.drop 37).take 1)++(((body.drop 38).take 1)++(((body.drop 39).take 1)++(((body.drop 40).take 9)++(((body.drop 49).take 6)++([st]++(((body.drop 56).take 5)++(((body.drop 61).take 1)++(((body.drop 62).take 1)++(((body.drop 63).take 1)++(((body.drop 64).take 2)++(((body.drop 66).take 1)++(((body.drop 67).take 1)++(((body.drop 68).take 1)++(((body.drop 69).take 11)++(((body.drop 80).take 12)++ [])))))))))))))))))):=by kernel_rfl
theorem run_eq(w:World)(os:OsState):topRun treeTable p w 11 ann (12+(1+(391+(315+(362+(214+(214+(214+(388+(170+(11783+(118+(395+(10+(480+(238+(718+(10+(1165+(391+(331+2))))))))))))))))))))) ⟨boot_heap w.2,#[],boot_drawn,boot_toks,os⟩ (topStub p)=some ⟨H1 w.2,#[],{},1606,os⟩:=by
 refine go_top (Uj w os) (piece_block (Su w os) ?_);show topRun treeTable p w 11 ann _ _ (restOf body env cd q0 B)=_;rw[Ud];refine piece_app (segRun_of (MH w os)) ?_;refine piece_app (segRun_of (MG w os)) ?_;refine piece_app (segRun_of (MF w os)) ?_;refine piece_app (segRun_of (ME w os)) ?_;refine piece_app (segRun_of (MD w os)) ?_;refine piece_app (segRun_of (MC w os)) ?_;refine piece_app (segRun_of (MB w os)) ?_;refine piece_app (segRun_of (MA w os)) ?_;refine piece_app (segRun_of (Mz w os)) ?_;refine piece_app (segRun_of (My w os _)) ?_;refine piece_app (segRun_of (V5 w os _)) ?_;refine piece_app (segRun_of (V4 w os _)) ?_;refine piece_app (segRun_of (V3 w os _)) ?_;refine piece_app (segRun_of (V2 w os _)) ?_;refine piece_app (segRun_of (V1 w os _)) ?_;refine piece_app (segRun_of (V0 w os _)) ?_;refine piece_app (segRun_of (VZ w os _)) ?_;refine piece_app (segRun_of (VY w os _)) ?_;refine piece_app (segRun_of (Wy w os _)) ?_;kernel_rfl
noncomputable def q:Program:=view p [0,2,3,4,5,6,7,8,9,10,11,12,13,14,15,16,17,18,19,20,21,22,23,24,25,26,27,28,29,30,31,32,33,34,36,37,38,39,40,42,43,44,45,46,47,48,49,50,51,52,53,55,56,57,58,59,61,63,65,66,68,70,71,72,73,74,75,76,77,78,79,80,81,82,84,85,86,87,88,89,90,91]
def loose:az:=["DEEDS","TIME_AT","LINE_STEPS"]
noncomputable def BB:List Addr:=[2,3,4,6,20,21,22,23,24,30,31,37,38,44,45,51,52,58,59,65,66,72,73,79,80,86,87,93,94,95,98,99,105,106,112,113,119,120,126,127,133,134,140,141,147,148,149,155,156,162,163,164,165,166,167,169,170,171,172,173,174,175,176,177,178,179,180,182,183,184,185,186,187,188,189,190,191,192,194,195,196,197,198,199,200,201,202,203,204,206,207,208,209,210,211,212,213,214,215,216,218,219,220,221,222,223,224,225,226,227,228,234,235,236,239,240,246,247,253,254,260,261,262,263,264,265,266,267,268,269,270,271,272,273,274,275,276,277,283,284,290,291,297,298,299,300,301,302,304,305,311,312,318,319,325,326,332,333,339,340,346,347,348,349,350,351,352,353,354,355,356,357,358,360,361,367,368,374,375,381,382,388,389,395,396,402,403,409,410,411,414,415,416,419,420,421,422,423,424,425,426,427,428,429,430,431,433,434,440,441,442,443,444,445,446,447,448,449,450,451,452,454,455,461,462,468,469,475,476,477,480,481,487,488,494,495,501,502,508,509,510,513,514,520,521,527,528,534,535,541,542,548,549,555,556,557,560,561,562,563,564,565,566,567,568,569,570,571,572,574,575,581,582,588,589,595,596,602,603,609,610,616,617,623,624,630,631,637,638,644,645,651,652,658,659,665,666,672,673,679,680,686,687,693,694,700,701,707,708,714,715,721,722,728,729,735,736,742,743,749,750,756,757,763,764,770,771,772,773,774,775,776,777,778,779,785,786,787,790,791,792,793,794,795,797,798,804,805,811,812,813,814,815,816,817,818,819,825,826,832,833,834,837,838,844,845,851,852,858,859,860,863,864,870,871,872,875,876,877,880,881,882,885,886]
noncomputable def ks:List Addr:=BB++ [558]
def K0:Frag:=BB.zip (boot_o_2 P::eJ ((ns P).take 91) 91::boot_o_4 P::boot_o_6 P::yF.co::yF.fn::Lk::Ll::Lm::vb.co::vb.fn::vd.co::vd.fn::ve.co::ve.fn::vf.co::vf.fn::vg.co::vg.fn::vh.co::vh.fn::vi.co::vi.fn::vj.co::vj.fn::vk.co::vk.fn::vm.co::vm.fn::v7::DA::Dz::jH.co::jH.fn::jI.co::jI.fn::jJ.co::jJ.fn::nv.co::nv.fn::jK.co::jK.fn::nz.co::nz.fn::nE.co::nE.fn::pM P::jL.co::jL.fn::jM.co::jM.fn::Dy::fy::Dx P::v7::BN::BM::v7::BL P::BX::BK::BJ::BI::mL::fy::BH P::v7::BG::BF::v7::BE P::Cg::Cf::Ce::mL::fy::Cd P::v7::Cc::Cb::v7::Ca P::B9::B8::B7::mL::fy::B6 P::v7::B5::B4::v7::B3 P::B0::BZ::BY::mL::fy::BW P::v7::BV::BU::v7::BS P::BR::BQ::BP::BO::CL::CK::pN P::jN.co::jN.fn::v7::CJ::CI::jO.co::jO.fn::jP.co::jP.fn::jQ.co::jQ.fn::DD P::CG::CF::CD::CC::CB::CA::Cz::Cy::Cw::Cv::Cu::Ct::Cs::Cr::Cq::jR.co::jR.fn::nG.co::nG.fn::jS.co::jS.fn::v7::fy::Cp P::v7::Co::Cn::jT.co::jT.fn::nH.co::nH.fn::nI.co::nI.fn::nJ.co::nJ.fn::nK.co::nK.fn::nM.co::nM.fn::Cm::Ck P::Cj::Ci::J1::J0::JZ::v7::fy::JY P::v7::JX::JW::jU.co::jU.fn::jV.co::jV.fn::jW.co::jW.fn::jX.co::jX.fn::jY.co::jY.fn::jZ.co::jZ.fn::j0.co::j0.fn::v7::JV::JU::v7::JT::JS::Kr::Kq P::Kp::Ko::Kn::Km::Kl::v7::fy::Kk P::v7::Kj::Ki::j4.co::j4.fn::Kh::Kg P::Kf::Ke::Kd::Kc::Kb::v7::fy::Ka P::v7::J9::J8::j5.co::j5.fn::j6.co::j6.fn::j7.co::j7.fn::v7::J7::J6::j8.co::j8.fn::nN.co::nN.fn::j9.co::j9.fn::ka.co::ka.fn::v7::J5::J4::nO.co::nO.fn::kc.co::kc.fn::ke.co::ke.fn::kf.co::kf.fn::kg.co::kg.fn::kh.co::kh.fn::v7::J3::J2::KZ::KY P::KW::KU::KS::KR::KQ::v7::fy::KP P::v7::KO::KN::kj.co::kj.fn::kl.co::kl.fn::km.co::km.fn::kn.co::kn.fn::nQ.co::nQ.fn::kq.co::kq.fn::nR.co::nR.fn::nS.co::nS.fn::nT.co::nT.fn::nU.co::nU.fn::nV.co::nV.fn::nW.co::nW.fn::nX.co::nX.fn::nY.co::nY.fn::nZ.co::nZ.fn::kr.co::kr.fn::ku.co::ku.fn::ky.co::ky.fn::kA.co::kA.fn::kC.co::kC.fn::kD.co::kD.fn::kE.co::kE.fn::kF.co::kF.fn::kG.co::kG.fn::oe.co::oe.fn::og.co::og.fn::oh.co::oh.fn::oj.co::oj.fn::KL::KJ P::KI::KH::KG::KD::KC::KA::kH.co::kH.fn::v7::Kz::Ky::v7::fy::Kx P::v7::Kw::Kv::kI.co::kI.fn::kJ.co::kJ.fn::Ku::Kt P::Ks::JP::JO::JN::JM::kK.co::kK.fn::kL.co::kL.fn::v7::JL::JK::kM.co::kM.fn::kN.co::kN.fn::kO.co::kO.fn::v7::IJ::II::kQ.co::kQ.fn::v7::IH::IG::v7::IF::IE::v7::ID::IC::[])
def K:Frag:=K0 P++ [(558,v8)]
theorem gI(P:Params):ks=(K P).map (·.1):=by kernel_rfl
def Hk:Hook:=kHook K ks gI
def Xt(s:Shared):Bool:=xlAt q [] s&&recOk [] s
def NN:Nat:=1000000
theorem size_eq(w:World):((boot_heap w.2).isNs mainGlobals&&(#[]:Array GenState).size==0,(boot_heap w.2).objs.size,(boot_heap w.2).nsMap mainGlobals "__annotations__")=(true,11,ann):=by kernel_rfl
theorem LZ:opening p=plainProg p.main.scope.names:=by kernel_rfl
theorem L0(s:Shared):fenceModules? p s=some s:=by kernel_rfl
theorem WV(w:World)(os:OsState):(staticsOk (importedModules p.main.body) (boot_heap w.2) (H1 w.2)&&namesBound p (H1 w.2)&&gensDone ⟨H1 w.2,#[],{},1606,os⟩&&laidKept (boot_heap w.2) (H1 w.2))=true:=by kernel_rfl
theorem LA(w:World)(os:OsState):PyProof.Rows.seen (List.map (λx=>x.name) (recsOf q)) (ownsOf q) [] ⟨H1 w.2,#[],{},1606,os⟩=expectedOf q:=by rw[PySem.W.Fast.te5160383126252970620];kernel_rfl
theorem LB(w:World)(os:OsState):(H1 w.2).bltView=bltViewBooted:=by kernel_rfl
theorem LC(w:World)(os:OsState):(H1 w.2).keysOk (looseW q loose) (List.map (λx=>x.name) (recsOf q)) (List.map (λx=>x.fst) (litsOf q)) (List.map (λx=>x.name) (clssOf q (looseW q loose)))=true:=by rw[PySem.W.Fast.te10880121769531294198];kernel_rfl
theorem LD(w:World)(os:OsState):(H1 w.2).accountedOkI (importedModules p.main.body)=true:=by rw[PySem.W.Fast.te14722251495701143533];kernel_rfl
theorem LF(w:World)(os:OsState):((H1 w.2).isNs mainGlobals&&(H1 w.2).isNs builtinsNs)=true:=by kernel_rfl
theorem LG(w:World)(os:OsState):tablesOk q (H1 w.2)=true:=by rw[PySem.W.Fast.te10994771534591457954];kernel_rfl
theorem LH(w:World)(os:OsState):Xt ⟨H1 w.2,#[],{},1606,os⟩=true:=by kernel_rfl
theorem LI(w:World)(os:OsState):tabsOk q ⟨H1 w.2,#[],{},1606,os⟩=true:=by rw[PySem.W.Fast.te479339242167458305];kernel_rfl
theorem LJ(w:World)(os:OsState):pinSeenD q (drecsOf q) ⟨H1 w.2,#[],{},1606,os⟩=pinGoodD (drecsOf q):=by kernel_rfl
theorem LK(w:World)(os:OsState):plainSeenE q (looseW q loose) ⟨H1 w.2,#[],{},1606,os⟩=plainGoodE q (looseW q loose):=by rw[PySem.W.Fast.te2386780881361962483];kernel_rfl
theorem LL(w:World)(os:OsState):plainSeenD q loose ⟨H1 w.2,#[],{},1606,os⟩=plainGoodD q loose:=by rw[PySem.W.Fast.te11698064438423848299];kernel_rfl
theorem LM(w:World)(os:OsState):wideSeen q ⟨H1 w.2,#[],{},1606,os⟩=wideGood q:=by rw[PySem.W.Fast.te7317090234206586261];kernel_rfl
theorem LN(w:World)(os:OsState):clsSeenW q loose ⟨H1 w.2,#[],{},1606,os⟩=clsGoodW q loose:=by rw[PySem.W.Fast.te7369524293546568484];kernel_rfl
theorem WU(w:World)(os):openSeen q loose (importedModules p.main.body) Xt true ⟨H1 w.2,#[],{},1606,os⟩=openGood q loose:=
 TC (LA w os) (LB w os) (LC w os) (LD w os) (LF w os) (LG w os) (LH w os) (LI w os) (LJ w os) (LK w os) (LL w os) (LM w os) (LN w os)
theorem WT(w:World)(os:OsState):Hk.obs ⟨H1 w.2,#[],{},1606,os⟩=Hk.val w:=by kernel_rfl
theorem left:LeftO p q loose Xt Hk.obs Hk.val NN:=
 LeftO.of_pieces (H₀:=boot_heap) (H₁:=H1) (gs₀:=#[]) (gs₁:=#[]) (d₀:=boot_drawn) (d₁:={}) (k₀:=boot_toks) (k₁:=1606) (m₀:=11) (ann:=ann) (M:=12+(1+(391+(315+(362+(214+(214+(214+(388+(170+(11783+(118+(395+(10+(480+(238+(718+(10+(1165+(391+(331+2))))))))))))))))))))) (boot_open LZ (by decide) L0) size_eq run_eq (by decide)
  λw=>funext λos=>Prod.ext (WV w os) (Prod.ext (WU w os) (WT w os))
end
end H35
namespace R
open PySem PySem.Spec PyProof.Rows L2
section
variable {Γ:G}{σ:bB}{M:RM}{Q:aj}{D:RD}{a b c d e t l h o k r it:T}{i n:Nat}{QB:Bool->RM->Prop}{QA:LR->RM->Prop}{QI:LR->(RM->Prop)->(RM->RM)->RM->Prop}{QP:Option Int->RM->Prop}
def vw(o:Option (Option RV))(Q:RV->Prop):Prop:=match o with|some (some v)=>Q v|_=>False
theorem O8{v:RV}{Q:RV->Prop}:vw (some (some v)) Q=Q v:=rfl
theorem Yo:(tr Γ (.v i)).E σ M Q=vw σ[i]? (λv=>Q v M):=by
 show pq i σ M Q=_;unfold pq vw;rfl
theorem t_i{n:Int}:(tr Γ (.i n)).E σ M Q=Q (.int n) M:=rfl
theorem t_s{x:Str}:(tr Γ (.s x)).E σ M Q=Q (.str x) M:=rfl
theorem t_b{x:Bool}:(tr Γ (.b x)).E σ M Q=Q (.bl x) M:=rfl
theorem t_n:(tr Γ .n).E σ M Q=Q .ak M:=rfl
theorem gj{x:Str}{i:Int}(h:Γ.S.gi.lookup x=some i):(tr Γ (.g x)).E σ M Q=Q (.int i) M:=by
 show(match Γ.S.gi.lookup x with|some i=>rC (.int i)|none=>iL) σ M Q=_
 rw[h];rfl
theorem qCY{x:String}:(tr Γ (.ty x)).E σ M Q=Q (.ty x) M:=rfl
theorem qC7{o:Operator}:(tr Γ (.op o a b)).E σ M Q=(tr Γ a).E σ M λx M1=>(tr Γ b).E σ M1 λy M2=>i5 o x y M2 Q:=rfl
theorem qDn{o:CmpOp}:(tr Γ (.cm o a b)).E σ M Q=(tr Γ a).E σ M λx M1=>(tr Γ b).E σ M1 λy M2=>dm o x y M2 Q:=rfl
def kB(Q:Bool->RM->Prop):aj:=λv M=>match v with| .bl k=>Q k M|_=>False
theorem xq{k:Bool}:kB QB (.bl k) M=QB k M:=rfl
def yM(p:CmpOp)(Γ:G)(c:T)(σ:bB)(y:RV)(Q:aj):aj:=λz I=>match z with
 | .bl k=>if k=true then(tr Γ c).E σ I λw J=>dm p y w J Q else Q (.bl false) I
 |_=>False
theorem oO{k:Bool}{A B:Prop}:((k=true->A)/\(k=false->B))=if k=true then A else B:=by cases k<;>simp
theorem qDo{o p:CmpOp}:(tr Γ (.ch o p a b c)).E σ M Q=(tr Γ a).E σ M λx M1=>(tr Γ b).E σ M1 λy M2=>dm o x y M2 (yM p Γ c σ y Q):=by
 show qy _ _ _ _ _ σ M Q=_;unfold qy yM;simp only[oO]<;>rfl
theorem quS{p:CmpOp}{y:RV}{k:Bool}:yM p Γ c σ y Q (.bl k) M=if k=true then(tr Γ c).E σ M λw I=>dm p y w I Q else Q (.bl false) M:=rfl
theorem T_v:(tr Γ (.v i)).T σ M QB=(tr Γ (.v i)).E σ M (kB QB):=rfl
theorem qFq{o:CmpOp}:(tr Γ (.cm o a b)).T σ M QB=(tr Γ (.cm o a b)).E σ M (kB QB):=rfl
theorem qFr{o p:CmpOp}:(tr Γ (.ch o p a b c)).T σ M QB=(tr Γ (.ch o p a b c)).E σ M (kB QB):=rfl
theorem qFo{c:Nat}{f:Str}:(tr Γ (.fl c f a)).T σ M QB=(tr Γ (.fl c f a)).E σ M (kB QB):=rfl
theorem qFs:(tr Γ (.ca f a)).T σ M QB=(tr Γ (.ca f a)).E σ M (kB QB):=rfl
theorem qFm{f:Nat}:(tr Γ (.me f o a)).T σ M QB=(tr Γ (.me f o a)).E σ M (kB QB):=rfl
theorem qFt:(tr Γ (.bf f a)).T σ M QB=(tr Γ (.bf f a)).E σ M (kB QB):=rfl
theorem qFp{neg:Bool}:(tr Γ (.dn neg k d)).T σ M QB=(tr Γ (.dn neg k d)).E σ M (kB QB):=rfl
theorem qFn{neg:Bool}{x:Str}:(tr Γ (.ic neg a x)).T σ M QB=(tr Γ (.ic neg a x)).E σ M (kB QB):=rfl
theorem qFj{x:Str}:(tr Γ (.tn x a)).T σ M QB=(tr Γ (.tn x a)).E σ M (kB QB):=rfl
theorem T_b{x:Bool}:(tr Γ (.b x)).T σ M QB=QB x M:=rfl
theorem qFu:(tr Γ (.an a b)).T σ M QB=(tr Γ a).T σ M λc M1=>if c=true then(tr Γ b).T σ M1 QB else QB false M1:=by
 show xS _ _ σ M QB=_;unfold xS;simp only[oO]
theorem qFk:(tr Γ (.or a b)).T σ M QB=(tr Γ a).T σ M λc M1=>if c=true then QB true M1 else(tr Γ b).T σ M1 QB:=by
 show yb _ _ σ M QB=_;unfold yb;simp only[oO]
theorem qFl:(tr Γ (.no a)).T σ M QB=(tr Γ a).T σ M λc M1=>QB (!c) M1:=rfl
def vq(N:RM->Prop)(Q:aj):aj:=λx M=>match x with| .bl c=>if c=true then N M else Q (.bl false) M|_=>False
def yN(N:RM->Prop)(Q:aj):aj:=λx M=>match x with| .bl c=>if c=true then Q (.bl true) M else N M|_=>False
theorem mm{N:RM->Prop}{c:Bool}:vq N Q (.bl c) M=if c=true then N M else Q (.bl false) M:=rfl
theorem Sk{N:RM->Prop}{c:Bool}:yN N Q (.bl c) M=if c=true then Q (.bl true) M else N M:=rfl
theorem qDs:(tr Γ (.an a b)).E σ M Q=(tr Γ a).E σ M (vq (λM1=>(tr Γ b).E σ M1 Q) Q):=by
 show xC _ _ σ M Q=_;unfold xC vq;simp only[oO]<;>rfl
theorem qC6:(tr Γ (.or a b)).E σ M Q=(tr Γ a).E σ M (yN (λM1=>(tr Γ b).E σ M1 Q) Q):=by
 show xJ _ _ σ M Q=_;unfold xJ yN;simp only[oO]<;>rfl
def By(Q:aj):aj:=λx M=>match x with| .bl c=>Q (.bl (!c)) M|_=>False
theorem quQ{c:Bool}:By Q (.bl c) M=Q (.bl (!c)) M:=rfl
theorem qC8:(tr Γ (.no a)).E σ M Q=(tr Γ a).E σ M (By Q):=rfl
theorem qDe:(tr Γ (.ie t a b)).E σ M Q=(tr Γ t).T σ M λc M1=>if c=true then(tr Γ a).E σ M1 Q else(tr Γ b).E σ M1 Q:=by
 show ya _ _ _ σ M Q=_;unfold ya;simp only[oO]
theorem qC0:(tr Γ (.tu a)).E σ M Q=(tr Γ a).A σ M λrs M1=>rs.length<=sizeLine/\Q (.tup rs) M1:=rfl
theorem qDc:(tr Γ (.ll a)).E σ M Q=(tr Γ a).A σ M λrs M1=>rs.length<=sizeLine/\Q (.ls rs) M1:=rfl
theorem qDb:(tr Γ (.lm a)).E σ M Q=(tr Γ a).A σ M λrs M1=>rs.length<=sizeLine/\∀p,M1 p=none->Q (.ref p) (put M1 p (.lst rs)):=rfl
theorem L8:(tr Γ .e0).A σ M QA=QA [] M:=rfl
theorem L7:(tr Γ (.ec a r)).A σ M QA=(tr Γ a).E σ M λx M1=>(tr Γ r).A σ M1 λxs M2=>QA (x::xs) M2:=rfl
theorem qDd:(tr Γ (.ix a b)).E σ M Q=(tr Γ a).E σ M λx M1=>(tr Γ b).E σ M1 λy M2=>bz x y M2 Q:=rfl
theorem qC2:(tr Γ (.sl a l h)).E σ M Q=(tr Γ a).E σ M λx M1=>(tr Γ l).P σ M1 λlo M2=>(tr Γ h).P σ M2 λu I=>mK x lo u I Q:=rfl
theorem qC5:(tr Γ .p0).P σ M QP=QP none M:=rfl
def kP(Q:Option Int->RM->Prop):aj:=λx M=>match x with| .int i=>Q (some i) M|_=>False
theorem quP{i:Int}:kP QP (.int i) M=QP (some i) M:=rfl
theorem qC4:(tr Γ (.p1 a)).P σ M QP=(tr Γ a).E σ M (kP QP):=rfl
theorem qDf{c:Nat}{f:Str}:(tr Γ (.fl c f a)).E σ M Q=(tr Γ a).E σ M (p4 (Γ.C c) f Q):=rfl
theorem qDp:(tr Γ (.ca f a)).E σ M Q=(tr Γ a).A σ M λrs M1=>Γ.fn f rs M1 Q:=rfl
theorem cG{f:Nat}{d:FD}(h:Γ.S.fd[f]? =some d):(tr Γ (.me f o a)).E σ M Q=(tr Γ o).E σ M (oq (Γ.C d.cls) d.name (Γ.fn f) (tr Γ a).A σ Q):=by
 show(match Γ.S.fd[f]? with|some d=>pL (Γ.C d.cls) d.name (Γ.fn f) (tr Γ o).E (tr Γ a).A|none=>iL) σ M Q=_
 rw[h];rfl
theorem qP{f:Nat}{d:FD}(h:Γ.S.fd[f]? =some d):(tr Γ (.mk f a)).E σ M Q=(tr Γ a).A σ M λrs M1=>∀x,M1 x=none->Γ.kX f (.ref x::rs) (put M1 x (.ins (Γ.C d.cls) [])) λv M2=>v= .ak/\Q (.ref x) M2:=by
 show(match Γ.S.fd[f]? with|some d=>qD (Γ.C d.cls) (Γ.kX f) (tr Γ a).A|none=>iL) σ M Q=_
 rw[h];rfl
theorem qDq:(tr Γ (.bf f a)).E σ M Q=(tr Γ a).A σ M λrs M1=>fJ f rs M1 Q:=rfl
theorem L9:(tr Γ (.bt f a)).E σ M Q=(tr Γ a).A σ M λrs M1=>nk f rs M1 Q:=rfl
theorem qDj:(tr Γ (.dg d k)).E σ M Q=(tr Γ d).E σ M λx M1=>(tr Γ k).E σ M1 λy M2=>uw Q x y M2:=rfl
theorem qDh{neg:Bool}:(tr Γ (.dn neg k d)).E σ M Q=(tr Γ k).E σ M λy M1=>(tr Γ d).E σ M1 λx M2=>yf neg Q x y M2:=rfl
theorem qDk:(tr Γ (.d1 d k)).E σ M Q=(tr Γ d).E σ M λx M1=>rM M1 x/\(tr Γ k).E σ M1 λy M2=>ud Q x y .ak M2:=rfl
theorem qDi:(tr Γ .dk).E σ M Q= ∀p,M p=none->Q (.ref p) (put M p (.dk [])):=rfl
theorem qDg:(tr Γ .dt).E σ M Q= ∀p,M p=none->Q (.ref p) (put M p (.dt [])):=rfl
theorem qQ{x:Str}(h:Γ.S.gt.lookup x=some I):(tr Γ (.ic neg a x)).E σ M Q=(tr Γ a).E σ M λx M1=>aB 15 x=true/\Q (.bl (if neg then !inR x (I.map RV.str)else inR x (I.map RV.str))) M1:=by
 show(match Γ.S.gt.lookup x with|some I=>qS neg I (tr Γ a).E|none=>iL) σ M Q=_
 rw[h];rfl
theorem JJ:(tr Γ (.se a b)).S D σ M=(tr Γ a).S { D with nx:=(tr Γ b).S D } σ M:=rfl
theorem qDV:(tr Γ .en).S D σ M=D.nx σ M:=rfl
theorem UK:(tr Γ (.set i a)).S D σ M=(tr Γ a).E σ M λx M1=>D.nx (σ.set i (some x)) M1:=rfl
theorem qDP:(tr Γ (.re a)).S D σ M=(tr Γ a).E σ M D.rt:=rfl
theorem qDS:(tr Γ (.aX t a b)).S D σ M=(tr Γ t).T σ M λc M1=>if c=true then(tr Γ a).S D σ M1 else(tr Γ b).S D σ M1:=by
 show xQ _ _ _ D σ M=_;unfold xQ;simp only[oO]
theorem qDU:(tr Γ (.ex a)).S D σ M=(tr Γ a).E σ M λ_ M1=>D.nx σ M1:=rfl
theorem qDO{c:Nat}{f:Str}:(tr Γ (.sf c f o a)).S D σ M=(tr Γ a).E σ M λy M1=>(tr Γ o).E σ M1 (p5 (Γ.C c) f y (D.nx σ)):=rfl
theorem qDW:(tr Γ (.dp d k a)).S D σ M=(tr Γ a).E σ M λv M1=>(tr Γ d).E σ M1 λx M2=>(tr Γ k).E σ M2 λy I=>rH I x y v (D.nx σ):=rfl
def BA(is:List Nat)(σ:bB)(N:bB->RM->Prop):aj:=λx M=>match x with| .tup xs=>xs.length=is.length/\N (tV σ is xs) M|_=>False
theorem qrv{is:List Nat}:BA is σ N (.tup xs) M=(xs.length=is.length/\N (tV σ is xs) M):=rfl
theorem qDM{is:List Nat}:(tr Γ (.un is a)).S D σ M=(tr Γ a).E σ M (BA is σ D.nx):=rfl
theorem Am{i j:Int}:i5 .Add (.int i) (.int j) M Q=Q (.int (i+j)) M:=rfl
theorem qxT{i j:Int}:i5 .Sub (.int i) (.int j) M Q=Q (.int (i-j)) M:=rfl
theorem qE1{i j:Int}:dm .Lt (.int i) (.int j) M Q=Q (.bl (decide (i<j))) M:=rfl
theorem qE2{i j:Int}:dm .LtE (.int i) (.int j) M Q=Q (.bl (decide (i<=j))) M:=rfl
theorem qE4{i j:Int}:dm .Gt (.int i) (.int j) M Q=Q (.bl (decide (j<i))) M:=rfl
theorem qE5{i j:Int}:dm .GtE (.int i) (.int j) M Q=Q (.bl (decide (j<=i))) M:=rfl
theorem qE3{x:RV}:dm .Is x .ak M Q=Q (.bl (hZ x)) M:=rfl
theorem qsd{x:RV}:dm .IsNot x .ak M Q=Q (.bl (!hZ x)) M:=rfl
theorem qyQ{i j:Int}:dm .Eq (.int i) (.int j) M Q=Q (.bl (i==j)) M:=by
 show(_/\_/\Q (.bl (bA (.int i) (.int j))) M)=_;simp[de,aB,bA]
theorem qyP{i j:Str}:dm .Eq (.str i) (.str j) M Q=Q (.bl (i==j)) M:=by
 show(_/\_/\Q (.bl (bA (.str i) (.str j))) M)=_;simp[de,aB,bA]
theorem qyM{i j:Int}:dm .NotEq (.int i) (.int j) M Q=Q (.bl (!(i==j))) M:=by
 show(_/\_/\Q (.bl (!bA (.int i) (.int j))) M)=_;simp[de,aB,bA]
theorem qyL{i j:Str}:dm .NotEq (.str i) (.str j) M Q=Q (.bl (!(i==j))) M:=by
 show(_/\_/\Q (.bl (!bA (.str i) (.str j))) M)=_;simp[de,aB,bA]
end
section
variable {Γ:G}{σ:bB}{M:RM}{Q:aj}{D:RD}{a b c d e t l h o k r it:T}{i n:Nat}{QB:Bool->RM->Prop}{QA:LR->RM->Prop}{QI:LR->(RM->Prop)->(RM->RM)->RM->Prop}{x:Addr}{f:Str}{C:Addr}{N:RM->Prop}{y v z:RV}
def wO(o:Option α)(Q:α->Prop):Prop:=match o with|some v=>Q v|none=>False
theorem zj{v:α}{Q:α->Prop}:wO (some v) Q=Q v:=rfl
def fO(C:Addr)(f:Str)(Q:aj)(M:RM)(o:Option RO):Prop:=match o with
 |some (.ins C' fs)=>C'=C/\wO (fs.lookup f) λv=>Q v M
 |_=>False
theorem qrD:p4 C f Q (.ref x) M=fO C f Q M (M x):=by
 show(match M x with|some (.ins I fs)=>I=C/\(match fs.lookup f with|some v=>Q v M|none=>False)|_=>False)=_
 unfold fO;cases M x with
 |none=>rfl
 |some u=>
  cases u<;>first|rfl|skip
  rename_i I fs;show(I=C/\(match fs.lookup f with|some v=>Q v M|none=>False))=(I=C/\wO (fs.lookup f) λv=>Q v M)
  cases fs.lookup f<;>rfl
theorem Al:fO C f Q M (some (.ins C fs))=wO (fs.lookup f) λv=>Q v M:=by
 show(C=C/\_)=_;rw[eq_self_iff_true,true_and]
def sO(C:Addr)(f:Str)(y:RV)(N:RM->Prop)(x:Addr)(M:RM)(o:Option RO):Prop:=match o with
 |some (.ins C' fs)=>C'=C/\fs.length<1000/\N (put M x (.ins C (jx f y fs)))
 |_=>False
theorem qrx:p5 C f y N (.ref x) M=sO C f y N x M (M x):=rfl
theorem UN:sO C f y N x M (some (.ins C fs))=(fs.length<1000/\N (put M x (.ins C (jx f y fs)))):=by
 show(C=C/\_)=_;rw[eq_self_iff_true,true_and]
def mO(C:Addr)(m:Str)(sp:bX)(t:bR)(σ:bB)(Q:aj)(x:Addr)(M:RM)(o:Option RO):Prop:=match o with
 |some (.ins C' fs)=>C'=C/\fs.lookup m=none/\t σ M λrs M2=>sp (.ref x::rs) M2 Q
 |_=>False
theorem qrA{sp:bX}{t:bR}:oq C m sp t σ Q (.ref x) M=mO C m sp t σ Q x M (M x):=rfl
theorem HJ{sp:bX}{t:bR}:mO C m sp t σ Q x M (some (.ins C fs))=(fs.lookup m=none/\t σ M λrs M2=>sp (.ref x::rs) M2 Q):=by
 show(C=C/\_)=_;rw[eq_self_iff_true,true_and]
def gO(Q:aj)(y:RV)(M:RM)(o:Option RO):Prop:=match o.bind (qL . y)with
 |some (some v)=>Q v M
 |_=>False
theorem qn2:uw Q (.ref x) y M=gO Q y M (M x):=rfl
def iO(neg:Bool)(Q:aj)(y:RV)(M:RM)(o:Option RO):Prop:=match o.bind (qL . y)with
 |some r=>Q (.bl (if neg then !r.isSome else r.isSome)) M
 |none=>False
theorem qqo:yf neg Q (.ref x) y M=iO neg Q y M (M x):=rfl
def dO(Q:aj)(y z:RV)(M:RM)(o:Option RO):Prop:=match o.bind (qL . y)with
 |some r=>Q (r.getD z) M
 |none=>False
theorem OM:ud Q (.ref x) y z M=dO Q y z M (M x):=rfl
def qO(o:Option RO):Prop:=match o with
 |some (.dk _)=>True
 |some (.dt _)=>True
 |some (.fk _)=>True
 |some (.ft _)=>True
 |_=>False
theorem qrU:rM M (.ref x)=qO (M x):=rfl
theorem qxy:qO (some (.dk kvs))=True:=rfl
theorem qxx:qO (some (.dt kvs))=True:=rfl
theorem qyr:gO Q (.int m) M (some (.dk kvs))=wO (lk kvs (.inl m)) λv=>Q v M:=by
 show(match some (lk kvs (.inl m))with|some (some v)=>Q v M|_=>False)=_
 cases lk kvs (.inl m)<;>rfl
theorem qyl:iO neg Q (.int m) M (some (.dk kvs))=Q (.bl (if neg then !(lk kvs (.inl m)).isSome else(lk kvs (.inl m)).isSome)) M:=rfl
theorem qyD:dO Q (.int m) z M (some (.dk kvs))=Q ((lk kvs (.inl m)).getD z) M:=rfl
theorem Aw{s:TK}(h:eY y=some s):dO Q y z M (some (.dt kvs))=Q ((lk kvs s).getD z) M:=by
 show(match(eY y).map (lk kvs)with|some r=>Q (r.getD z) M|none=>False)=_
 rw[h];rfl
def pO(y v:RV)(N:RM->Prop)(x:Addr)(M:RM)(o:Option RO):Prop:=match o with
 |some (.dk kvs)=>match fZ y with
  |some k=>kvs.length<sizeLine/\N (put M x (.dk (pt kvs k v)))
  |none=>False
 |some (.dt kvs)=>match eY y with
  |some k=>kvs.length<sizeLine/\N (put M x (.dt (pt kvs k v)))
  |none=>False
 |_=>False
def vn(y:RV)(N:RM->Prop)(x:Addr)(M:RM):Option RO->Prop
 |some (.dk kvs)=>match fZ y with
  |some k=>(lk kvs k).isSome=true/\N (put M x (.dk (dr kvs k)))
  |none=>False
 |some (.dt kvs)=>match eY y with
  |some k=>(lk kvs k).isSome=true/\N (put M x (.dt (dr kvs k)))
  |none=>False
 |_=>False
theorem qr9:pZ M (.ref x) y N=vn y N x M (M x):=rfl
theorem qvg:vn (.int m) N x M (some (.dk kvs))=((lk kvs (.inl m)).isSome=true/\N (put M x (.dk (dr kvs (.inl m))))):=rfl
theorem t7{s:TK}(h:eY y=some s):vn y N x M (some (.dt kvs))=((lk kvs s).isSome=true/\N (put M x (.dt (dr kvs s)))):=by
 unfold vn;simp only[h]
theorem qr5:rH M (.ref x) y v N=pO y v N x M (M x):=rfl
theorem qxL:pO (.int m) v N x M (some (.dk kvs))=(kvs.length<sizeLine/\N (put M x (.dk (pt kvs (.inl m) v)))):=rfl
theorem uh{s:TK}(h:eY y=some s):pO y v N x M (some (.dt kvs))=(kvs.length<sizeLine/\N (put M x (.dt (pt kvs s v)))):=by
 show(match eY y with|some k=>kvs.length<sizeLine/\N (put M x (.dt (pt kvs k v)))|none=>False)=_
 rw[h]
def aO(t:bR)(σ:bB)(Q:aj)(x:Addr)(M:RM)(o:Option RO):Prop:=match o with
 |some (.lst _)=>t σ M λrs M2=>∃ys y,rs= [y]/\M2 x=some (.lst ys)/\ys.length<sizeLine/\Q .ak (put M2 x (.lst (ys++ [y])))
 |_=>False
def Bw(t:bR)(σ:bB)(Q:aj):aj:=λv M=>match v with
 | .ref x=>aO t σ Q x M (M x)
 |_=>False
theorem qDr:(tr Γ (.ap o a)).E σ M Q=(tr Γ o).E σ M (Bw (tr Γ a).A σ Q):=by
 show xR _ _ σ M Q=_;unfold xR;congr 1;funext v M1;cases v<;>try rfl
 rename_i p;show((∃ys,M1 p=some (.lst ys))/\_)=aO _ _ _ p M1 (M1 p);cases e:M1 p with
 |none=>exact propext ⟨λz=>(by obtain⟨⟨_,z⟩,_⟩:=z;cases z),λz=>z.elim⟩
 |some u=>cases u<;>first|exact propext ⟨λz=>(by obtain⟨⟨_,z⟩,_⟩:=z;cases z),λz=>z.elim⟩|exact propext ⟨λz=>z.2,λz=>⟨⟨_,rfl⟩,z⟩⟩
theorem qrE{t:bR}:Bw t σ Q (.ref x) M=aO t σ Q x M (M x):=rfl
theorem qvO{t:bR}:aO t σ Q x M (some (.lst xs))=t σ M λrs M2=>∃ys y,rs= [y]/\M2 x=some (.lst ys)/\ys.length<sizeLine/\Q .ak (put M2 x (.lst (ys++ [y]))):=rfl
theorem cy:bz (.tup xs) (.int m) M Q=wO (bL xs m) λv=>Q v M:=by
 show(match bL xs m with|some v=>Q v M|none=>False)=_
 cases bL xs m<;>rfl
theorem T4:bz (.ls xs) (.int m) M Q=wO (bL xs m) λv=>Q v M:=by
 show(match bL xs m with|some v=>Q v M|none=>False)=_
 cases bL xs m<;>rfl
def xO(m:Int)(Q:aj)(M:RM)(o:Option RO):Prop:=match o with
 |some (.lst xs)=>wO (bL xs m) λv=>Q v M
 |_=>False
theorem qsF:bz (.ref x) (.int m) M Q=xO m Q M (M x):=by
 show(match M x with|some (.lst xs)=>(match bL xs m with|some v=>Q v M|none=>False)|_=>False)=_
 unfold xO;cases M x with
 |none=>rfl
 |some u=>
  cases u<;>first|rfl|skip
  rename_i xs;show(match bL xs m with|some v=>Q v M|none=>False)=wO (bL xs m) λv=>Q v M
  cases bL xs m<;>rfl
theorem qsH:xO m Q M (some (.lst xs))=wO (bL xs m) λv=>Q v M:=rfl
theorem qvt{lo hi:Option Int}:mK (.tup xs) lo hi M Q=Q (.tup (gG xs lo hi)) M:=rfl
theorem qyG{lo hi:Option Int}:mK (.ls xs) lo hi M Q=Q (.ls (gG xs lo hi)) M:=rfl
theorem qC9:(tr Γ (.lv md a)).E σ M Q=(tr Γ a).E σ M (rR md Q):=rfl
def vO(md:Bool)(Q:aj)(M:RM)(o:Option RO):Prop:=wO (o.bind ur) λxs=>jA md xs M Q
theorem qrB:rR md Q (.ref x) M=vO md Q M (M x):=by
 show(match(M x).bind ur with|some xs=>jA md xs M Q|none=>False)=_
 unfold vO;cases(M x).bind ur<;>rfl
theorem qwl:vO md Q M (some (.dk kvs))=jA md (kvs.map (·.2)) M Q:=rfl
theorem qwk:vO md Q M (some (.dt kvs))=jA md (kvs.map (·.2)) M Q:=rfl
theorem mD:jA false xs M Q=Q (.ls xs) M:=rfl
theorem qvd:jA true xs M Q= ∀p,M p=none->Q (.ref p) (put M p (.lst xs)):=rfl
def Bz(i j:Nat)(σ:bB)(N:bB->RM->Prop):LR->RM->Prop:=λrs M1=>match rs with
 | [v,w]=>N ((σ.set i (some v)).set j (some w)) M1
 |_=>False
theorem qDR:(tr Γ (.pr i j a)).S D σ M=(tr Γ a).A σ M (Bz i j σ D.nx):=rfl
theorem qrz{j:Nat}{N:bB->RM->Prop}:Bz i j σ N [v,y] M=N ((σ.set i (some v)).set j (some y)) M:=rfl
theorem MU{c:Nat}:(tr Γ (.af c f o a)).S D σ M=(tr Γ o).E σ M (rO (Γ.C c) f (tr Γ a).E σ (D.nx σ)):=rfl
theorem qDN:(tr Γ (.sp l k a)).S D σ M=(tr Γ a).E σ M λv M1=>(tr Γ l).E σ M1 λo M2=>(tr Γ k).E σ M2 λi M3=>oX o i v M3 λM4=>D.nx σ M4:=rfl
theorem qDT{tup:Bool}{is:List Nat}:(tr Γ (.fo tup is it b)).S D σ M=(tr Γ it).I σ M λxs ok un M1=>iQ (match tup,is with|true,is=>uE is|false,[i]=>gQ i|_,_=>λ_ _ _ _=>False) (tr Γ b).S D ok un xs σ M1:=rfl
def kS(Q:LR->(RM->Prop)->(RM->RM)->RM->Prop):aj:=λv M1=>match v with
 | .tup xs=>Q xs cV id M1
 | .ls xs=>Q xs cV id M1
 | .ref a=>match M1 a with
  |some (.lst xs)=>Q xs (λM=>M a=some (.lst xs)) id M1
  |_=>False
 |_=>False
theorem qEF:(tr Γ (.is a)).I σ M QI=(tr Γ a).E σ M (kS QI):=rfl
theorem Iv:kS QI (.ls xs) M=QI xs cV id M:=rfl
theorem quO:kS QI (.tup xs) M=QI xs cV id M:=rfl
theorem qED:(tr Γ (.r1 a)).I σ M QI=(tr Γ a).E σ M λv M1=>t9 QI [v] M1:=rfl
theorem qxq:t9 QI [.int m] M=(-(2 ^ 62)<=m/\m<2 ^ 62/\QI (nums m.toNat) cV id M):=rfl
theorem qEE:(tr Γ (.iv a)).I σ M QI=(tr Γ a).E σ M (qI false QI):=rfl
theorem qEG:(tr Γ (.im a)).I σ M QI=(tr Γ a).E σ M (qU QI):=rfl
theorem qDm{md tup:Bool}:(tr Γ (.cp md tup nm cap it t a)).E σ M Q=(tr Γ it).I σ M λxs ok un M1=>xs.length<sizeLine/\gq (gP tup nm.length) md ok un (tr Γ t).T (tr Γ a).E ((cap.map Prod.fst).map λi=>(σ[i]?).join) xs [] M1 Q:=rfl
theorem Ma{md tup:Bool}:(tr Γ (.sc i md tup nm cap it t a)).S D σ M=(tr Γ (.cp md tup nm cap it t a)).E σ M λx M1=>D.nx (σ.set i (some x)) M1:=rfl
theorem jd{un:RM->RM}{tt:dW}{te:ar}{base:List (Option RV)}{Q:aj}(p:RV->Bool)(g:RV->RV)(av:ok M):∀(xs acc:LR),
 (∀x∈xs,∃bs,bd x=some bs/\(∀K:Bool->RM->Prop,K (p x) M->tt (bs.map some++base) M K)/\(p x=true->∀K:aj,K (g x) M->te (bs.map some++base) M K))->
 jA md (acc++(xs.filter p).map g) (un M) Q->gq bd md ok un tt te base xs acc M Q
 | [],acc,_,h=>⟨av,by simpa using h⟩
 |x::xs,acc,hx,h=>by
  obtain⟨bs,h1,h2,h3⟩:=hx x (.head _);have hx':=λy hy=>hx y (gA x hy)
  refine⟨av,?_⟩;rw[h1];refine h2 _ ⟨λhp=>h3 hp _ (jd p g av xs _ hx' ?_),λhp=>jd p g av xs _ hx' ?_⟩
  . rw[yi hp,bT]at h
    simpa using h
  . rw[yj (by simp[hp])]at h
    exact h
theorem qvJ{i:Int}:fJ "isinstance" [.int i,.ty "int"] M Q=Q (.bl true) M:=rfl
theorem qvK{i:Int}:fJ "isinstance" [.int i,.ty "bool"] M Q=Q (.bl false) M:=rfl
theorem qso{b:Bool}:fJ "isinstance" [.bl b,.ty "bool"] M Q=Q (.bl true) M:=rfl
theorem qvH{x:Str}:fJ "isinstance" [.str x,.ty "str"] M Q=Q (.bl true) M:=rfl
theorem qvG:fJ "isinstance" [.tup xs,.ty "tuple"] M Q=Q (.bl true) M:=rfl
theorem qsl:fJ "len" [.tup xs] M Q=Q (.int xs.length) M:=rfl
theorem qsm{x:Str}:fJ "len" [.str x] M Q=(x.length<=sizeLine/\Q (.int x.length) M):=rfl
theorem qsn:fJ "len" [.ls xs] M Q=Q (.int xs.length) M:=rfl
theorem qvF{x:Str}:fJ "ord" [.str x] M Q=(x.length=1/\Q (.int (x.cps.getD 0 0:Nat)) M):=rfl
theorem xl{bs:List Bool}:fJ "all" [.ls (bs.map RV.bl)] M Q=Q (.bl (bs.all id)) M:=by
 refine propext ⟨λh=>?_,λh=>⟨bs,rfl,h⟩⟩
 obtain⟨I,e,h⟩:=h;have e:bs.map RV.bl=I.map RV.bl:=by injection e with e1 _;injection e1
 have:bs=I:=List.map_inj_right (λa b z=>by cases z;rfl)|>.mp e
 subst this;exact h
theorem Jp{a b:Bool}:(if a=true then Q (.bl b) M else Q (.bl false) M)=Q (.bl (a&&b)) M:=by cases a<;>rfl
theorem qDQ:(tr Γ .ra).S D σ M=False:=rfl
theorem Nk{x:Str}(h:Γ.S.gt.lookup x=some J):(tr Γ (.ig x)).I σ M QI=QI (J.map RV.str) cV id M:=by show(match Γ.S.gt.lookup x with|some J=>xM J|none=>λ_ _ _=>False) σ M QI=_;rw[h];rfl
theorem qsh{c:Bool}:nk "int" [.bl c] M Q=Q (.int (if c then 1 else 0)) M:=rfl
theorem VN{bs:List Bool}:fJ "any" [.ls (bs.map RV.bl)] M Q=Q (.bl (bs.any id)) M:=by
 refine propext ⟨λh=>?_,λh=>⟨bs,rfl,h⟩⟩
 obtain⟨I,e,h⟩:=h;have e:bs.map RV.bl=I.map RV.bl:=by injection e with e1 _;injection e1
 have:bs=I:=List.map_inj_right (λa b z=>by cases z;rfl)|>.mp e
 subst this;exact h
theorem qEC:(tr Γ (.st a)).I σ M QI=(tr Γ a).E σ M λv M1=>match v with| .str x=>QI (lx x) cV id M1|_=>False:=rfl
theorem qrQ:hZ .ak=true:=rfl
theorem qrO{x:Str}:hZ (.str x)=false:=rfl
theorem qrR{i:Int}:hZ (.int i)=false:=rfl
theorem qrP:hZ (.ref x)=false:=rfl
theorem qrN:hZ (.tup xs)=false:=rfl
theorem qn6{x:Str}:(x==x)=true:=by simp
theorem qvx{x:Str}:dm .Eq .ak (.str x) M Q=Q (.bl false) M:=by
 show(_/\_/\Q (.bl (bA .ak (.str x))) M)=_;simp[de,aB,bA]
theorem ju{α:Type}{xs:List α}{k:Nat}{v:α}(h:xs[k]? =some v):bL xs (k:Int)=some v:=by
 have hk:k<xs.length:=(List.getElem?_eq_some_iff.mp h).1;have e:fM xs.length (k:Int)=some k:=by
  unfold fM;simp;omega
 unfold bL;rw[e];exact h
theorem JR{α:Type}{I:α}{r:List α}:bL (I::r) 0=some I:=ju (k:=0) rfl
theorem JQ{α:Type}{J I:α}{r:List α}:bL (J::I::r) 1=some I:=ju (k:=1) rfl
theorem L4{α:Type}{J W I:α}{r:List α}:bL (J::W::I::r) 2=some I:=ju (k:=2) rfl
theorem L3{α:Type}{J W Y I:α}{r:List α}:bL (J::W::Y::I::r) 3=some I:=ju (k:=3) rfl
theorem qFg{α:Type}{J W Y Z I:α}{r:List α}:bL (J::W::Y::Z::I::r) 4=some I:=ju (k:=4) rfl
theorem L6{α:Type}{J W Y Z a4 I:α}{r:List α}:bL (J::W::Y::Z::a4::I::r) 5=some I:=ju (k:=5) rfl
theorem L5{α:Type}{J W Y Z a4 a5 I:α}{r:List α}:bL (J::W::Y::Z::a4::a5::I::r) 6=some I:=ju (k:=6) rfl
theorem qFf{α:Type}{J W Y Z a4 a5 a6 I:α}{r:List α}:bL (J::W::Y::Z::a4::a5::a6::I::r) 7=some I:=ju (k:=7) rfl
theorem z_0:(0<=sizeLine)=True:=eq_true (by decide)
theorem qCB:(0<sizeLine)=True:=eq_true (by decide)
theorem qE0:((0:Nat):Int)=0:=rfl
theorem z_1:(1<=sizeLine)=True:=eq_true (by decide)
theorem qCA:(1<sizeLine)=True:=eq_true (by decide)
theorem qEZ:((1:Nat):Int)=1:=rfl
theorem z_2:(2<=sizeLine)=True:=eq_true (by decide)
theorem qCz:(2<sizeLine)=True:=eq_true (by decide)
theorem qEY:((2:Nat):Int)=2:=rfl
theorem z_3:(3<=sizeLine)=True:=eq_true (by decide)
theorem qCy:(3<sizeLine)=True:=eq_true (by decide)
theorem qEX:((3:Nat):Int)=3:=rfl
theorem z_4:(4<=sizeLine)=True:=eq_true (by decide)
theorem qCx:(4<sizeLine)=True:=eq_true (by decide)
theorem qEW:((4:Nat):Int)=4:=rfl
theorem z_5:(5<=sizeLine)=True:=eq_true (by decide)
theorem qCw:(5<sizeLine)=True:=eq_true (by decide)
theorem qEV:((5:Nat):Int)=5:=rfl
theorem z_6:(6<=sizeLine)=True:=eq_true (by decide)
theorem qCv:(6<sizeLine)=True:=eq_true (by decide)
theorem qEU:((6:Nat):Int)=6:=rfl
theorem z_7:(7<=sizeLine)=True:=eq_true (by decide)
theorem qCu:(7<sizeLine)=True:=eq_true (by decide)
theorem qET:((7:Nat):Int)=7:=rfl
theorem z_8:(8<=sizeLine)=True:=eq_true (by decide)
theorem qCt:(8<sizeLine)=True:=eq_true (by decide)
theorem qES:((8:Nat):Int)=8:=rfl
theorem z_9:(9<=sizeLine)=True:=eq_true (by decide)
theorem qCs:(9<sizeLine)=True:=eq_true (by decide)
theorem qER:((9:Nat):Int)=9:=rfl
theorem U8{k:Nat}:(((k+1:Nat):Int)==0)=false:=by simp;omega
theorem qM{x:RV}{r:LR}:gG (x::r) (some 1) none=r:=by
 unfold gG;rw[show HT.aQ (x::r).length 0 (some 1)=1 from by show min 1 (r.length+1)=1;omega,HT.jm]
 simp
def tO(I:Option Key)(kvs:bW)(Q:aj)(M:RM):Prop:=match I with
 |some k=>wO (fR kvs k) λv=>Q v M
 |none=>False
theorem qCZ{x:Str}:(tr Γ (.tx x a)).E σ M Q=(tr Γ a).E σ M λy M1=>tO (fZ y) (Γ.tb x) Q M1:=by
 show xI (Γ.tb x) _ σ M Q=_;unfold xI;congr 1;funext y M1;unfold tO wO;generalize fZ y=q;cases q with
 |none=>rfl
 |some k=>
  dsimp only;cases fR (Γ.tb x) k<;>rfl
theorem qs6{x:Str}:tO (fZ (.str x)) kvs Q M=wO (fR kvs (.inr x)) λv=>Q v M:=rfl
theorem qC1{x:Str}:(tr Γ (.tn x a)).E σ M Q=(tr Γ a).E σ M (wR (Γ.tb x) Q):=rfl
theorem qrw{x:Str}:wR kvs Q (.str x) M=Q (.bl (!(fR kvs (.inr x)).isSome)) M:=rfl
def Bx(hE:List (Addr×bX))(t:bR)(σ:bB)(Q:aj):aj:=λv M1=>match v with
 | .ref f=>∃sp,(f,sp)∈hE/\t σ M1 λrs M2=>sp rs M2 Q
 |_=>False
theorem qDl:(tr Γ (.cv i a)).E σ M Q=(tr Γ (.v i)).E σ M (Bx Γ.hE (tr Γ a).A σ Q):=rfl
theorem zo{t:bR}:Bx hE t σ Q (.ref x) M= ∃sp,(x,sp)∈hE/\t σ M λrs M2=>sp rs M2 Q:=rfl
theorem qDa:(tr Γ (.lr a b)).E σ M Q=(tr Γ a).E σ M λx M1=>(tr Γ b).E σ M1 λy M2=>rQ Q [x,y] M2:=rfl
theorem qrC{i j:Int}:rQ Q [.int i,.int j] M=((-1000000<=i/\i<=1000000/\-1000000<=j/\j<=1000000)/\(j-i).toNat<=1000/\Q (.ls (wM i (j-i).toNat)) M):=rfl
theorem qC3{c:Nat}{f:Str}{a:T}:(tr Γ (.sk c f a)).E σ M Q=(tr Γ a).E σ M (yO (Γ.C c) f Γ.lP Γ.S.lp Γ.S.lq Q):=rfl
theorem qDX:(tr Γ (.dd d k)).S D σ M=(tr Γ d).E σ M λx M1=>(tr Γ k).E σ M1 λy M2=>pZ M2 x y (D.nx σ):=rfl
theorem qur:i5 .Add (.ls xs) (.ls ys) M Q=(xs.length+ys.length<=sizeLine/\Q (.ls (xs++ys)) M):=rfl
theorem GQ:i5 .Add (.tup xs) (.tup ys) M Q=(xs.length+ys.length<=sizeLine/\Q (.tup (xs++ys)) M):=rfl
theorem qxW{i j:Int}:i5 .Mod (.int i) (.int j) M Q=(0<j/\Q (.int (i % j)) M):=rfl
theorem qxX{i j:Int}:i5 .FloorDiv (.int i) (.int j) M Q=((0<j/\j<1073741824)/\Q (.int (i / j)) M):=rfl
theorem qxU{i j:Int}:i5 .Pow (.int i) (.int j) M Q=((0<=j/\j<=1000000/\i.natAbs<2 ^ 64)/\Q (.int (i ^ j.toNat)) M):=rfl
theorem qxV{i j:Int}:i5 .Mult (.int i) (.int j) M Q=(hB i j/\Q (.int (i*j)) M):=rfl
def lO(k:Int)(v:RV)(N:RM->Prop)(x:Addr)(M:RM)(o:Option RO):Prop:=match o with
 |some (.lst xs)=>wO (fM xs.length k) λj=>N (put M x (.lst (xs.set j v)))
 |_=>False
theorem qqx:oX (.ref x) (.int m) v M N=lO m v N x M (M x):=by
 show(match M x with|some (.lst xs)=>(match fM xs.length m with|some j=>N (put M x (.lst (xs.set j v)))|none=>False)|_=>False)=_
 unfold lO;cases M x with
 |none=>rfl
 |some u=>
  cases u<;>first|rfl|skip
  rename_i xs;show(match fM xs.length m with|some j=>N (put M x (.lst (xs.set j v)))|none=>False)=wO (fM xs.length m) λj=>N (put M x (.lst (xs.set j v)))
  cases fM xs.length m<;>rfl
theorem quE:lO m v N x M (some (.lst xs))=wO (fM xs.length m) λj=>N (put M x (.lst (xs.set j v))):=rfl
theorem qyh:fM 3 0=some 0:=rfl
theorem qyg:fM 3 1=some 1:=rfl
theorem qyf:fM 3 2=some 2:=rfl
end
end R
namespace K35
open PySem PySem.Spec PyProof.Rows L2 R
def top(i:Nat):Stmt:=PySem.Challenge.pw_lentgate_k35_meetings_by_two_gates.main.body.getD i (.Pass ⟨0,0,0,0⟩)
section
local macro_rules | `($a ^ $b) => `(T.ec $a $b)
local macro_rules | `($a >=> $b) => `(T.se $a $b)
noncomputable def wg:FD:=⟨0,0,"is_whole",["thing"],["thing"],.re (.an (.bf "isinstance" (.v 0^.ty "int"^.e0)) (.no (.bf "isinstance" (.v 0^.ty "bool"^.e0))))>=>.en⟩
noncomputable def wq:FD:=⟨0,0,"is_house",["thing"],["thing"],.re (.ca 47 (.v 0^.i 0^.g "GREATEST_HOUSE"^.e0))>=>.en⟩
noncomputable def wG:FD:=⟨0,0,"is_door",["thing"],["thing"],.re (.ca 47 (.v 0^.i 1^.g "GREATEST_DOOR"^.e0))>=>.en⟩
noncomputable def wo:FD:=⟨0,0,"is_place",["thing"],["thing"],.re (.ca 47 (.v 0^.i 0^.g "GREATEST_PLACE"^.e0))>=>.en⟩
noncomputable def vE:FD:=⟨0,0,"is_outer_place",["thing"],["thing"],.re (.ca 47 (.v 0^.i 1^.g "GREATEST_PLACE"^.e0))>=>.en⟩
noncomputable def wk:FD:=⟨0,0,"is_ticks",["thing"],["thing"],.re (.ca 47 (.v 0^.i 0^.g "GREATEST_TICKS"^.e0))>=>.en⟩
noncomputable def wD:FD:=⟨0,0,"is_kind",["thing"],["thing"],.re (.ic false (.v 0) "KINDS")>=>.en⟩
noncomputable def Fi:FD:=⟨0,0,"is_sign",["sign"],["sign","at"],.set 1 (.bf "ord" (.v 0^.e0))>=>.re (.an (.ch .LtE .LtE (.g "FIRST_SIGN") (.v 1) (.g "LAST_SIGN")) (.cm .NotEq (.v 1) (.g "PERCENT_SIGN")))>=>.en⟩
noncomputable def wB:FD:=⟨0,0,"is_text",["thing"],["thing"],.aX (.or (.no (.bf "isinstance" (.v 0^.ty "str"^.e0))) (.cm .Gt (.bf "len" (.v 0^.e0)) (.g "MOST_SIGNS"))) (.re (.b false)>=>.en) .en>=>.re (.bf "all" (.cp false false ["sign"] [] (.st (.v 0)) (.b true) (.ca 7 (.v 0^.e0))^.e0))>=>.en⟩
noncomputable def tK:FD:=⟨0,0,"is_out",["parts"],["parts","kind","house","door","place","far","word","text"],.aX (.cm .NotEq (.bf "len" (.v 0^.e0)) (.i 7)) (.re (.b false)>=>.en) .en>=>.un [1,2,3,4,5,6,7] (.v 0)>=>.re (.an (.ca 1 (.v 2^.e0)) (.an (.ca 2 (.v 3^.e0)) (.an (.ca 3 (.v 4^.e0)) (.an (.ca 2 (.v 5^.e0)) (.ca 48 (.v 1^.v 6^.v 7^.e0))))))>=>.en⟩
noncomputable def tH:FD:=⟨0,0,"is_come",["parts"],["parts","kind","place","far","number","word","text"],.aX (.cm .NotEq (.bf "len" (.v 0^.e0)) (.i 6)) (.re (.b false)>=>.en) .en>=>.un [1,2,3,4,5,6] (.v 0)>=>.re (.an (.ca 4 (.v 2^.e0)) (.an (.ca 2 (.v 3^.e0)) (.an (.ca 2 (.v 4^.e0)) (.ca 48 (.v 1^.v 5^.v 6^.e0)))))>=>.en⟩
noncomputable def tG:FD:=⟨0,0,"is_wait",["parts"],["parts"],.re (.an (.cm .Eq (.bf "len" (.v 0^.e0)) (.i 1)) (.ca 5 (.ix (.v 0) (.i 0)^.e0)))>=>.en⟩
noncomputable def wy:FD:=⟨0,0,"name_of",["thing"],["thing"],.aX (.or (.no (.bf "isinstance" (.v 0^.ty "tuple"^.e0))) (.or (.cm .Eq (.bf "len" (.v 0^.e0)) (.i 0)) (.no (.bf "isinstance" (.ix (.v 0) (.i 0)^.ty "str"^.e0))))) (.re .n>=>.en) .en>=>.re (.ix (.v 0) (.i 0))>=>.en⟩
noncomputable def ml:FD:=⟨0,0,"is_deed",["thing"],["thing","name","has_parts"],.set 1 (.ca 12 (.v 0^.e0))>=>.aX (.tn "DEEDS" (.v 1)) (.re (.b false)>=>.en) .en>=>.set 2 (.tx "DEEDS" (.v 1))>=>.re (.cv 2 (.sl (.v 0) (.p1 (.i 1)) .p0^.e0))>=>.en⟩
noncomputable def wj:FD:=⟨0,0,"is_times",["thing"],["thing","lives"],.aX (.or (.no (.bf "isinstance" (.v 0^.ty "tuple"^.e0))) (.cm .NotEq (.bf "len" (.v 0^.e0)) (.i 4))) (.re (.b false)>=>.en) .en>=>.set 1 (.bf "all" (.cp false false ["time"] [] (.is (.sl (.v 0) .p0 (.p1 (.i 3)))) (.b true) (.ca 47 (.v 0^.i 1^.g "GREATEST_TIME"^.e0))^.e0))>=>.re (.an (.v 1) (.ca 47 (.ix (.v 0) (.i 3)^.i 0^.g "GREATEST_TIME"^.e0)))>=>.en⟩
noncomputable def wF:FD:=⟨0,0,"is_form",["thing"],["thing","low","high","lending","sieve","pick","most","renew","times"],.aX (.or (.no (.bf "isinstance" (.v 0^.ty "tuple"^.e0))) (.cm .NotEq (.bf "len" (.v 0^.e0)) (.i 8))) (.re (.b false)>=>.en) .en>=>.un [1,2,3,4,5,6,7,8] (.v 0)>=>.aX (.or (.ic true (.v 3) "LENDINGS") (.or (.ic true (.v 4) "SIEVES") (.ic true (.v 5) "PICKS"))) (.re (.b false)>=>.en) .en>=>.aX (.or (.no (.ca 47 (.v 6^.i 1^.g "GREATEST_MOST"^.e0))) (.no (.bf "isinstance" (.v 7^.ty "bool"^.e0)))) (.re (.b false)>=>.en) .en>=>.re (.an (.ca 26 (.v 1^.v 2^.e0)) (.ca 14 (.v 8^.e0)))>=>.en⟩
noncomputable def sP:FD:=⟨2,0,"__init__",["self"],["self"],.sf 0 "many_told" (.v 0) (.i 0)>=>.sf 0 "standing" (.v 0) .dk>=>.en⟩
noncomputable def sm:FD:=⟨1,1,"from_mark",["self"],["self"],.re (.op .Add (.lr (.fl 1 "mark" (.v 0)) (.op .Add (.fl 1 "high" (.v 0)) (.i 1))) (.lr (.fl 1 "low" (.v 0)) (.fl 1 "mark" (.v 0))))>=>.en⟩
noncomputable def su:FD:=⟨1,3,"living",["self"],["self"],.re (.lv false (.fl 3 "by_inner" (.v 0)))>=>.en⟩
noncomputable def wt:FD:=⟨0,0,"is_doors",["thing"],["thing"],.re (.an (.bf "isinstance" (.v 0^.ty "tuple"^.e0)) (.an (.cm .Eq (.bf "len" (.v 0^.e0)) (.i 2)) (.an (.ca 2 (.ix (.v 0) (.i 0)^.e0)) (.ca 2 (.ix (.v 0) (.i 1)^.e0)))))>=>.en⟩
noncomputable def wm:FD:=⟨0,0,"is_steps",["thing"],["thing"],.aX (.or (.no (.bf "isinstance" (.v 0^.ty "list"^.e0))) (.cm .Gt (.bf "len" (.v 0^.e0)) (.g "MOST_STEPS"))) (.re (.b false)>=>.en) .en>=>.re (.bf "all" (.cp false false ["step"] [] (.is (.v 0)) (.b true) (.or (.ic false (.v 0) "WRITERS") (.ca 5 (.v 0^.e0)))^.e0))>=>.en⟩
noncomputable def Jx:T:=.re (.tu (.v 2^.op .Sub (.op .Add (.v 2) (.v 1)) (.i 1)^.v 3^.v 4^.v 5^.v 6^.v 7^.op .Add (.v 9) (.tu (.v 10^.e0))^.e0))>=>.en
noncomputable def D3:T:=.set 10 (.ix (.ll (.i 0^.ca 46 (.v 0^.i 4^.e0)^.ca 46 (.v 0^.i 30^.e0)^.i 1000000^.e0)) (.ca 46 (.v 0^.i 4^.e0)))>=>Jx
noncomputable def D4:T:=.set 9 (.bt "tuple" (.cp false false ["k"] [(0,"bag"),(8,"far")] (.r1 (.i 3)) (.b true) (.op .Add (.i 1) (.ca 46 (.v 1^.v 2^.e0)))^.e0))>=>D3
noncomputable def D5:T:=.set 8 (.ix (.ll (.i 4^.i 12^.i 1000000^.e0)) (.ca 46 (.v 0^.i 3^.e0)))>=>D4
noncomputable def D6:T:=.set 7 (.cm .Eq (.ca 46 (.v 0^.i 2^.e0)) (.i 1))>=>D5
noncomputable def D7:T:=.set 6 (.ix (.ll (.i 1^.i 2^.i 200^.op .Add (.i 1) (.ca 46 (.v 0^.i 6^.e0))^.e0)) (.ca 46 (.v 0^.i 4^.e0)))>=>D6
noncomputable def D8:T:=.set 5 (.ix (.ll (.s "next"^.s "keep"^.e0)) (.ca 46 (.v 0^.i 2^.e0)))>=>D7
noncomputable def D9:T:=.set 4 (.ix (.ll (.s "all"^.s "place"^.s "talk"^.e0)) (.ca 46 (.v 0^.i 3^.e0)))>=>D8
noncomputable def Ea:T:=.set 3 (.ix (.ll (.s "door"^.s "place"^.s "talk"^.e0)) (.ca 46 (.v 0^.i 3^.e0)))>=>D9
noncomputable def Eb:T:=.set 2 (.ix (.ll (.i 1^.op .Sub (.i 10000) (.v 1)^.op .Add (.i 1) (.ca 46 (.v 0^.op .Sub (.i 10000) (.v 1)^.e0))^.e0)) (.ca 46 (.v 0^.i 3^.e0)))>=>Ea
noncomputable def Ec:T:=.set 1 (.ix (.ll (.i 1^.i 2^.i 3^.op .Add (.i 1) (.ca 46 (.v 0^.i 12^.e0))^.i 200^.e0)) (.ca 46 (.v 0^.i 5^.e0)))>=>Eb
noncomputable def vU:FD:=⟨0,0,"_law_a_form",["bag"],["bag","many","low","lending","sieve","pick","most","renew","far","times","rest"],Ec⟩
noncomputable def vI:FD:=⟨0,0,"_law_step",["bag"],["bag","ticks"],.set 1 (.ix (.ll (.i 1^.ca 46 (.v 0^.i 12^.e0)^.ca 46 (.v 0^.i 1000001^.e0)^.e0)) (.ca 46 (.v 0^.i 3^.e0)))>=>.re (.ix (.ll (.s "one"^.s "other"^.s "one"^.s "other"^.s "one"^.s "other"^.v 1^.e0)) (.ca 46 (.v 0^.i 7^.e0)))>=>.en⟩
noncomputable def wu:FD:=⟨0,0,"_law_met",["rows"],["rows","who"],.sc 1 false false ["row"] [] (.is (.v 0)) (.an (.cm .IsNot (.ix (.v 0) (.i 2)) .n) (.cm .Eq (.ix (.ix (.v 0) (.i 2)) (.i 0)) (.s "in"))) (.ix (.v 0) (.i 0))>=>.re (.an (.cm .In (.s "one") (.v 1)) (.cm .In (.s "other") (.v 1)))>=>.en⟩
noncomputable def CP:T:=.re (.b true)>=>.en
noncomputable def Iq:T:=.aX (.or (.no (.bf "isinstance" (.v 9^.ty "bool"^.e0))) (.cm .NotEq (.v 9) (.ca 23 (.v 7^.e0)))) (.re (.b false)>=>.en) .en>=>.en
noncomputable def Af:T:=.set 9 (.ca 69 (.ix (.v 3) (.i 0)^.ix (.v 3) (.i 1)^.v 4^.v 6^.e0))>=>Iq
noncomputable def Gh:T:=.ex (.ap (.v 10) (.n^.e0))>=>.en
noncomputable def Gi:T:=.aX (.or (.no (.bf "isinstance" (.v 10^.ty "list"^.e0))) (.or (.cm .NotEq (.v 10) (.v 7)) (.cm .NotEq (.v 6) (.v 5)))) (.re (.b false)>=>.en) .en>=>Gh
noncomputable def zw:T:=.set 10 (.ca 68 (.ix (.v 3) (.i 0)^.ix (.v 3) (.i 1)^.v 4^.v 6^.e0))>=>Gi
noncomputable def Ag:T:=.fo false [8] (.r1 (.i 2)) zw>=>Af
noncomputable def Ah:T:=.set 7 (.ca 70 (.ix (.v 3) (.i 0)^.ix (.v 3) (.i 1)^.v 4^.v 5^.e0))>=>Ag
noncomputable def xn:T:=.set 6 (.bt "list" (.v 5^.e0))>=>Ah
noncomputable def xo:T:=.sc 5 false false ["k"] [(2,"bag")] (.r1 (.ix (.ll (.ca 46 (.v 2^.i 7^.e0)^.ca 46 (.v 2^.i 101^.e0)^.e0)) (.ca 46 (.v 2^.i 2^.e0)))) (.b true) (.ca 22 (.v 1^.e0))>=>xn
noncomputable def xp:T:=.set 4 (.bt "tuple" (.cp false false ["form"] [(2,"bag")] (.is (.v 3)) (.b true) (.ix (.ll (.op .Add (.i 1) (.ca 46 (.v 1^.i 9999^.e0))^.ix (.v 0) (.i 0)^.e0)) (.ca 46 (.v 1^.i 2^.e0)))^.e0))>=>xo
noncomputable def Ir:T:=.sc 3 false false ["k"] [(2,"bag")] (.r1 (.i 2)) (.b true) (.ca 21 (.v 1^.e0))>=>xp
noncomputable def qv:T:=.set 2 (.ca 45 (.v 1^.i 0^.e0))>=>Ir
noncomputable def AV:T:=.fo false [1] (.is (.op .Add (.ll (.ca 44 (.v 0^.i 0^.e0)^.e0)) (.sl (.v 0) (.p1 (.i 1)) (.p1 (.i 6))))) qv>=>CP
noncomputable def fj:FD:=⟨0,0,"law",["script"],["script","cell","bag","forms","doors","steps","handed","due","turn","told","found"],AV⟩
noncomputable def wA:FD:=⟨0,0,"is_word",["kind","thing"],["kind","thing"],.aX (.cm .Eq (.v 0) (.s "note")) (.re (.ic false (.v 1) "NOTE_WORDS")>=>.en) .en>=>.ra⟩
noncomputable def wC:FD:=⟨0,0,"is_pool",["low","high"],["low","high"],.re (.an (.ca 2 (.v 0^.e0)) (.an (.ca 2 (.v 1^.e0)) (.ch .LtE .LtE (.v 0) (.v 1) (.op .Add (.v 0) (.g "WIDEST_STEP")))))>=>.en⟩
noncomputable def vG:FD:=⟨0,0,"holder_of",["form","inner"],["form","inner","lending","kind","house","door","place","far"],.un [3,4,5,6,7] (.v 1)>=>.set 2 (.ix (.v 0) (.i 2))>=>.aX (.cm .Eq (.v 2) (.s "door")) (.re (.tu (.v 3^.v 4^.v 5^.n^.n^.e0))>=>.en) .en>=>.aX (.cm .Eq (.v 2) (.s "place")) (.re (.tu (.v 3^.v 4^.v 5^.v 6^.n^.e0))>=>.en) .en>=>.re (.tu (.v 3^.v 4^.v 5^.v 6^.v 7^.e0))>=>.en⟩
noncomputable def vV:FD:=⟨0,0,"time_of",["form","state"],["form","state","times"],.set 2 (.ix (.v 0) (.i 7))>=>.re (.ix (.v 2) (.tx "TIME_AT" (.v 1)))>=>.en⟩
noncomputable def vM:FD:=⟨0,0,"note_state",["state","word"],["state","word"],.aX (.an (.cm .Eq (.v 1) (.s "say")) (.or (.cm .Is (.v 0) .n) (.cm .Eq (.v 0) (.s "note")))) (.re (.s "note")>=>.en) .en>=>.re .n>=>.en⟩
noncomputable def sH:FD:=⟨1,1,"has",["self","number"],["self","number"],.re (.ch .LtE .LtE (.fl 1 "low" (.v 0)) (.v 1) (.fl 1 "high" (.v 0)))>=>.en⟩
noncomputable def sS:FD:=⟨1,1,"take",["self","number"],["self","number"],.dp (.fl 1 "taken" (.v 0)) (.v 1) (.b true)>=>.aX (.dn false (.v 1) (.fl 1 "until" (.v 0))) (.dd (.fl 1 "until" (.v 0)) (.v 1)>=>.en) .en>=>.sf 1 "mark" (.v 0) (.ie (.cm .Eq (.v 1) (.fl 1 "high" (.v 0))) (.fl 1 "low" (.v 0)) (.op .Add (.v 1) (.i 1)))>=>.en⟩
noncomputable def sM:FD:=⟨2,3,"__init__",["self","form"],["self","form"],.sf 3 "form" (.v 0) (.v 1)>=>.sf 3 "pool" (.v 0) (.mk 49 (.ix (.v 1) (.i 0)^.ix (.v 1) (.i 1)^.e0))>=>.sf 3 "now" (.v 0) (.i 0)>=>.sf 3 "by_inner" (.v 0) .dt>=>.sf 3 "by_number" (.v 0) .dk>=>.sf 3 "holders" (.v 0) .dk>=>.sf 3 "numbers" (.v 0) .dt>=>.en⟩
noncomputable def sh:FD:=⟨1,3,"of_inner",["self","inner"],["self","inner"],.re (.d1 (.fl 3 "by_inner" (.v 0)) (.v 1))>=>.en⟩
noncomputable def rZ:FD:=⟨1,3,"number_of",["self","inner"],["self","inner"],.re (.d1 (.fl 3 "numbers" (.v 0)) (.ca 27 (.fl 3 "form" (.v 0)^.v 1^.e0)))>=>.en⟩
noncomputable def r8:FD:=⟨1,3,"holder_at",["self","number"],["self","number"],.re (.d1 (.fl 3 "holders" (.v 0)) (.v 1))>=>.en⟩
noncomputable def sN:FD:=⟨1,3,"held",["self","house"],["self","house"],.re (.cp false true ["number","holder"] [(1,"house")] (.im (.fl 3 "holders" (.v 0))) (.cm .Eq (.ix (.v 1) (.i 1)) (.v 2)) (.v 0))>=>.en⟩
noncomputable def aE:FD:=⟨1,3,"pass_by",["self","ticks"],["self","ticks","ended","talk"],.af 3 "now" (.v 0) (.v 1)>=>.sc 2 false false ["talk"] [(0,"self")] (.is (.me 18 (.v 0) .e0)) (.cm .LtE (.fl 2 "over" (.v 0)) (.fl 3 "now" (.v 1))) (.v 0)>=>.fo false [3] (.is (.sk 2 "over" (.v 2))) (.ex (.me 56 (.v 0) (.v 3^.fl 2 "over" (.v 3)^.e0))>=>.en)>=>.en⟩
noncomputable def sY:FD:=⟨2,4,"__init__",["self","form"],["self","form"],.aX (.no (.ca 15 (.v 1^.e0))) (.ra>=>.en) .en>=>.sf 4 "form" (.v 0) (.v 1)>=>.sf 4 "table" (.v 0) (.mk 32 (.v 1^.e0))>=>.sf 4 "strangers" (.v 0) (.mk 16 .e0)>=>.sf 4 "done" (.v 0) (.lm .e0)>=>.sf 4 "wish" (.v 0) .n>=>.en⟩
noncomputable def k8:FD:=⟨1,4,"deed",["self","deed"],["self","deed","answer"],.aX (.no (.ca 13 (.v 1^.e0))) (.ra>=>.en) .en>=>.set 2 (.me 57 (.v 0) (.ix (.v 1) (.i 0)^.sl (.v 1) (.p1 (.i 1)) .p0^.e0))>=>.ex (.ap (.fl 4 "done" (.v 0)) (.tu (.v 1^.v 2^.e0)^.e0))>=>.re (.v 2)>=>.en⟩
noncomputable def sW:FD:=⟨1,4,"wait",["self","ticks"],["self","ticks"],.re (.me 39 (.v 0) (.tu (.s "wait"^.v 1^.e0)^.e0))>=>.en⟩
noncomputable def sX:FD:=⟨1,4,"sent",["self","parts"],["self","parts","answer","number","kind","house","door","place","far","word","text"],.un [4,5,6,7,8,9,10] (.v 1)>=>.set 2 (.me 58 (.v 0) (.tu (.v 4^.v 5^.v 6^.v 7^.v 8^.e0)^.v 9^.e0))>=>.aX (.or (.cm .NotEq (.v 7) (.i 0)) (.cm .Eq (.ix (.v 2) (.i 0)) (.s "kept"))) (.re (.v 2)>=>.en) .en>=>.ra⟩
noncomputable def sg:FD:=⟨1,4,"picked_for",["self","door"],["self","door","pool","now"],.pr 2 3 (.fl 3 "pool" (.fl 4 "table" (.v 0))^.fl 3 "now" (.fl 4 "table" (.v 0))^.e0)>=>.aX (.an (.cm .IsNot (.fl 4 "wish" (.v 0)) .n) (.me 50 (.v 2) (.fl 4 "wish" (.v 0)^.v 3^.e0))) (.re (.fl 4 "wish" (.v 0))>=>.en) .en>=>.re (.me 64 (.v 2) (.ix (.fl 4 "form" (.v 0)) (.i 4)^.v 1^.v 3^.e0))>=>.en⟩
noncomputable def wd:FD:=⟨0,0,"write_to",["writer","reader"],["writer","reader","answer","arrived"],.set 2 (.me 62 (.v 0) (.fl 5 "place" (.v 1)^.fl 5 "known" (.v 1)^.e0))>=>.aX (.cm .NotEq (.ix (.v 2) (.i 0)) (.s "led")) (.re (.tu (.v 2^.n^.e0))>=>.en) .en>=>.set 3 (.me 74 (.fl 5 "gate" (.v 1)) (.s "note"^.fl 5 "place" (.v 0)^.ix (.v 2) (.i 1)^.fl 5 "known" (.v 1)^.s "say"^.s ""^.e0))>=>.re (.tu (.v 2^.v 3^.e0))>=>.en⟩
noncomputable def vJ:FD:=⟨0,0,"_law_cell",["script","k"],["script","k"],.aX (.cm .Lt (.v 1) (.bf "len" (.v 0^.e0))) (.re (.ix (.v 0) (.v 1))>=>.en) .en>=>.re (.i 0)>=>.en⟩
noncomputable def vH:FD:=⟨0,0,"_law_well",["cell","turn"],["cell","turn"],.aX (.cm .GtE (.v 0) (.op .Pow (.i 10) (.i 18))) (.re (.lm (.op .Sub (.v 0) (.op .Pow (.i 10) (.i 18))^.op .Mod (.v 0) (.i 2305843009213693951)^.v 1^.e0))>=>.en) .en>=>.re (.lm (.i 0^.op .Mod (.v 0) (.i 2305843009213693951)^.v 1^.e0))>=>.en⟩
noncomputable def qe:FD:=⟨0,0,"_law_take",["bag","many"],["bag","many","p","n","found"],.aX (.cm .Gt (.ix (.v 0) (.i 0)) (.i 0)) (.set 4 (.op .Mod (.ix (.v 0) (.i 0)) (.v 1))>=>.sp (.v 0) (.i 0) (.op .FloorDiv (.ix (.v 0) (.i 0)) (.v 1))>=>.re (.v 4)>=>.en) .en>=>.sp (.v 0) (.i 2) (.op .Add (.ix (.v 0) (.i 2)) (.i 1))>=>.set 2 (.i 2305843009213693951)>=>.set 3 (.op .Mod (.op .Add (.ix (.v 0) (.i 1)) (.op .Mult (.i 1000003) (.ix (.v 0) (.i 2)))) (.v 2))>=>.set 3 (.op .Mod (.op .Add (.op .Add (.op .Mult (.v 3) (.v 3)) (.op .Mult (.i 7919) (.op .Pow (.ix (.v 0) (.i 2)) (.i 2)))) (.i 5)) (.v 2))>=>.re (.op .Mod (.op .FloorDiv (.op .Mod (.op .Pow (.v 3) (.i 3)) (.v 2)) (.i 13)) (.v 1))>=>.en⟩
noncomputable def vF:FD:=⟨0,0,"is_whole_within",["thing","least","greatest"],["thing","least","greatest"],.re (.an (.ca 0 (.v 0^.e0)) (.ch .LtE .LtE (.v 1) (.v 0) (.v 2)))>=>.en⟩
noncomputable def vS:FD:=⟨0,0,"is_letter",["kind","word","text"],["kind","word","text"],.re (.an (.ca 6 (.v 0^.e0)) (.an (.ca 25 (.v 0^.v 1^.e0)) (.ca 8 (.v 2^.e0))))>=>.en⟩
noncomputable def sT:FD:=⟨2,1,"__init__",["self","low","high"],["self","low","high"],.sf 1 "low" (.v 0) (.v 1)>=>.sf 1 "high" (.v 0) (.v 2)>=>.sf 1 "mark" (.v 0) (.v 1)>=>.sf 1 "taken" (.v 0) .dk>=>.sf 1 "until" (.v 0) .dk>=>.en⟩
noncomputable def sv:FD:=⟨1,1,"is_free",["self","number","moment"],["self","number","moment"],.aX (.or (.no (.me 30 (.v 0) (.v 1^.e0))) (.dn false (.v 1) (.fl 1 "taken" (.v 0)))) (.re (.b false)>=>.en) .en>=>.re (.or (.dn true (.v 1) (.fl 1 "until" (.v 0))) (.cm .LtE (.dg (.fl 1 "until" (.v 0)) (.v 1)) (.v 2)))>=>.en⟩
noncomputable def sV:FD:=⟨1,1,"give",["self","number","until"],["self","number","until"],.dd (.fl 1 "taken" (.v 0)) (.v 1)>=>.dp (.fl 1 "until" (.v 0)) (.v 1) (.v 2)>=>.en⟩
noncomputable def sr:FD:=⟨1,3,"is_with",["self","number","place"],["self","number","place"],.re (.bf "any" (.cp false false ["talk"] [(2,"place")] (.iv (.dg (.fl 3 "by_number" (.v 0)) (.v 1))) (.b true) (.cm .Eq (.ix (.fl 2 "inner" (.v 0)) (.i 3)) (.v 1))^.e0))>=>.en⟩
noncomputable def sJ:FD:=⟨1,3,"lend",["self","number","inner"],["self","number","inner","holder"],.set 3 (.ca 27 (.fl 3 "form" (.v 0)^.v 2^.e0))>=>.ex (.me 31 (.fl 3 "pool" (.v 0)) (.v 1^.e0))>=>.dp (.fl 3 "holders" (.v 0)) (.v 1) (.v 3)>=>.dp (.fl 3 "numbers" (.v 0)) (.v 3) (.v 1)>=>.en⟩
noncomputable def sL:FD:=⟨1,3,"lead",["self","talk","state"],["self","talk","state"],.aX (.cm .Eq (.v 2) (.s "shut")) .ra .en>=>.sf 2 "state" (.v 1) (.v 2)>=>.sf 2 "over" (.v 1) (.op .Add (.fl 3 "now" (.v 0)) (.ca 28 (.fl 3 "form" (.v 0)^.v 2^.e0)))>=>.en⟩
noncomputable def sj:FD:=⟨1,3,"end_lend",["self","number","moment"],["self","number","moment"],.dd (.fl 3 "numbers" (.v 0)) (.dg (.fl 3 "holders" (.v 0)) (.v 1))>=>.dd (.fl 3 "holders" (.v 0)) (.v 1)>=>.ex (.me 51 (.fl 3 "pool" (.v 0)) (.v 1^.op .Add (.v 2) (.ix (.ix (.fl 3 "form" (.v 0)) (.i 7)) (.i 3))^.e0))>=>.en⟩
noncomputable def oC:FD:=⟨1,3,"end",["self","talk","moment"],["self","talk","moment","number","kind","house","door","place","far"],.un [4,5,6,7,8] (.fl 2 "inner" (.v 1))>=>.set 3 (.fl 2 "number" (.v 1))>=>.dd (.fl 3 "by_inner" (.v 0)) (.fl 2 "inner" (.v 1))>=>.dd (.dg (.fl 3 "by_number" (.v 0)) (.v 3)) (.tu (.v 4^.v 7^.v 8^.e0))>=>.aX (.cm .Gt (.bf "len" (.dg (.fl 3 "by_number" (.v 0)) (.v 3)^.e0)) (.i 0)) (.r0>=>.en) .en>=>.dd (.fl 3 "by_number" (.v 0)) (.v 3)>=>.aX (.dn false (.v 3) (.fl 3 "holders" (.v 0))) (.ex (.me 55 (.v 0) (.v 3^.v 2^.e0))>=>.en) .en>=>.en⟩
noncomputable def la:FD:=⟨1,4,"answered",["self","name","parts"],["self","name","parts","kind","place","far","number","word","text"],.aX (.cm .Eq (.v 1) (.s "out")) (.re (.me 41 (.v 0) (.v 2^.e0))>=>.en) .en>=>.aX (.cm .Eq (.v 1) (.s "come")) (.un [3,4,5,6,7,8] (.v 2)>=>.re (.me 73 (.v 0) (.v 3^.v 4^.v 5^.v 6^.v 7^.e0))>=>.en) .en>=>.aX (.cm .Eq (.v 1) (.s "lost")) .ra .en>=>.aX (.cm .Eq (.v 1) (.s "wait")) (.ex (.me 37 (.fl 4 "table" (.v 0)) (.ix (.v 2) (.i 0)^.e0))>=>.re .n>=>.en) .en>=>.ra⟩
noncomputable def oH:FD:=⟨1,4,"lead_out",["self","inner","word"],["self","inner","word","talk","state"],.set 3 (.me 33 (.fl 4 "table" (.v 0)) (.v 1^.e0))>=>.set 4 (.ca 63 (.ix (.v 1) (.i 0)^.ie (.cm .Is (.v 3) .n) .n (.fl 2 "state" (.v 3))^.s "house"^.v 2^.e0))>=>.aX (.cm .Is (.v 4) .n) (.re (.tu (.s "kept"^.s "astray"^.e0))>=>.en) .en>=>.aX (.cm .Is (.v 3) .n) (.re (.me 59 (.v 0) (.v 1^.v 4^.e0))>=>.en) .en>=>.ex (.me 54 (.fl 4 "table" (.v 0)) (.v 3^.v 4^.e0))>=>.re (.tu (.s "led"^.fl 2 "number" (.v 3)^.e0))>=>.en⟩
noncomputable def i9:FD:=⟨1,4,"begin_out",["self","inner","state"],["self","inner","state","number"],.set 3 (.me 34 (.fl 4 "table" (.v 0)) (.v 1^.e0))>=>.aX (.cm .Is (.v 3) .n) (.aX (.cm .GtE (.bf "len" (.me 36 (.fl 4 "table" (.v 0)) (.ix (.v 1) (.i 1)^.e0)^.e0)) (.ix (.fl 4 "form" (.v 0)) (.i 5))) (.re (.tu (.s "kept"^.s "most"^.e0))>=>.en) .en>=>.set 3 (.me 42 (.v 0) (.ix (.v 1) (.i 2)^.e0))>=>.aX (.cm .Is (.v 3) .n) (.re (.tu (.s "kept"^.s "full"^.e0))>=>.en) .en>=>.ex (.me 53 (.fl 4 "table" (.v 0)) (.v 3^.v 1^.e0))>=>.en) .en>=>.ex (.me 65 (.fl 4 "table" (.v 0)) (.v 1^.v 3^.v 2^.e0))>=>.re (.tu (.s "led"^.v 3^.e0))>=>.en⟩
noncomputable def sA:FD:=⟨1,4,"lead_in",["self","talk","word"],["self","talk","word","state","renew","kind","house","door","place","far"],.un [5,6,7,8,9] (.fl 2 "inner" (.v 1))>=>.set 3 (.ca 63 (.v 5^.fl 2 "state" (.v 1)^.s "far"^.v 2^.e0))>=>.aX (.cm .Is (.v 3) .n) (.re (.tu (.s "kept"^.s "astray"^.e0))>=>.en) .en>=>.set 4 (.ix (.fl 4 "form" (.v 0)) (.i 6))>=>.aX (.or (.v 4) (.cm .NotEq (.v 3) (.fl 2 "state" (.v 1)))) (.ex (.me 54 (.fl 4 "table" (.v 0)) (.v 1^.v 3^.e0))>=>.en) .en>=>.re (.tu (.s "in"^.v 6^.v 7^.e0))>=>.en⟩
noncomputable def sE:FD:=⟨1,4,"lets_note_in",["self","place","number"],["self","place","number","sieve"],.set 3 (.ix (.fl 4 "form" (.v 0)) (.i 3))>=>.re (.or (.cm .Eq (.v 3) (.s "all")) (.an (.cm .Eq (.v 3) (.s "place")) (.me 52 (.fl 4 "table" (.v 0)) (.v 2^.v 1^.e0))))>=>.en⟩
noncomputable def oF:FD:=⟨1,5,"write",["self","place","far"],["self","place","far"],.re (.me 75 (.fl 5 "gate" (.v 0)) (.s "note"^.g "HOUSE"^.fl 5 "door" (.v 0)^.v 1^.v 2^.s "say"^.s ""^.e0))>=>.en⟩
noncomputable def vN:FD:=⟨0,0,"next_state",["kind","state","side","word"],["kind","state","side","word"],.aX (.cm .Eq (.v 0) (.s "note")) (.re (.ca 29 (.v 1^.v 3^.e0))>=>.en) .en>=>.ra⟩
noncomputable def rX:FD:=⟨1,1,"picked",["self","pick","door","moment"],["self","pick","door","moment","number"],.aX (.an (.cm .Eq (.v 1) (.s "keep")) (.me 50 (.v 0) (.v 2^.v 3^.e0))) (.re (.v 2)>=>.en) .en>=>.fo false [4] (.is (.me 17 (.v 0) .e0)) (.aX (.me 50 (.v 0) (.v 4^.v 3^.e0)) (.re (.v 4)>=>.en) .en>=>.en)>=>.re .n>=>.en⟩
noncomputable def oE:FD:=⟨1,3,"begin",["self","inner","number","state"],["self","inner","number","state","talk","kind","house","door","place","far"],.un [5,6,7,8,9] (.v 1)>=>.set 4 (.mk 71 (.v 1^.v 2^.v 3^.op .Add (.fl 3 "now" (.v 0)) (.ca 28 (.fl 3 "form" (.v 0)^.v 3^.e0))^.e0))>=>.dp (.fl 3 "by_inner" (.v 0)) (.v 1) (.v 4)>=>.aX (.dn true (.v 2) (.fl 3 "by_number" (.v 0))) (.dp (.fl 3 "by_number" (.v 0)) (.v 2) .dt>=>.en) .en>=>.dp (.dg (.fl 3 "by_number" (.v 0)) (.v 2)) (.tu (.v 5^.v 8^.v 9^.e0)) (.v 4)>=>.en⟩
noncomputable def rY:FD:=⟨1,4,"sifted",["self","kind","place","number"],["self","kind","place","number","holder"],.set 4 (.me 35 (.fl 4 "table" (.v 0)) (.v 3^.e0))>=>.aX (.or (.cm .Is (.v 4) .n) (.cm .NotEq (.ix (.v 4) (.i 0)) (.v 1))) (.re (.tu (.s "kept"^.s "nobody"^.e0))>=>.en) .en>=>.aX (.or (.cm .Eq (.v 1) (.s "line")) (.no (.me 61 (.v 0) (.v 2^.v 3^.e0)))) (.re (.tu (.s "kept"^.s "sieve"^.e0))>=>.en) .en>=>.re (.tu (.s "in"^.ix (.v 4) (.i 1)^.ix (.v 4) (.i 2)^.e0))>=>.en⟩
noncomputable def sR:FD:=⟨2,5,"__init__",["self","form","place","door"],["self","form","place","door"],.sf 5 "gate" (.v 0) (.mk 38 (.v 1^.e0))>=>.sf 5 "place" (.v 0) (.v 2)>=>.sf 5 "door" (.v 0) (.v 3)>=>.sf 5 "known" (.v 0) (.ix (.me 62 (.v 0) (.g "HELPER_PLACE"^.g "HELPER_DOOR"^.e0)) (.i 1))>=>.en⟩
noncomputable def wz:FD:=⟨0,0,"meeting",["one","other","doors","steps"],["one","other","doors","steps","first","second","rows","step"],.aX (.or (.no (.ca 15 (.v 0^.e0))) (.no (.ca 15 (.v 1^.e0)))) (.ra>=>.en) .en>=>.aX (.or (.no (.ca 19 (.v 2^.e0))) (.no (.ca 20 (.v 3^.e0)))) (.ra>=>.en) .en>=>.set 4 (.mk 67 (.v 0^.g "FIRST_PLACE"^.ix (.v 2) (.i 0)^.e0))>=>.set 5 (.mk 67 (.v 1^.g "SECOND_PLACE"^.ix (.v 2) (.i 1)^.e0))>=>.set 6 (.lm .e0)>=>.fo false [7] (.is (.v 3)) (.aX (.cm .Eq (.v 7) (.s "one")) (.ex (.ap (.v 6) (.op .Add (.tu (.v 7^.e0)) (.ca 43 (.v 4^.v 5^.e0))^.e0))>=>.en) (.aX (.cm .Eq (.v 7) (.s "other")) (.ex (.ap (.v 6) (.op .Add (.tu (.v 7^.e0)) (.ca 43 (.v 5^.v 4^.e0))^.e0))>=>.en) (.ex (.me 40 (.fl 5 "gate" (.v 4)) (.v 7^.e0))>=>.ex (.me 40 (.fl 5 "gate" (.v 5)) (.v 7^.e0))>=>.en)>=>.en)>=>.en)>=>.re (.v 6)>=>.en⟩
noncomputable def wY:FD:=⟨0,0,"meets",["one","other","doors","steps"],["one","other","doors","steps","rows","led_in"],.set 4 (.ca 68 (.v 0^.v 1^.v 2^.v 3^.e0))>=>.set 5 (.cp false true ["step","answer","arrived"] [] (.is (.v 4)) (.an (.cm .IsNot (.v 2) .n) (.cm .Eq (.ix (.v 2) (.i 0)) (.s "in"))) (.v 0))>=>.re (.bf "all" (.cp false false ["writer"] [(5,"led_in")] (.ig "WRITERS") (.b true) (.cm .In (.v 0) (.v 1))^.e0))>=>.en⟩
noncomputable def wx:FD:=⟨0,0,"_law_due",["one","other","doors","steps"],["one","other","doors","steps","gates","known","found","step","at","answer","arrived","gate"],.set 4 (.ll (.mk 38 (.v 0^.e0)^.mk 38 (.v 1^.e0)^.e0))>=>.sc 5 false false ["k"] [(2,"doors"),(4,"gates")] (.r1 (.i 2)) (.b true) (.ix (.me 75 (.ix (.v 2) (.v 0)) (.s "note"^.i 0^.ix (.v 1) (.v 0)^.i 3^.i 1^.s "say"^.s ""^.e0)) (.i 1))>=>.set 6 (.lm .e0)>=>.fo false [7] (.is (.v 3)) (.aX (.cm .In (.v 7) (.tu (.s "one"^.s "other"^.e0))) (.set 8 (.bt "int" (.cm .Eq (.v 7) (.s "other")^.e0))>=>.set 9 (.me 75 (.ix (.v 4) (.v 8)) (.s "note"^.i 0^.ix (.v 2) (.v 8)^.op .Sub (.i 2) (.v 8)^.ix (.v 5) (.op .Sub (.i 1) (.v 8))^.s "say"^.s ""^.e0))>=>.set 10 .n>=>.aX (.cm .Eq (.ix (.v 9) (.i 0)) (.s "led")) (.set 10 (.me 74 (.ix (.v 4) (.op .Sub (.i 1) (.v 8))) (.s "note"^.op .Add (.i 1) (.v 8)^.ix (.v 9) (.i 1)^.ix (.v 5) (.op .Sub (.i 1) (.v 8))^.s "say"^.s ""^.e0))>=>.en) .en>=>.ex (.ap (.v 6) (.tu (.v 7^.v 9^.v 10^.e0)^.e0))>=>.en) (.fo false [11] (.is (.v 4)) (.ex (.me 40 (.v 11) (.v 7^.e0))>=>.en)>=>.en)>=>.en)>=>.re (.v 6)>=>.en⟩
noncomputable def sQ:FD:=⟨2,2,"__init__",["self","inner","number","state","over"],["self","inner","number","state","over"],.sf 2 "inner" (.v 0) (.v 1)>=>.sf 2 "number" (.v 0) (.v 2)>=>.sf 2 "state" (.v 0) (.v 3)>=>.sf 2 "over" (.v 0) (.v 4)>=>.en⟩
noncomputable def oG:FD:=⟨1,3,"of_outer",["self","kind","number","place","far"],["self","kind","number","place","far"],.aX (.dn true (.v 2) (.fl 3 "by_number" (.v 0))) (.re .n>=>.en) .en>=>.re (.d1 (.dg (.fl 3 "by_number" (.v 0)) (.v 2)) (.tu (.v 1^.v 3^.v 4^.e0)))>=>.en⟩
noncomputable def sD:FD:=⟨1,4,"come_in",["self","kind","place","far","number","word"],["self","kind","place","far","number","word","talk"],.set 6 (.me 72 (.fl 4 "table" (.v 0)) (.v 1^.v 4^.v 2^.v 3^.e0))>=>.aX (.cm .IsNot (.v 6) .n) (.re (.me 60 (.v 0) (.v 6^.v 5^.e0))>=>.en) .en>=>.aX (.me 30 (.fl 3 "pool" (.fl 4 "table" (.v 0))) (.v 4^.e0)) (.re (.me 66 (.v 0) (.v 1^.v 2^.v 4^.e0))>=>.en) .en>=>.ra⟩
noncomputable def sZ:FD:=⟨1,4,"come",["self","kind","place","far","number","word","text"],["self","kind","place","far","number","word","text"],.re (.me 39 (.v 0) (.tu (.s "come"^.v 1^.v 2^.v 3^.v 4^.v 5^.v 6^.e0)^.e0))>=>.en⟩
noncomputable def sI:FD:=⟨1,4,"out",["self","kind","house","door","place","far","word","text"],["self","kind","house","door","place","far","word","text"],.re (.me 39 (.v 0) (.tu (.s "out"^.v 1^.v 2^.v 3^.v 4^.v 5^.v 6^.v 7^.e0)^.e0))>=>.en⟩
end
noncomputable def S:SI where
 gi:=[("GREATEST_HOUSE",99),("GREATEST_DOOR",9999),("GREATEST_PLACE",1000000),("GREATEST_TICKS",1000000),("MOST_SIGNS",40),("FIRST_SIGN",32),("LAST_SIGN",126),("PERCENT_SIGN",37),("WIDEST_STEP",199),("GREATEST_MOST",200),("GREATEST_TIME",1000000),("FIRST_PLACE",1),("SECOND_PLACE",2),("HELPER_PLACE",3),("HELPER_DOOR",1),("HOUSE",0),("MOST_STEPS",100)]
 gt:=[("KINDS",["note","line"]),("NOTE_WORDS",["say"]),("LENDINGS",["door","place","talk"]),("SIEVES",["all","place","talk"]),("PICKS",["next","keep"]),("WRITERS",["one","other"])]
 tb:=["DEEDS","TIME_AT"]
 tt:=[]
 cl:=["Rules","Pool","Talk","Talks","Gate","Side"]
 fs:=[(0,"many_told"),(0,"standing"),(1,"low"),(1,"high"),(1,"mark"),(1,"taken"),(1,"until"),(2,"inner"),(2,"number"),(2,"state"),(2,"over"),(3,"form"),(3,"pool"),(3,"now"),(3,"by_inner"),(3,"by_number"),(3,"holders"),(3,"numbers"),(4,"form"),(4,"table"),(4,"strangers"),(4,"done"),(4,"wish"),(5,"gate"),(5,"place"),(5,"door"),(5,"known")]
 bl:=["all","any","bool","int","isinstance","len","list","ord","range","sorted","str","tuple"]
 fd:=[wg,wq,wG,wo,vE,wk,wD,Fi,wB,tK,tH,tG,wy,ml,wj,wF,sP,sm,su,wt,wm,vU,vI,wu,fj,wA,wC,vG,vV,vM,sH,sS,sM,sh,rZ,r8,sN,aE,sY,k8,sW,sX,sg,wd,vJ,vH,qe,vF,vS,sT,sv,sV,sr,sJ,sL,sj,oC,la,oH,i9,sA,sE,oF,vN,rX,oE,rY,sR,wz,wY,wx,sQ,oG,sD,sZ,sI]
 ln:=aE.N
 lp:=⟨304,38,304,58⟩
 lq:="Talks.pass_by.<locals>.<lambda>"
abbrev Qc:Stmt:=top 24
abbrev P2:Stmt:=top 50
abbrev P4:Stmt:=top 78
abbrev Ou:Stmt:=top 87
abbrev Pq:Stmt:=top 90
abbrev Jc:Stmt:=top 91
abbrev OP:Stmt:=inClass (top 66) 8
abbrev Od:Stmt:=inClass (top 66) 15
abbrev Oe:Stmt:=inClass (top 66) 3
abbrev SK:Stmt:=top 82
abbrev Pr:Stmt:=top 89
structure Env where
 tb:Str->bW
 C:Nat->Addr
 cv:List (Addr×Nat)
 lP:Addr:=0
def P(e:Env):iF:=⟨S,e.tb,e.C,e.cv,e.lP⟩
def rd(Q:aj):RD:={ nx:=λ_ M'=>Q .ak M',rt:=Q }
section
variable {e:Env}{n:Nat}{M:RM}{Q:aj}{σ:bB}{rs:LR}
theorem qxd{x:RV}:iK (y::N) (x::rs)=some x::iK N rs:=by unfold iK;rw[eG,eG,Nat.add_sub_add_right];rfl
theorem qxb:iK (y::N) []=none::iK N []:=rfl
theorem qxc:iK [] []= []:=rfl
theorem Ja{A B C:Prop}(h:A)(k:B=C):(A/\B)=C:=by rw[eq_true h,true_and,k]
theorem qxl:(rd Q).nx σ M=Q .ak M:=rfl
theorem qxk:(rd Q).rt=Q:=rfl
theorem qEM{i:Nat}:((P e).Gn n).fn i rs M Q=aw (P e) n i rs M Q:=rfl
theorem qyp{i:Nat}:((P e).Gn (n+1)).kX i rs M Q=aw (P e) n i rs M Q:=rfl
theorem qEK{x:Str}:((P e).Gn n).tb x=e.tb x:=rfl
theorem qyq:((P e).Gn n).hE=e.cv.map λq=>(q.1,aw (P e) n q.2):=rfl
theorem g_C{i:Nat}:((P e).Gn n).C i=e.C i:=rfl
theorem qEL:((P e).Gn n).lP=e.lP:=rfl
theorem us{i:Nat}{rs:LR}(h:S.fd[i]? =some d):aw (P e) (n+1) i rs M Q=(rs.length=d.ps.length/\(tr ((P e).Gn n) d.body).S (rd Q) (iK d.N rs) M):=by rw[FN (p:=P e) h];rfl
end
def lj(e:Env)(I J:RV):RO:=.ins (e.C 0) [("many_told",I),("standing",J)]
def cz(e:Env)(I J W Y Z:RV):RO:=.ins (e.C 1) [("low",I),("high",J),("mark",W),("taken",Y),("until",Z)]
def bE(e:Env)(I J W Y:RV):RO:=.ins (e.C 2) [("inner",I),("number",J),("state",W),("over",Y)]
def aY(e:Env)(I J W Y Z v5 v6:RV):RO:=.ins (e.C 3) [("form",I),("pool",J),("now",W),("by_inner",Y),("by_number",Z),("holders",v5),("numbers",v6)]
def bD(e:Env)(I J W Y Z:RV):RO:=.ins (e.C 4) [("form",I),("table",J),("strangers",W),("done",Y),("wish",Z)]
def eX(e:Env)(I J W Y:RV):RO:=.ins (e.C 5) [("gate",I),("place",J),("door",W),("known",Y)]
section
variable {e:Env}{n:Nat}{M:RM}{Q:aj}{σ:bB}{rs:LR}{x:Addr}{y:RV}{N:RM->Prop}{t:bR}{sp:bX}{o a:T}
theorem lI{e:Env}{v:RV}{fs:List (Str×RV)}(h:fs.lookup f=some v):fO (e.C c) f Q M (some (.ins (e.C c) fs))=Q v M:=by rw[Al,h];rfl
theorem wI{fs:List (Str×RV)}(h:Nat.ble (fs.length+1) 1000=true):sO (e.C c) f y N x M (some (.ins (e.C c) fs))=N (put M x (.ins (e.C c) (jx f y fs))):=by rw[UN];exact Ja (Nat.le_of_ble_eq_true h) rfl
theorem mI{fs:List (Str×RV)}(h:fs.lookup f=none):mO (e.C c) f sp t σ Q x M (some (.ins (e.C c) fs))=t σ M λrs M2=>sp (.ref x::rs) M2 Q:=by rw[HJ];exact Ja h rfl
abbrev lT(e:Env)(c:Nat)(r:RO)(f:Str)(v:RV):Prop:=∀{Q:aj} {M:RM},fO (e.C c) f Q M (some r)=Q v M
abbrev wT(e:Env)(c:Nat)(y:RV)(r r1:RO)(f:Str):Prop:=∀{N:RM->Prop} {x:Addr} {M:RM},sO (e.C c) f y N x M (some r)=N (put M x r1)
abbrev mT(e:Env)(c:Nat)(r:RO)(f:Str):Prop:=∀{sp:bX} {t:bR} {σ:bB} {Q:aj} {x:Addr} {M:RM},mO (e.C c) f sp t σ Q x M (some r)=t σ M λrs M2=>sp (.ref x::rs) M2 Q
abbrev tT(i c:Nat)(f:Str):Prop:=∀{e:Env} {n:Nat} {M:RM} {Q:aj} {σ:bB} {o a:T},(tr ((P e).Gn n) (.me i o a)).E σ M Q=(tr ((P e).Gn n) o).E σ M (oq (e.C c) f (aw (P e) n i) (tr ((P e).Gn n) a).A σ Q)
abbrev kT(i c:Nat):Prop:=∀{e:Env} {n:Nat} {M:RM} {Q:aj} {σ:bB} {a:T},(tr ((P e).Gn (n+1)) (.mk i a)).E σ M Q=(tr ((P e).Gn (n+1)) a).A σ M λrs M1=>∀x,M1 x=none->aw (P e) n i (.ref x::rs) (put M1 x (.ins (e.C c) [])) λv M2=>v= .ak/\Q (.ref x) M2
abbrev gT(f:Str)(i:Int):Prop:=∀{e:Env} {n:Nat} {M:RM} {Q:aj} {σ:bB},(tr ((P e).Gn n) (.g f)).E σ M Q=Q (.int i) M
abbrev cT(f:Str)(l:az):Prop:=∀{e:Env} {n:Nat} {M:RM} {Q:aj} {σ:bB} {a:T} {neg:Bool},(tr ((P e).Gn n) (.ic neg a f)).E σ M Q=(tr ((P e).Gn n) a).E σ M λx M1=>aB 15 x=true/\Q (.bl (if neg then !inR x (l.map RV.str)else inR x (l.map RV.str))) M1
theorem qdH:lT e 0 (lj e v0 v1) "many_told" v0:=lI rfl
theorem qdr:wT e 0 y (lj e v0 v1) (lj e y v1) "many_told":=wI rfl
theorem qeb:lT e 0 (lj e v0 v1) "standing" v1:=lI rfl
theorem qdY:wT e 0 y (lj e v0 v1) (lj e v0 y) "standing":=wI rfl
theorem qk8:wT e 0 y (.ins (e.C 0) []) (.ins (e.C 0) [("many_told",y)]) "many_told":=wI rfl
theorem qk7:wT e 0 y (.ins (e.C 0) [("many_told",v0)]) (lj e v0 y) "standing":=wI rfl
theorem qru:kT 16 0:=qP (d:=sP) rfl
theorem qkU:lT e 1 (cz e v0 v1 v2 v3 v4) "low" v0:=lI rfl
theorem qkr:wT e 1 y (cz e v0 v1 v2 v3 v4) (cz e y v1 v2 v3 v4) "low":=wI rfl
theorem qjg:lT e 1 (cz e v0 v1 v2 v3 v4) "high" v1:=lI rfl
theorem qiD:wT e 1 y (cz e v0 v1 v2 v3 v4) (cz e v0 y v2 v3 v4) "high":=wI rfl
theorem qjf:lT e 1 (cz e v0 v1 v2 v3 v4) "mark" v2:=lI rfl
theorem qiC:wT e 1 y (cz e v0 v1 v2 v3 v4) (cz e v0 v1 y v3 v4) "mark":=wI rfl
theorem qhT:lT e 1 (cz e v0 v1 v2 v3 v4) "taken" v3:=lI rfl
theorem qg6:wT e 1 y (cz e v0 v1 v2 v3 v4) (cz e v0 v1 v2 y v4) "taken":=wI rfl
theorem qhS:lT e 1 (cz e v0 v1 v2 v3 v4) "until" v4:=lI rfl
theorem qg5:wT e 1 y (cz e v0 v1 v2 v3 v4) (cz e v0 v1 v2 v3 y) "until":=wI rfl
theorem qna:wT e 1 y (.ins (e.C 1) []) (.ins (e.C 1) [("low",y)]) "low":=wI rfl
theorem qm9:wT e 1 y (.ins (e.C 1) [("low",v0)]) (.ins (e.C 1) [("low",v0),("high",y)]) "high":=wI rfl
theorem qm8:wT e 1 y (.ins (e.C 1) [("low",v0),("high",v1)]) (.ins (e.C 1) [("low",v0),("high",v1),("mark",y)]) "mark":=wI rfl
theorem qm7:wT e 1 y (.ins (e.C 1) [("low",v0),("high",v1),("mark",v2)]) (.ins (e.C 1) [("low",v0),("high",v1),("mark",v2),("taken",y)]) "taken":=wI rfl
theorem qm6:wT e 1 y (.ins (e.C 1) [("low",v0),("high",v1),("mark",v2),("taken",v3)]) (cz e v0 v1 v2 v3 y) "until":=wI rfl
theorem N8:mT e 1 (cz e v0 v1 v2 v3 v4) "from_mark":=mI rfl
theorem qd3:tT 17 1 "from_mark":=cG (d:=sm) rfl
theorem qhH:mT e 1 (cz e v0 v1 v2 v3 v4) "has":=mI rfl
theorem qkv:tT 30 1 "has":=cG (d:=sH) rfl
theorem N9:mT e 1 (cz e v0 v1 v2 v3 v4) "take":=mI rfl
theorem qiK:tT 31 1 "take":=cG (d:=sS) rfl
theorem quM:kT 49 1:=qP (d:=sT) rfl
theorem qd7:mT e 1 (cz e v0 v1 v2 v3 v4) "is_free":=mI rfl
theorem qfm:tT 50 1 "is_free":=cG (d:=sv) rfl
theorem Oa:mT e 1 (cz e v0 v1 v2 v3 v4) "give":=mI rfl
theorem qiL:tT 51 1 "give":=cG (d:=sV) rfl
theorem qeQ:mT e 1 (cz e v0 v1 v2 v3 v4) "picked":=mI rfl
theorem qga:tT 64 1 "picked":=cG (d:=rX) rfl
theorem qhP:lT e 2 (bE e v0 v1 v2 v3) "inner" v0:=lI rfl
theorem qg2:wT e 2 y (bE e v0 v1 v2 v3) (bE e y v1 v2 v3) "inner":=wI rfl
theorem qgv:lT e 2 (bE e v0 v1 v2 v3) "number" v1:=lI rfl
theorem qf6:wT e 2 y (bE e v0 v1 v2 v3) (bE e v0 y v2 v3) "number":=wI rfl
theorem qhO:lT e 2 (bE e v0 v1 v2 v3) "state" v2:=lI rfl
theorem qg1:wT e 2 y (bE e v0 v1 v2 v3) (bE e v0 v1 y v3) "state":=wI rfl
theorem qjc:lT e 2 (bE e v0 v1 v2 v3) "over" v3:=lI rfl
theorem qiz:wT e 2 y (bE e v0 v1 v2 v3) (bE e v0 v1 v2 y) "over":=wI rfl
theorem qm1:wT e 2 y (.ins (e.C 2) []) (.ins (e.C 2) [("inner",y)]) "inner":=wI rfl
theorem qm0:wT e 2 y (.ins (e.C 2) [("inner",v0)]) (.ins (e.C 2) [("inner",v0),("number",y)]) "number":=wI rfl
theorem qmZ:wT e 2 y (.ins (e.C 2) [("inner",v0),("number",v1)]) (.ins (e.C 2) [("inner",v0),("number",v1),("state",y)]) "state":=wI rfl
theorem qmY:wT e 2 y (.ins (e.C 2) [("inner",v0),("number",v1),("state",v2)]) (bE e v0 v1 v2 y) "over":=wI rfl
theorem quK:kT 71 2:=qP (d:=sQ) rfl
theorem qhN:lT e 3 (aY e v0 v1 v2 v3 v4 v5 v6) "form" v0:=lI rfl
theorem qg0:wT e 3 y (aY e v0 v1 v2 v3 v4 v5 v6) (aY e y v1 v2 v3 v4 v5 v6) "form":=wI rfl
theorem qhM:lT e 3 (aY e v0 v1 v2 v3 v4 v5 v6) "pool" v1:=lI rfl
theorem qgZ:wT e 3 y (aY e v0 v1 v2 v3 v4 v5 v6) (aY e v0 y v2 v3 v4 v5 v6) "pool":=wI rfl
theorem qjb:lT e 3 (aY e v0 v1 v2 v3 v4 v5 v6) "now" v2:=lI rfl
theorem qiy:wT e 3 y (aY e v0 v1 v2 v3 v4 v5 v6) (aY e v0 v1 y v3 v4 v5 v6) "now":=wI rfl
theorem qea:lT e 3 (aY e v0 v1 v2 v3 v4 v5 v6) "by_inner" v3:=lI rfl
theorem qdX:wT e 3 y (aY e v0 v1 v2 v3 v4 v5 v6) (aY e v0 v1 v2 y v4 v5 v6) "by_inner":=wI rfl
theorem qdG:lT e 3 (aY e v0 v1 v2 v3 v4 v5 v6) "by_number" v4:=lI rfl
theorem qdq:wT e 3 y (aY e v0 v1 v2 v3 v4 v5 v6) (aY e v0 v1 v2 v3 y v5 v6) "by_number":=wI rfl
theorem qeX:lT e 3 (aY e v0 v1 v2 v3 v4 v5 v6) "holders" v5:=lI rfl
theorem qeu:wT e 3 y (aY e v0 v1 v2 v3 v4 v5 v6) (aY e v0 v1 v2 v3 v4 y v6) "holders":=wI rfl
theorem qeW:lT e 3 (aY e v0 v1 v2 v3 v4 v5 v6) "numbers" v6:=lI rfl
theorem qet:wT e 3 y (aY e v0 v1 v2 v3 v4 v5 v6) (aY e v0 v1 v2 v3 v4 v5 y) "numbers":=wI rfl
theorem qk6:wT e 3 y (.ins (e.C 3) []) (.ins (e.C 3) [("form",y)]) "form":=wI rfl
theorem qk5:wT e 3 y (.ins (e.C 3) [("form",v0)]) (.ins (e.C 3) [("form",v0),("pool",y)]) "pool":=wI rfl
theorem qk4:wT e 3 y (.ins (e.C 3) [("form",v0),("pool",v1)]) (.ins (e.C 3) [("form",v0),("pool",v1),("now",y)]) "now":=wI rfl
theorem qk3:wT e 3 y (.ins (e.C 3) [("form",v0),("pool",v1),("now",v2)]) (.ins (e.C 3) [("form",v0),("pool",v1),("now",v2),("by_inner",y)]) "by_inner":=wI rfl
theorem qk2:wT e 3 y (.ins (e.C 3) [("form",v0),("pool",v1),("now",v2),("by_inner",v3)]) (.ins (e.C 3) [("form",v0),("pool",v1),("now",v2),("by_inner",v3),("by_number",y)]) "by_number":=wI rfl
theorem qk1:wT e 3 y (.ins (e.C 3) [("form",v0),("pool",v1),("now",v2),("by_inner",v3),("by_number",v4)]) (.ins (e.C 3) [("form",v0),("pool",v1),("now",v2),("by_inner",v3),("by_number",v4),("holders",y)]) "holders":=wI rfl
theorem qk0:wT e 3 y (.ins (e.C 3) [("form",v0),("pool",v1),("now",v2),("by_inner",v3),("by_number",v4),("holders",v5)]) (aY e v0 v1 v2 v3 v4 v5 y) "numbers":=wI rfl
theorem qd6:mT e 3 (aY e v0 v1 v2 v3 v4 v5 v6) "living":=mI rfl
theorem qfl:tT 18 3 "living":=cG (d:=su) rfl
theorem qrt:kT 32 3:=qP (d:=sM) rfl
theorem qc1:mT e 3 (aY e v0 v1 v2 v3 v4 v5 v6) "of_inner":=mI rfl
theorem qd1:tT 33 3 "of_inner":=cG (d:=sh) rfl
theorem qcF:mT e 3 (aY e v0 v1 v2 v3 v4 v5 v6) "number_of":=mI rfl
theorem qds:tT 34 3 "number_of":=cG (d:=rZ) rfl
theorem qcG:mT e 3 (aY e v0 v1 v2 v3 v4 v5 v6) "holder_at":=mI rfl
theorem qdt:tT 35 3 "holder_at":=cG (d:=r8) rfl
theorem qfx:mT e 3 (aY e v0 v1 v2 v3 v4 v5 v6) "held":=mI rfl
theorem qhf:tT 36 3 "held":=cG (d:=sN) rfl
theorem qdz:mT e 3 (aY e v0 v1 v2 v3 v4 v5 v6) "pass_by":=mI rfl
theorem qev:tT 37 3 "pass_by":=cG (d:=aE) rfl
theorem qdA:mT e 3 (aY e v0 v1 v2 v3 v4 v5 v6) "is_with":=mI rfl
theorem qew:tT 52 3 "is_with":=cG (d:=sr) rfl
theorem qfv:mT e 3 (aY e v0 v1 v2 v3 v4 v5 v6) "lend":=mI rfl
theorem qhd:tT 53 3 "lend":=cG (d:=sJ) rfl
theorem qfw:mT e 3 (aY e v0 v1 v2 v3 v4 v5 v6) "lead":=mI rfl
theorem qhe:tT 54 3 "lead":=cG (d:=sL) rfl
theorem qc2:mT e 3 (aY e v0 v1 v2 v3 v4 v5 v6) "end_lend":=mI rfl
theorem qd2:tT 55 3 "end_lend":=cG (d:=sj) rfl
theorem qgp:mT e 3 (aY e v0 v1 v2 v3 v4 v5 v6) "end":=mI rfl
theorem qiJ:tT 56 3 "end":=cG (d:=oC) rfl
theorem qeP:mT e 3 (aY e v0 v1 v2 v3 v4 v5 v6) "begin":=mI rfl
theorem qf9:tT 65 3 "begin":=cG (d:=oE) rfl
theorem qc0:mT e 3 (aY e v0 v1 v2 v3 v4 v5 v6) "of_outer":=mI rfl
theorem qd0:tT 72 3 "of_outer":=cG (d:=oG) rfl
theorem qji:lT e 4 (bD e v0 v1 v2 v3 v4) "form" v0:=lI rfl
theorem qiF:wT e 4 y (bD e v0 v1 v2 v3 v4) (bD e y v1 v2 v3 v4) "form":=wI rfl
theorem qhU:lT e 4 (bD e v0 v1 v2 v3 v4) "table" v1:=lI rfl
theorem qg7:wT e 4 y (bD e v0 v1 v2 v3 v4) (bD e v0 y v2 v3 v4) "table":=wI rfl
theorem qec:lT e 4 (bD e v0 v1 v2 v3 v4) "strangers" v2:=lI rfl
theorem qdZ:wT e 4 y (bD e v0 v1 v2 v3 v4) (bD e v0 v1 y v3 v4) "strangers":=wI rfl
theorem qjj:lT e 4 (bD e v0 v1 v2 v3 v4) "done" v3:=lI rfl
theorem qiG:wT e 4 y (bD e v0 v1 v2 v3 v4) (bD e v0 v1 v2 y v4) "done":=wI rfl
theorem qjh:lT e 4 (bD e v0 v1 v2 v3 v4) "wish" v4:=lI rfl
theorem qiE:wT e 4 y (bD e v0 v1 v2 v3 v4) (bD e v0 v1 v2 v3 y) "wish":=wI rfl
theorem qnf:wT e 4 y (.ins (e.C 4) []) (.ins (e.C 4) [("form",y)]) "form":=wI rfl
theorem qne:wT e 4 y (.ins (e.C 4) [("form",v0)]) (.ins (e.C 4) [("form",v0),("table",y)]) "table":=wI rfl
theorem qnd:wT e 4 y (.ins (e.C 4) [("form",v0),("table",v1)]) (.ins (e.C 4) [("form",v0),("table",v1),("strangers",y)]) "strangers":=wI rfl
theorem qnc:wT e 4 y (.ins (e.C 4) [("form",v0),("table",v1),("strangers",v2)]) (.ins (e.C 4) [("form",v0),("table",v1),("strangers",v2),("done",y)]) "done":=wI rfl
theorem qnb:wT e 4 y (.ins (e.C 4) [("form",v0),("table",v1),("strangers",v2),("done",v3)]) (bD e v0 v1 v2 v3 y) "wish":=wI rfl
theorem quN:kT 38 4:=qP (d:=sY) rfl
theorem qgs:mT e 4 (bD e v0 v1 v2 v3 v4) "deed":=mI rfl
theorem qiO:tT 39 4 "deed":=cG (d:=k8) rfl
theorem qgq:mT e 4 (bD e v0 v1 v2 v3 v4) "wait":=mI rfl
theorem qiM:tT 40 4 "wait":=cG (d:=sW) rfl
theorem qgr:mT e 4 (bD e v0 v1 v2 v3 v4) "sent":=mI rfl
theorem qiN:tT 41 4 "sent":=cG (d:=sX) rfl
theorem qcH:mT e 4 (bD e v0 v1 v2 v3 v4) "picked_for":=mI rfl
theorem qdu:tT 42 4 "picked_for":=cG (d:=sg) rfl
theorem qdC:mT e 4 (bD e v0 v1 v2 v3 v4) "answered":=mI rfl
theorem qey:tT 57 4 "answered":=cG (d:=la) rfl
theorem qdB:mT e 4 (bD e v0 v1 v2 v3 v4) "lead_out":=mI rfl
theorem qex:tT 58 4 "lead_out":=cG (d:=oH) rfl
theorem qc5:mT e 4 (bD e v0 v1 v2 v3 v4) "begin_out":=mI rfl
theorem qd4:tT 59 4 "begin_out":=cG (d:=i9) rfl
theorem qd8:mT e 4 (bD e v0 v1 v2 v3 v4) "lead_in":=mI rfl
theorem qfn:tT 60 4 "lead_in":=cG (d:=sA) rfl
theorem qce:mT e 4 (bD e v0 v1 v2 v3 v4) "lets_note_in":=mI rfl
theorem qcE:tT 61 4 "lets_note_in":=cG (d:=sE) rfl
theorem qeR:mT e 4 (bD e v0 v1 v2 v3 v4) "sifted":=mI rfl
theorem qgb:tT 66 4 "sifted":=cG (d:=rY) rfl
theorem qd9:mT e 4 (bD e v0 v1 v2 v3 v4) "come_in":=mI rfl
theorem qfo:tT 73 4 "come_in":=cG (d:=sD) rfl
theorem qgt:mT e 4 (bD e v0 v1 v2 v3 v4) "come":=mI rfl
theorem qiP:tT 74 4 "come":=cG (d:=sZ) rfl
theorem qhI:mT e 4 (bD e v0 v1 v2 v3 v4) "out":=mI rfl
theorem qkw:tT 75 4 "out":=cG (d:=sI) rfl
theorem qjd:lT e 5 (eX e v0 v1 v2 v3) "gate" v0:=lI rfl
theorem qiA:wT e 5 y (eX e v0 v1 v2 v3) (eX e y v1 v2 v3) "gate":=wI rfl
theorem qhQ:lT e 5 (eX e v0 v1 v2 v3) "place" v1:=lI rfl
theorem qg3:wT e 5 y (eX e v0 v1 v2 v3) (eX e v0 y v2 v3) "place":=wI rfl
theorem qje:lT e 5 (eX e v0 v1 v2 v3) "door" v2:=lI rfl
theorem qiB:wT e 5 y (eX e v0 v1 v2 v3) (eX e v0 v1 y v3) "door":=wI rfl
theorem qhR:lT e 5 (eX e v0 v1 v2 v3) "known" v3:=lI rfl
theorem qg4:wT e 5 y (eX e v0 v1 v2 v3) (eX e v0 v1 v2 y) "known":=wI rfl
theorem qm5:wT e 5 y (.ins (e.C 5) []) (.ins (e.C 5) [("gate",y)]) "gate":=wI rfl
theorem qm4:wT e 5 y (.ins (e.C 5) [("gate",v0)]) (.ins (e.C 5) [("gate",v0),("place",y)]) "place":=wI rfl
theorem qm3:wT e 5 y (.ins (e.C 5) [("gate",v0),("place",v1)]) (.ins (e.C 5) [("gate",v0),("place",v1),("door",y)]) "door":=wI rfl
theorem qm2:wT e 5 y (.ins (e.C 5) [("gate",v0),("place",v1),("door",v2)]) (eX e v0 v1 v2 y) "known":=wI rfl
theorem qfy:mT e 5 (eX e v0 v1 v2 v3) "write":=mI rfl
theorem qhg:tT 62 5 "write":=cG (d:=oF) rfl
theorem quL:kT 67 5:=qP (d:=sR) rfl
theorem qeg:gT "GREATEST_HOUSE" 99:=gj rfl
theorem qe8:gT "GREATEST_DOOR" 9999:=gj rfl
theorem qef:gT "GREATEST_PLACE" 1000000:=gj rfl
theorem qee:gT "GREATEST_TICKS" 1000000:=gj rfl
theorem qic:gT "MOST_SIGNS" 40:=gj rfl
theorem qid:gT "FIRST_SIGN" 32:=gj rfl
theorem qjv:gT "LAST_SIGN" 126:=gj rfl
theorem qfC:gT "PERCENT_SIGN" 37:=gj rfl
theorem qgE:gT "WIDEST_STEP" 199:=gj rfl
theorem qe7:gT "GREATEST_MOST" 200:=gj rfl
theorem qe6:gT "GREATEST_TIME" 1000000:=gj rfl
theorem qgG:gT "FIRST_PLACE" 1:=gj rfl
theorem qfB:gT "SECOND_PLACE" 2:=gj rfl
theorem qfD:gT "HELPER_PLACE" 3:=gj rfl
theorem qgF:gT "HELPER_DOOR" 1:=gj rfl
theorem qrX:gT "HOUSE" 0:=gj rfl
theorem qib:gT "MOST_STEPS" 100:=gj rfl
theorem qsf:cT "KINDS" ["note","line"]:=qQ rfl
theorem qis:cT "NOTE_WORDS" ["say"]:=qQ rfl
theorem qln:cT "LENDINGS" ["door","place","talk"]:=qQ rfl
theorem qph:cT "SIEVES" ["all","place","talk"]:=qQ rfl
theorem qse:cT "PICKS" ["next","keep"]:=qQ rfl
theorem qnJ:cT "WRITERS" ["one","other"]:=qQ rfl
theorem qng:(tr ((P e).Gn n) (.ig "WRITERS")).I σ M QI=QI ((["one","other"]:az).map RV.str) cV id M:=Nk rfl
end
local macro_rules | `(tactic| walk_at "ev") => do
 let f:=fun(t:String)=>(t.splitOn "|").toArray.map fun s=>Lean.mkIdent s.toName
 let a<-(f "qdH|qdr|qeb|qdY|qk8|qk7|qru|qkU|qkr|qjg|qiD|qjf|qiC|qhT|qg6|qhS|qg5|qna|qm9|qm8|qm7|qm6|N8|qd3|qhH|qkv|N9|qiK|quM|qd7|qfm|Oa|qiL|qeQ|qga|qhP|qg2|qgv|qf6|qhO|qg1|qjc|qiz|qm1|qm0|qmZ|qmY|quK|qhN|qg0|qhM|qgZ|qjb|qiy|qea|qdX|qdG|qdq|qeX|qeu|qeW|qet|qk6|qk5|qk4|qk3|qk2|qk1|qk0|qd6|qfl|qrt|qc1|qd1|qcF|qds|qcG|qdt|qfx|qhf|qdz|qev|qdA|qew|qfv|qhd|qfw|qhe|qc2|qd2|qgp|qiJ|qeP|qf9|qc0|qd0|qji|qiF|qhU|qg7|qec|qdZ|qjj|qiG|qjh|qiE|qnf|qne|qnd|qnc|qnb|quN|qgs|qiO|qgq|qiM|qgr|qiN|qcH|qdu|qdC|qey|qdB|qex|qc5|qd4|qd8|qfn|qce|qcE|qeR|qgb|qd9|qfo|qgt|qiP|qhI|qkw|qjd|qiA|qhQ|qg3|qje|qiB|qhR|qg4|qm5|qm4|qm3|qm2|qfy|qhg|quL|qeg|qe8|qef|qee|qic|qid|qjv|qfC|qgE|qe7|qe6|qgG|qfB|qfD|qgF|qrX|qib|qsf|qis|qln|qph|qse|qnJ|qng|qxd|qxb|qxc|qxl|qxk|qEM|qyp|g_C|qEL|qEK|qyq|zj|qrD|qrx|qrA|qn2|qqo|OM|qrU|qxy|qxx|qyr|qyl|qyD|qr5|qxL|qr9|qvg|qC3|qDr|qrE|qvO|cy|T4|qsF|qsH|qvt|qyG|qC9|qrB|qwl|qwk|mD|qvd|qDR|qrz|qDN|qDT|qEF|Iv|quO|qED|qxq|qEG|qDm|Ma|qvJ|qvK|qso|qvH|qvG|qsl|qsm|qsn|qvF|qDQ|qEC|qrQ|qrO|qrR|qrP|qrN|qvx|JR|JQ|L4|L3|qFg|L6|L5|qFf|qCZ|qs6|qC1|qrw|qDl|zo|qDa|qrC|qDX|qur|GQ|qxW|qxX|qxU|qxV|qqx|quE|qyh|qyg|qyf|reduceIte|qsh|qEE|O8|Yo|t_i|t_s|t_b|t_n|qCY|qC7|qDn|xq|qDo|quS|T_v|qFq|qFr|qFo|qFs|qFm|qFt|qFp|qFn|qFj|T_b|qFu|qFk|qFl|mm|Sk|qDs|qC6|quQ|qC8|qDe|qC0|qDc|qDb|L8|L7|qDd|qC2|qC5|quP|qC4|qDf|qDp|qDq|L9|qDj|qDh|qDk|qDi|qDg|qDV|UK|qDP|qDS|qDU|qDO|qDW|qrv|qDM|Am|qxT|qE1|qE2|qE4|qE5|qE3|qsd|qyQ|qyP|qyM|qyL|JJ").mapM fun s=>`(Lean.Parser.Tactic.simpLemma| ↓$s:ident)
 let b<-(f "List.getElem?_cons_zero|List.getElem?_cons_succ|true_and|Bool.not_true|Bool.not_false|jC|Bool.true_and|Bool.false_and|Bool.and_true|Bool.true_or|Bool.false_or|List.set_cons_zero|List.set_cons_succ|tV|eG|List.length_nil|bT|pS|List.cons_append|mZ|Option.join_some|Bc|Option.isSome_none|aa|ij|qn6|Nat.reduceAdd|Nat.zero_add|Int.reduceBEq|beq_self_eq_true|Int.reduceLE|Int.reduceLT|decide_true|decide_false|z_0|qCB|qE0|z_1|qCA|qEZ|z_2|qCz|qEY|z_3|qCy|qEX|z_4|qCx|qEW|z_5|qCw|qEV|z_6|qCv|qEU|z_7|qCu|qET|z_8|qCt|qES|z_9|qCs|qER|and_true").mapM fun s=>`(Lean.Parser.Tactic.simpLemma| $s:ident)
 let c:=a++b
 `(tactic|simp -implicitDefEqProofs only[$c,*])
local macro_rules | `(tactic| walk_at "evs") => do
 let some s<-Lean.Macro.expandMacro? (<-`(tactic|walk_at "ev"))|Lean.Macro.throwUnsupported
 match s with
 | `(tactic|simp -implicitDefEqProofs only[$ls,*])=>`(tactic|simp -implicitDefEqProofs only[*,ai,ne_eq,not_false_eq_true,$ls,*])
 |_=>Lean.Macro.throwUnsupported
section
variable {e:Env}{n:Nat}{M:RM}{Q:aj}
theorem Qi{i:Int}:aw (P e) (n+1) 0 [.int i] M Q=Q (.bl true) M:=by
 rw[us (i:=0) (d:=wg) rfl];simp only[wg];walk_at "ev"
theorem mi{i j k:Int}:aw (P e) (n+2) 47 [.int i,.int j,.int k] M Q=Q (.bl (decide (j<=i)&&decide (i<=k))) M:=by
 rw[us (i:=47) (d:=vF) rfl];simp only[vF];walk_at "ev";simp only[↓Qi];walk_at "ev";simp only[Jp]
theorem Ql{i:Int}:aw (P e) (n+3) 1 [.int i] M Q=Q (.bl (decide (0<=i)&&decide (i<=99))) M:=by
 rw[us (i:=1) (d:=wq) rfl];simp only[wq];walk_at "ev";rw[mi]
theorem qd{i:Int}:aw (P e) (n+3) 2 [.int i] M Q=Q (.bl (decide (1<=i)&&decide (i<=9999))) M:=by
 rw[us (i:=2) (d:=wG) rfl];simp only[wG];walk_at "ev";rw[mi]
theorem Qj{i:Int}:aw (P e) (n+3) 3 [.int i] M Q=Q (.bl (decide (0<=i)&&decide (i<=1000000))) M:=by
 rw[us (i:=3) (d:=wo) rfl];simp only[wo];walk_at "ev";rw[mi]
theorem Qk{i:Int}:aw (P e) (n+3) 4 [.int i] M Q=Q (.bl (decide (1<=i)&&decide (i<=1000000))) M:=by
 rw[us (i:=4) (d:=vE) rfl];simp only[vE];walk_at "ev";rw[mi]
theorem PX:inR (.str "note") [.str "note",.str "line"]=true:=by decide+kernel
theorem Qt:inR (.str "say") [.str "say"]=true:=by decide+kernel
theorem tX{x:Str}:(aB k (.str x)=true)=True:=by cases k<;>exact eq_true rfl
theorem Og:aw (P e) (n+1) 6 [.str "note"] M Q=Q (.bl true) M:=by
 rw[us (i:=6) (d:=wD) rfl];simp only[wD];walk_at "ev";rw[PX,tX,true_and]
theorem Oo:aw (P e) (n+1) 25 [.str "note",.str "say"] M Q=Q (.bl true) M:=by
 rw[us (i:=25) (d:=wA) rfl];simp only[wA];walk_at "ev";rw[Qt,tX,true_and]
theorem dh:cV M:=trivial
theorem X6:Str.length "" =0:=by decide+kernel
theorem Tq:lx "" = []:=by decide+kernel
theorem OY(h:Q (.bl true) M):aw (P e) (n+2) 8 [.str ""] M Q:=by
 rw[us (i:=8) (d:=wB) rfl];simp only[wB];walk_at "ev";rw[X6,Tq];walk_at "ev";refine(jd (bd:=gP false 1) (λ_=>true) (λ_=>.bl true) dh _ _ (λx hx=>by cases hx) ?_)
 exact(xl (bs:=[])).mpr h
theorem Em(h:Q (.bl true) M):aw (P e) (n+3) 48 [.str "note",.str "say",.str ""] M Q:=by
 rw[us (i:=48) (d:=vS) rfl];simp only[vS];walk_at "ev";rw[Og,mm,if_pos rfl,Oo,mm,if_pos rfl];exact OY h
theorem gK{a b c d:Int}(h1:a<=b)(h2:c<=d):(decide (a<=b)&&decide (c<=d))=true:=by simp[h1,h2]
theorem R0{a b c d:Int}(I:0<=a/\a<=99)(J:1<=b/\b<=9999)(W:0<=c/\c<=1000000)(hd:1<=d/\d<=9999)(h:Q (.bl true) M):aw (P e) (n+4) 9 [.tup [.str "note",.int a,.int b,.int c,.int d,.str "say",.str ""]] M Q:=by
 rw[us (i:=9) (d:=tK) rfl];simp only[tK];walk_at "ev";simp only[↓Ql,↓qd,↓Qj,↓mm,gK I.1 I.2,gK J.1 J.2,gK W.1 W.2,gK hd.1 hd.2,↓reduceIte];exact Em h
theorem zm{x:Str}:aw (P e) (n+1) 12 [.tup (.str x::r)] M Q=Q (.str x) M:=by
 rw[us (i:=12) (d:=wy) rfl];simp only[wy];walk_at "ev";simp only[U8,jC,↓reduceIte]
structure Tb(e:Env):Prop where
 out:∃a,fR (e.tb "DEEDS") (.inr "out")=some (.ref a)/\(a,9)∈e.cv
 come:∃a,fR (e.tb "DEEDS") (.inr "come")=some (.ref a)/\(a,10)∈e.cv
 wait:∃a,fR (e.tb "DEEDS") (.inr "wait")=some (.ref a)/\(a,11)∈e.cv
 time:fR (e.tb "TIME_AT") (.inr "note")=some (.int 0)
theorem P6(tb:Tb e){a b c d:Int}(I:0<=a/\a<=99)(J:1<=b/\b<=9999)(W:0<=c/\c<=1000000)(hd:1<=d/\d<=9999)(h:Q (.bl true) M):aw (P e) (n+5) 13 [.tup [.str "out",.str "note",.int a,.int b,.int c,.int d,.str "say",.str ""]] M Q:=by
 rw[us (i:=13) (d:=ml) rfl];simp only[ml];walk_at "ev";rw[zm];walk_at "ev";obtain⟨f,h1,h2⟩:=tb.out;rw[h1,zj,zo,if_neg (by simp)]
 refine⟨_,bu.mpr ⟨_,h2,rfl⟩,?_⟩;walk_at "ev";rw[qM];exact R0 I J W hd h
theorem P7{a b c:Int}(I:1<=a/\a<=1000000)(J:1<=b/\b<=9999)(W:1<=c/\c<=9999)(h:Q (.bl true) M):aw (P e) (n+4) 10 [.tup [.str "note",.int a,.int b,.int c,.str "say",.str ""]] M Q:=by
 rw[us (i:=10) (d:=tH) rfl];simp only[tH];walk_at "ev";simp only[↓Qk,↓qd,↓mm,gK I.1 I.2,gK J.1 J.2,gK W.1 W.2,↓reduceIte];exact Em h
theorem O0(tb:Tb e){a b c:Int}(I:1<=a/\a<=1000000)(J:1<=b/\b<=9999)(W:1<=c/\c<=9999)(h:Q (.bl true) M):aw (P e) (n+5) 13 [.tup [.str "come",.str "note",.int a,.int b,.int c,.str "say",.str ""]] M Q:=by
 rw[us (i:=13) (d:=ml) rfl];simp only[ml];walk_at "ev";rw[zm];walk_at "ev";obtain⟨f,h1,h2⟩:=tb.come;rw[h1,zj,zo,if_neg (by simp)]
 refine⟨_,bu.mpr ⟨_,h2,rfl⟩,?_⟩;walk_at "ev";rw[qM];exact P7 I J W h
theorem EM:aw (P e) (n+3) 5 [.int k] M Q=Q (.bl (decide (0<=k)&&decide (k<=1000000))) M:=by
 rw[us (i:=5) (d:=wk) rfl];simp only[wk];walk_at "ev";rw[mi]
theorem OZ(tb:Tb e)(h1:0<=k)(h2:k<=1000000)(h:Q (.bl true) M):aw (P e) (n+5) 13 [.tup [.str "wait",.int k]] M Q:=by
 rw[us (i:=13) (d:=ml) rfl];simp only[ml];walk_at "ev";rw[zm];walk_at "ev";obtain⟨f,I,J⟩:=tb.wait;rw[I,zj,zo,if_neg (by simp)]
 refine⟨_,bu.mpr ⟨_,J,rfl⟩,?_⟩;walk_at "ev";rw[qM];rw[us (i:=11) (d:=tG) rfl];simp only[tG];walk_at "ev";rw[EM];simp only[h1,h2,decide_true,Bool.and_true];exact h
theorem yY(tb:Tb e){l h le J I mo re t0 t1 t2 t3:RV}:aw (P e) (n+1) 28 [.tup [l,h,le,J,I,mo,re,.tup [t0,t1,t2,t3]],.str "note"] M Q=Q t0 M:=by
 rw[us (i:=28) (d:=vV) rfl];simp only[vV];walk_at "ev";rw[tb.time];walk_at "ev"
theorem O5{s:RV}(h:s= .ak∨s= .str "note"):aw (P e) (n+1) 29 [s,.str "say"] M Q=Q (.str "note") M:=by
 rcases h with rfl|rfl<;>(rw[us (i:=29) (d:=vM) rfl];simp only[vM];walk_at "ev")
theorem yZ{s I:RV}(h:s= .ak∨s= .str "note"):aw (P e) (n+2) 63 [.str "note",s,I,.str "say"] M Q=Q (.str "note") M:=by
 rw[us (i:=63) (d:=vN) rfl];simp only[vN];walk_at "ev";rw[O5 h]
theorem Rk{l h Z Y mo re ti J ho I pl W:RV}:aw (P e) (n+1) 27 [.tup [l,h,.str lend,Z,Y,mo,re,ti],.tup [J,ho,I,pl,W]] M Q=
 Q (if lend= "door" then .tup [J,ho,I,.ak,.ak]else if lend= "place" then .tup [J,ho,I,pl,.ak]else .tup [J,ho,I,pl,W]) M:=by
 rw[us (i:=27) (d:=vG) rfl];simp only[vG];walk_at "ev";simp only[beq_iff_eq]
 by_cases h1:lend= "door"
 . rw[if_pos h1,if_pos h1]
 . rw[if_neg h1,if_neg h1]
   by_cases h2:lend= "place"
   . rw[if_pos h2,if_pos h2]
   . rw[if_neg h2,if_neg h2]
theorem Rc{l h:Int}(h1:1<=l)(h2:l<=h)(I:h<=9999)(J:h<=l+199):aw (P e) (n+4) 26 [.int l,.int h] M Q=Q (.bl true) M:=by
 rw[us (i:=26) (d:=wC) rfl];simp only[wC];walk_at "ev";rw[qd,gK h1 (by omega),mm,if_pos rfl,qd,gK (by omega) I,mm,if_pos rfl]
 rw[decide_eq_true h2,decide_eq_true J];rfl
theorem Px{a b c d:Int}(I:1<=a/\a<=1000000)(J:1<=b/\b<=1000000)(W:1<=c/\c<=1000000)(hd:0<=d/\d<=1000000)(h:Q (.bl true) M):aw (P e) (n+3) 14 [.tup [.int a,.int b,.int c,.int d]] M Q:=by
 rw[us (i:=14) (d:=wj) rfl];simp only[wj];walk_at "ev";rw[show gG [RV.int a,RV.int b,RV.int c,RV.int d] none (some 3)= [RV.int a,RV.int b,RV.int c]from rfl]
 refine⟨(by decide:3<sizeLine),jd (bd:=gP false 1) (λ_=>true) (λ_=>.bl true) dh _ _ (λx hx=>⟨[x],rfl,λK h=>h,λ_ K h=>?_⟩) ?_⟩
 . have:∃i:Int,x= .int i/\1<=i/\i<=1000000:=by
    simp only[cj,iV,or_false]at hx;rcases hx with rfl|rfl|rfl
    . exact⟨a,rfl,I⟩
    . exact⟨b,rfl,J⟩
    . exact⟨c,rfl,W⟩
   obtain⟨i,rfl,h1,h2⟩:=this;walk_at "ev";rw[mi,gK h1 h2];exact h
 . refine(xl (bs:=[true,true,true])).mpr ?_
   show vq _ Q (.bl true) M;rw[mm,if_pos rfl,mi,gK hd.1 hd.2];exact h
theorem TU{x:Str}(h:x= "door"∨x= "place"∨x= "talk"):inR (.str x) [.str "door",.str "place",.str "talk"]=true:=by rcases h with rfl|rfl|rfl<;>decide+kernel
theorem Q3{x:Str}(h:x= "all"∨x= "place"∨x= "talk"):inR (.str x) [.str "all",.str "place",.str "talk"]=true:=by rcases h with rfl|rfl|rfl<;>decide+kernel
theorem Sy{x:Str}(h:x= "next"∨x= "keep"):inR (.str x) [.str "next",.str "keep"]=true:=by rcases h with rfl|rfl<;>decide+kernel
structure Fm where
 low:Int
 high:Int
 lend:Str
 sieve:Str
 pick:Str
 most:Int
 renew:Bool
 t0:Int
 t1:Int
 t2:Int
 t3:Int
def Fm.times(f:Fm):RV:=.tup [.int f.t0,.int f.t1,.int f.t2,.int f.t3]
def Fm.r(f:Fm):RV:=.tup [.int f.low,.int f.high,.str f.lend,.str f.sieve,.str f.pick,.int f.most,.bl f.renew,f.times]
structure Fm.Ok(f:Fm):Prop where
 lo:1<=f.low
 le:f.low<=f.high
 hi:f.high<=9999
 wide:f.high<=f.low+199
 lend:f.lend= "door"∨f.lend= "place"∨f.lend= "talk"
 sieve:f.sieve= "all"∨f.sieve= "place"∨f.sieve= "talk"
 pick:f.pick= "next"∨f.pick= "keep"
 most:1<=f.most/\f.most<=200
 t0:1<=f.t0/\f.t0<=1000000
 t1:1<=f.t1/\f.t1<=1000000
 t2:1<=f.t2/\f.t2<=1000000
 t3:0<=f.t3/\f.t3<=1000000
theorem zh{f:Fm}(ok:f.Ok)(h:Q (.bl true) M):aw (P e) (n+5) 15 [f.r] M Q:=by
 unfold Fm.r;rw[us (i:=15) (d:=wF) rfl];simp only[wF];walk_at "ev";simp only[TU ok.lend,Q3 ok.sieve,Sy ok.pick,tX,↓reduceIte,Bool.not_true,jC,true_and];rw[mi,gK ok.most.1 ok.most.2];walk_at "ev";rw[Rc ok.lo ok.le ok.hi ok.wide,mm,if_pos rfl];exact Px ok.t0 ok.t1 ok.t2 ok.t3 h
end
section
variable {κ κ' β:Type}[DecidableEq κ][DecidableEq κ']{g:κ->κ'}{v:β->RV}
def enc(g:κ->κ')(v:β->RV)(l:List (κ×β)):List (κ'×RV):=l.map λx=>(g x.1,v x.2)
theorem oU(I:∀a b,g a=g b->a=b):∀{l:List (κ×β)},lk (enc g v l) (g k)=(lk l k).map v
 | []=>rfl
 |(j,x)::r=>by
  show lk ((g j,v x)::enc g v r) (g k)=_;rw[fm,fm]
  by_cases h:j=k
  . rw[if_pos h,if_pos (by rw[h])];rfl
  . rw[if_neg h,if_neg (λz=>h (I _ _ z))];exact oU I
theorem mw(I:∀a b,g a=g b->a=b){l:List (κ×β)}:pt (enc g v l) (g k) (v y)=enc g v (pt l k y):=by
 have e1:((enc g v l).any λkv=>decide (kv.1=g k))=(l.any λkv=>decide (kv.1=k)):=by
  unfold enc;rw[List.any_map];congr 1;funext x;exact decide_eq_decide.mpr ⟨λz=>I _ _ z,λz=>by show g x.1=g k;rw[z]⟩
 unfold pt;rw[e1];split
 . unfold enc
   rw[bV,bV];refine jD λx _=>?_
   show(if g x.1=g k then(g x.1,v y)else(g x.1,v x.2))=(g (if x.1=k then(x.1,y)else x).1,v (if x.1=k then(x.1,y)else x).2)
   by_cases h:x.1=k
   . rw[if_pos h,if_pos (by rw[h])]
   . rw[if_neg h,if_neg (λz=>h (I _ _ z))]
 . unfold enc;rw[fe];rfl
theorem lA(I:∀a b,g a=g b->a=b){l:List (κ×β)}:dr (enc g v l) (g k)=enc g v (dr l k):=by
 unfold dr enc;rw[List.filter_map];congr 2;funext x;exact decide_eq_decide.mpr ⟨λz q=>z (by rw[<-q]),λz q=>z (I _ _ q)⟩
theorem Tr{l:List (κ×β)}(h:lk l k=none):dr l k=l:=by
 unfold dr;refine pR.mpr λx hx=>?_
 unfold lk at h;rw[Option.map_eq_none_iff,List.find?_eq_none]at h;have:=h x hx;simpa using this
theorem jc{l:List (κ×β)}:(enc g v l).length=l.length:=by simp[enc]
theorem UB{l:List (κ×β)}:(pt l k y).length<=l.length+1:=by
 unfold pt;split<;>simp
theorem mv{l:List (κ×β)}(h:lk l k=none):pt l k y=l++ [(k,y)]:=by
 unfold pt;rw[if_neg];intro z;obtain⟨x,hx,e⟩:=lU.mp z;unfold lk at h;rw[Option.map_eq_none_iff,List.find?_eq_none]at h;exact h x hx e
theorem iM(a b)(h:(Sum.inl a:Key)= .inl b):a=b:=Sum.inl.inj h
theorem je(a b:TK)(h:id a=id b):a=b:=h
end
section
variable {e:Env}{n:Nat}{M:RM}{Q:aj}
structure ao where
 low:Int
 high:Int
 mark:Int
 taken:List (Int×Unit)
 bF:List (Int×Int)
def eT(l:List (Int×Unit)):bW:=enc Sum.inl (λ_=>.bl true) l
def eU(l:List (Int×Int)):bW:=enc Sum.inl RV.int l
structure gL(e:Env)(M:RM)(a ta un:Addr)(p:ao):Prop where
 o:M a=some (cz e (.int p.low) (.int p.high) (.int p.mark) (.ref ta) (.ref un))
 t:M ta=some (.dk (eT p.taken))
 u:M un=some (.dk (eU p.bF))
def ao.has(p:ao)(i:Int):Bool:=decide (p.low<=i)&&decide (i<=p.high)
def ao.free(p:ao)(i m:Int):Bool:=p.has i&& !(lk p.taken i).isSome&&(match lk p.bF i with|none=>true|some u=>decide (u<=m))
theorem Ji{l:List (Int×Unit)}{i:Int}:(lk (eT l) (.inl i)).isSome=(lk l i).isSome:=by
 unfold eT;rw[oU iM];simp
theorem Jo{l:List (Int×Int)}{i:Int}:lk (eU l) (.inl i)=(lk l i).map RV.int:=oU iM
theorem Jz{a:Addr}{l h i:Int}{mk ta un:RV}(o:M a=some (cz e (.int l) (.int h) mk ta un)):aw (P e) (n+1) 30 [.ref a,.int i] M Q=Q (.bl (decide (l<=i)&&decide (i<=h))) M:=by
 rw[us (i:=30) (d:=sH) rfl];simp only[sH];walk_at "ev";rw[o];walk_at "ev";rw[o];walk_at "ev";exact Jp
theorem Fl{a ta un:Addr}{p:ao}{i m:Int}(h:gL e M a ta un p):aw (P e) (n+2) 50 [.ref a,.int i,.int m] M Q=Q (.bl (p.free i m)) M:=by
 obtain⟨ho,I,J⟩:=h;rw[us (i:=50) (d:=sv) rfl];simp only[sv];walk_at "evs";rw[Jz ho];walk_at "evs";rw[Ji,Jo];unfold ao.free ao.has;cases(decide (p.low<=i)&&decide (i<=p.high))<;>cases(lk p.taken i).isSome<;>cases lk p.bF i<;>simp[wO,Sk,dm]<;>rfl
def ao.line(p:ao):List Int:=(List.range (p.high+1-p.mark).toNat).map (λ(i:Nat)=>p.mark+(i:Int))++(List.range (p.mark-p.low).toNat).map λ(i:Nat)=>p.low+(i:Int)
structure ao.Ok(p:ao):Prop where
 lo:1<=p.low
 mlo:p.low<=p.mark
 mhi:p.mark<=p.high
 hi:p.high<=9999
 wide:p.high<=p.low+199
theorem FY{a:Int}:wM a k=((List.range k).map λ(i:Nat)=>a+(i:Int)).map RV.int:=by unfold wM;rw[bV];rfl
theorem RA(p:ao)(ok:p.Ok):p.line.length<=200:=by
 obtain⟨o1,I,J,W,Y⟩:=ok;unfold ao.line;simp;omega
theorem Pp{a ta un:Addr}{p:ao}(ok:p.Ok)(h:gL e M a ta un p)(J:Q (.ls (p.line.map RV.int)) M):aw (P e) (n+1) 17 [.ref a] M Q:=by
 have I:=RA p ok;obtain⟨ho,W,Y⟩:=h;obtain⟨o1,Z,o3,o4,o5⟩:=ok;rw[us (i:=17) (d:=sm) rfl];simp only[sm];walk_at "evs";rw[FY,FY,<-fe];refine⟨by omega,by omega,by omega,by omega,?_,J⟩
 unfold ao.line at I;simp only[br,dH]at I ⊢;exact dJ I (by decide)
def ao.pick(p:ao)(keep:Bool)(door m:Int):Option Int:=if(keep&&p.free door m)=true then some door else p.line.find? λi=>p.free i m
def pA:Option Int->RV
 |some i=>.int i
 |none=>.ak
theorem RZ{a ta un:Addr}{p:ao}{pick:Str}(ok:p.Ok)(h:gL e M a ta un p)(hq:Q (pA (p.pick (pick== "keep") d m)) M):aw (P e) (n+3) 64 [.ref a,.str pick,.int d,.int m] M Q:=by
 obtain⟨ho,ht,hu⟩:=id h;have rest:∀(xs:List Int) (z:Option RV),Q (pA (xs.find? λi=>p.free i m)) M->iQ (gQ 4) (tr ((P e).Gn (n+2)) (.se (.aX (.me 50 (.v 0) (.ec (.v 4) (.ec (.v 3) .e0))) (.se (.re (.v 4)) .en) .en) .en)).S
  { nx:=(tr ((P e).Gn (n+2)) (.se (.re .n) .en)).S (rd Q),rt:=Q,bk:=(rd Q).bk,ct:=(rd Q).ct } cV id (xs.map RV.int) [some (.ref a),some (.str pick),some (.int d),some (.int m),z] M:=by
  intro xs
  induction xs with
  |nil=>intro z hq;refine⟨dh,?_⟩;show Q .ak M;exact hq
  |cons x xs ih=>
   intro z hq;refine⟨dh,?_⟩;unfold gQ;walk_at "evs";rw[Fl h,xq];rw[List.find?_cons]at hq;cases e1:p.free x m with
   |true=>rw[e1]at hq;rw[if_pos rfl];first|exact hq|exact And.intro dh hq
   |false=>rw[e1]at hq;rw[if_neg (by simp)];exact ih _ hq
 have tail:Q (pA (p.line.find? λi=>p.free i m)) M->aw (P e) (n+2) 17 [.ref a] M (kS λxs ok un M1=>iQ (gQ 4) (tr ((P e).Gn (n+2)) (.se (.aX (.me 50 (.v 0) (.ec (.v 4) (.ec (.v 3) .e0))) (.se (.re (.v 4)) .en) .en) .en)).S
  { nx:=(tr ((P e).Gn (n+2)) (.se (.re .n) .en)).S (rd Q),rt:=Q,bk:=(rd Q).bk,ct:=(rd Q).ct } ok un xs [some (.ref a),some (.str pick),some (.int d),some (.int m),none] M1):=λhq=>Pp ok h (rest _ _ hq)
 rw[us (i:=64) (d:=rX) rfl];simp only[rX];walk_at "evs";unfold ao.pick at hq;cases e1:(pick== "keep")with
 |false=>
  rw[e1]at hq;simp only[Bool.false_and,jC,↓reduceIte]at hq ⊢;exact tail hq
 |true=>
  rw[e1]at hq;simp only[Bool.true_and,↓reduceIte]at hq ⊢;rw[Fl h,xq];cases e2:p.free d m with
  |true=>rw[e2]at hq;rw[if_pos rfl];exact hq
  |false=>
   rw[e2]at hq;simp only[jC,↓reduceIte]at hq ⊢;rw[ho,N8];exact tail hq
def ao.take(p:ao)(i:Int):ao:={ p with taken:=pt p.taken i (),bF:=dr p.bF i,mark:=if i=p.high then p.low else i+1 }
theorem zB{a:Addr}(h:M a=some o):put M a o=M:=by
 funext b;unfold put;by_cases z:b=a
 . rw[if_pos z,z,h]
 . rw[if_neg z]
theorem zd{a b:Addr}{o:RO}(h1:M a=some (.ins C fs))(h2:M b=some (.dk kvs)):a≠b:=λz=>by rw[z,h2]at h1;cases h1
theorem Ut{a ta un:Addr}{p:ao}{i:Int}(h:gL e M a ta un p)(W:p.taken.length<1000)(Z:un≠ta)
 (I:Q .ak (put (put (put M ta (.dk (eT (p.take i).taken))) un (.dk (eU (p.take i).bF))) a (cz e (.int p.low) (.int p.high) (.int (p.take i).mark) (.ref ta) (.ref un)))):aw (P e) (n+1) 31 [.ref a,.int i] M Q:=by
 obtain⟨ho,Y,J⟩:=h;have n1:a≠ta:=zd (o:=.dk []) ho Y;have n2:a≠un:=zd (o:=.dk []) ho J;have e1:pt (eT p.taken) (Sum.inl i) (RV.bl true)=eT (p.take i).taken:=mw (v:=λ_:Unit=>RV.bl true) iM (y:=())
 have e2:dr (eU p.bF) (Sum.inl i)=eU (p.take i).bF:=lA iM;have fin:∀M1,M1=put (put M ta (.dk (eT (p.take i).taken))) un (.dk (eU (p.take i).bF))->if(i==p.high)=true then Q .ak (put M1 a (cz e (.int p.low) (.int p.high) (.int p.low) (.ref ta) (.ref un)))else Q .ak (put M1 a (cz e (.int p.low) (.int p.high) (.int (i+1)) (.ref ta) (.ref un))):=λM1 h2=>by
  subst h2;unfold ao.take at I ⊢
  by_cases z:i=p.high
  . rw[if_pos (by simpa using z)];simp only[if_pos z]at I;exact I
  . rw[if_neg (by simpa using z)];simp only[if_neg z]at I;exact I
 rw[us (i:=31) (d:=sS) rfl];simp only[sS];walk_at "evs";rw[Jo];refine⟨by unfold eT;rw[jc];exact gz W (by decide),?_⟩
 cases e3:lk p.bF i with
 |none=>
  rw[if_neg (by simp)]
  refine fin _ ?_;have:(p.take i).bF=p.bF:=Tr e3;rw[this];exact(zB ((ai Z).trans J)).symm
 |some v=>
  simp only[Option.map_some,Bc,if_true,true_and]
  all_goals exact fin _ rfl
end
section
variable {e:Env}{n:Nat}{M:RM}{Q:aj}
structure bc where
 kind:Str
 house:Int
 door:Int
 place:Int
 far:Int
def bc.k(i:bc):TK:=[some (.inr i.kind),some (.inl i.house),some (.inl i.door),some (.inl i.place),some (.inl i.far)]
def bc.r(i:bc):RV:=.tup [.str i.kind,.int i.house,.int i.door,.int i.place,.int i.far]
theorem GO:∀k,qT (k.map oR)=some k
 | []=>rfl
 |x::r=>by
  have e1:xX (oR x)=some x:=by cases x with|none=>rfl|some k=>cases k<;>rfl
  show(match xX (oR x),qT (r.map oR)with|some k,some ks=>some (k::ks)|_,_=>none)=_
  rw[e1,GO r]
theorem qb(k):eY (iT k)=some k:=GO k
def bx(f:Fm)(i:bc):TK:=if f.lend= "door" then [some (.inr i.kind),some (.inl i.house),some (.inl i.door),none,none]else if f.lend= "place" then [some (.inr i.kind),some (.inl i.house),some (.inl i.door),some (.inl i.place),none]else i.k
theorem EN{f:Fm}{i:bc}:aw (P e) (n+1) 27 [f.r,i.r] M Q=Q (iT (bx f i)) M:=by
 unfold Fm.r bc.r bx;rw[Rk]
 by_cases h1:f.lend= "door"
 . rw[if_pos h1,if_pos h1];rfl
 . rw[if_neg h1,if_neg h1]
   by_cases h2:f.lend= "place"
   . rw[if_pos h2,if_pos h2];rfl
   . rw[if_neg h2,if_neg h2];rfl
def eA(l:List (TK×Addr)):List (TK×RV):=enc id RV.ref l
def eB(l:List (Int×Addr)):bW:=enc Sum.inl RV.ref l
def eH(l:List (Int×TK)):bW:=enc Sum.inl iT l
def eN(l:List (TK×Int)):List (TK×RV):=enc id RV.int l
theorem qG{l:List (TK×Addr)}:lk (eA l) k=(lk l k).map RV.ref:=oU (g:=id) je
theorem mF{l:List (Int×Addr)}{i:Int}:lk (eB l) (.inl i)=(lk l i).map RV.ref:=oU iM
theorem Jj{l:List (TK×Int)}:lk (eN l) k=(lk l k).map RV.int:=oU (g:=id) je
theorem AH{l:List (Int×TK)}{i:Int}:lk (eH l) (.inl i)=(lk l i).map iT:=oU iM
def pB:Option Addr->RV
 |some a=>.ref a
 |none=>.ak
variable {t pl bi bn ho nu:Addr}{fr now:RV}
theorem Qg{l:List (TK×Addr)}(J:M t=some (aY e fr rp now (.ref bi) rbn rho rnu))(I:M bi=some (.dt (eA l))):aw (P e) (n+1) 33 [.ref t,iT k] M Q=Q (pB (lk l k)) M:=by
 rw[us (i:=33) (d:=sh) rfl];simp only[sh];walk_at "evs";rw[Aw (qb k),qG];cases lk l k<;>rfl
theorem vL{f:Fm}{i:bc}{l:List (TK×Int)}(J:M t=some (aY e f.r rp now rbi rbn rho (.ref nu)))(I:M nu=some (.dt (eN l))):aw (P e) (n+2) 34 [.ref t,i.r] M Q=Q (pA (lk l (bx f i))) M:=by
 rw[us (i:=34) (d:=rZ) rfl];simp only[rZ];walk_at "evs";rw[EN];first|rw[OM]|skip
 rw[I,Aw (qb _),Jj];cases lk l (bx f i)<;>rfl
def iR(l:List (Int×TK))(h:Int):List Int:=(l.filter λx=>decide (x.2[1]? =some (some (.inl h)))).map (·.1)
def tag:RO->Nat
 | .dk _=>0
 | .dt _=>1
 | .lst _=>2
 | .fk _=>3
 | .ft _=>4
 | .tb _ _ _=>5
 | .ins _ fs=>10+fs.length
theorem bo{a b:Addr}(h1:M a=some o)(h2:M b=some o')(h:(tag o==tag o')=false:=by rfl):a≠b:=λz=>by
 rw[z,h2]at h1;cases h1;simp at h
theorem Jn[DecidableEq κ]{l:List (κ×β)}:lk (pt l k y) k=some y:=by
 induction l with
 |nil=>show lk [(k,y)] k=_;rw[fm,if_pos rfl]
 |cons x r ih=>
  obtain⟨j,z⟩:=x;unfold pt at ih ⊢;rw[jE]
  by_cases h:j=k
  . rw[if_pos (by simp[h])]
    show lk ((if(j,z).1=k then((j,z).1,y)else(j,z))::_) k=_
    rw[if_pos h,fm,if_pos h]
  . rw[show(decide ((j,z).1=k)||r.any λkv=>decide (kv.1=k))=r.any λkv=>decide (kv.1=k) by simp[h]]
    split
    . rename_i h2
      rw[if_pos h2]at ih;show lk ((if(j,z).1=k then((j,z).1,y)else(j,z))::_) k=_
      rw[if_neg h,fm,if_neg h];exact ih
    . rename_i h2
      rw[if_neg h2]at ih;show lk ((j,z)::(r++ [(k,y)])) k=_;rw[fm,if_neg h];exact ih
theorem bZ{x a:Addr}(hx:M x=none)(h:M a=some o):a≠x:=λz=>by
 rw[z,hx]at h;cases h
theorem aN{x a:Addr}(h:put M a o x=none):M x=none/\x≠a:=by
 unfold put at h
 by_cases z:x=a
 . rw[if_pos z]at h;cases h
 . rw[if_neg z]at h;exact⟨h,z⟩
theorem wK{a b:Addr}(h:a≠b):put (put M a o) b o'=put (put M b o') a o:=by
 funext c;unfold put
 by_cases I:c=b
 . rw[if_pos I,if_neg (by rw[I];exactλz=>h z.symm),if_pos I]
 . rw[if_neg I,if_neg I]
def rN(h:Int):RV->Bool
 | .tup [_,.tup (_::.int j::_)]=>j==h
 |_=>false
def vo:RV->RV
 | .tup [k,_]=>k
 |_=>.ak
theorem held_eq:∀{l:List (Int×TK)},(∀x∈l,∃k j r,x.2=k::some (.inl j)::r)->((iN (eH l)).filter (rN h)).map vo=(iR l h).map RV.int
 | [],_=>rfl
 |(m,y)::l,hh=>by
  obtain⟨k,j,r,e1⟩:=hh (m,y) (.head _);have e1:y=k::some (.inl j)::r:=e1;subst e1;have I:=held_eq (h:=h) (l:=l) λx hx=>hh x (.tail _ hx)
  show List.map vo (List.filter (rN h) (.tup [.int m,iT (k::some (.inl j)::r)]::iN (eH l)))=_;have p1:rN h (.tup [.int m,iT (k::some (.inl j)::r)])=(j==h):=rfl;unfold iR at I ⊢
  by_cases z:j=h
  . rw[yi (by rw[p1];simpa using z),yi (by simpa using z),bT,bT,bT,I];rfl
  . rw[yj (by rw[p1];simpa using z),yj (by simpa using z),I]
theorem zR{l:List (Int×TK)}(ht:M t=some (aY e fr rp now rbi rbn (.ref ho) rnu))(W:M ho=some (.dk (eH l)))(Y:∀x∈l,∃k j r,x.2=k::some (.inl j)::r)(hl:l.length<1000)(hq:Q (.ls ((iR l h).map RV.int)) M):
 aw (P e) (n+1) 36 [.ref t,.int h] M Q:=by
 rw[us (i:=36) (d:=sN) rfl];simp only[sN];walk_at "evs";unfold qU;simp only[W];refine⟨by unfold iN eH;rw[br,jc];exact gz hl (by decide),jd (rN h) vo aa _ _ (λx hx=>?_) ?_⟩
 . obtain⟨y0,J,rfl⟩:=bu.mp hx
   obtain⟨y,hy,rfl⟩:=bu.mp J;obtain⟨k,j,r,e1⟩:=Y y hy;have Z:iT y.2= .tup (oR k::.int j::r.map oR):=by rw[e1];rfl
   show ∃bs,gP true 2 (.tup [.int y.1,iT y.2])=some bs/\_;rw[Z];refine⟨_,rfl,λK I=>?_,λ_ K I=>?_⟩
   . walk_at "ev";exact I
   . walk_at "ev";exact I
 . show Q (.ls (([]++((iN (eH l)).filter (rN h)).map vo))) (put (put M ho (.fk (eH l))) ho (.dk (eH l)))
   rw[ij,zB W,mZ,held_eq Y];exact hq
theorem Uv{pl ta un:Addr}{f:Fm}{i:bc}{p:ao}{hs:List (Int×TK)}{ns:List (TK×Int)}(J:M t=some (aY e f.r (.ref pl) now rbi rbn (.ref ho) (.ref nu)))(I:gL e M pl ta un p)(h1:M ho=some (.dk (eH hs)))(h2:M nu=some (.dt (eN ns)))
 (W:p.taken.length<1000) (l1:hs.length<1000) (l2:ns.length<1000) (Y:un≠ta) (n4:ho≠ta) (n5:ho≠un)
 (hq:Q .ak (put (put (put (put (put M ta (.dk (eT (p.take m).taken))) un (.dk (eU (p.take m).bF))) pl (cz e (.int p.low) (.int p.high) (.int (p.take m).mark) (.ref ta) (.ref un))) ho (.dk (eH (pt hs m (bx f i))))) nu (.dt (eN (pt ns (bx f i) m))))):
 aw (P e) (n+2) 53 [.ref t,.int m,i.r] M Q:=by
 have Z:t≠ta:=bo J I.t;have a2:t≠pl:=bo J I.o;have a3:ho≠pl:=bo h1 I.o;have a4:nu≠pl:=bo h2 I.o;have a5:nu≠ta:=bo h2 I.t;have a6:nu≠ho:=bo h2 h1;have a7:t≠ho:=bo J h1;have a8:t≠un:=bo J I.u;have a9:nu≠un:=bo h2 I.u;have e1:pt (eH hs) (Sum.inl m) (iT (bx f i))=eH (pt hs m (bx f i)):=mw iM;have e2:pt (eN ns) (bx f i) (RV.int m)=eN (pt ns (bx f i) m):=mw (g:=id) je;rw[us (i:=53) (d:=sJ) rfl];simp only[sJ];walk_at "evs";rw[EN];walk_at "evs";rw[I.o,N9];walk_at "ev";refine Ut I W Y ?_;walk_at "evs";rw[uh (qb _)];walk_at "evs";unfold eH eN;rw[jc,jc];exact⟨gz l1 (by decide),gz l2 (by decide)⟩
theorem En{x:Addr}{a b c d:RV}(I:Q .ak (put M x (bE e a b c d))):aw (P e) (n+1) 71 [.ref x,a,b,c,d] (put M x (.ins (e.C 2) [])) Q:=by
 rw[us (i:=71) (d:=sQ) rfl];simp only[sQ];walk_at "evs"
theorem OU{x:Addr}(hx:M x=none)(J:∀s,M s=none->s≠x->Q .ak (put (put M s (.dk [])) x (lj e (.int 0) (.ref s)))):aw (P e) (n+1) 16 [.ref x] (put M x (.ins (e.C 0) [])) Q:=by
 rw[us (i:=16) (d:=sP) rfl];simp only[sP];walk_at "ev";intro s hs;obtain⟨h1,h2⟩:=aN hs;have I:x≠s:=Ne.symm h2;have q:=J s h1 h2;rw[ai I];walk_at "ev";rw[wK I,ij];exact q
theorem O4{x:Addr}{l h:Int}(hx:M x=none)(hq:∀ta un,M ta=none->M un=none->ta≠x->un≠x->un≠ta->Q .ak (put (put (put M ta (.dk [])) un (.dk [])) x (cz e (.int l) (.int h) (.int l) (.ref ta) (.ref un)))):aw (P e) (n+1) 49 [.ref x,.int l,.int h] (put M x (.ins (e.C 1) [])) Q:=by
 rw[us (i:=49) (d:=sT) rfl];simp only[sT];walk_at "ev";intro ta I;obtain⟨h1,h2⟩:=aN I;have Y:x≠ta:=Ne.symm h2;rw[ai Y];walk_at "ev";intro un J;obtain⟨g1,g2⟩:=aN J;obtain⟨Z,g4⟩:=aN g1;obtain⟨g5,_⟩:=aN Z;have W:x≠un:=Ne.symm g2;have q:=hq ta un h1 g5 h2 g2 g4;rw[ai W];walk_at "ev";rw[wK (a:=x) (b:=ta) Y,ij,wK (a:=x) (b:=un) W,ij];exact q
theorem O2{f:Fm}{i:bc}{b:Addr}(tb:Tb e)(I:M t=some (aY e f.r rp (.int nw) (.ref bi) (.ref bn) rho rnu))(h1:M bi=some (.dt (eA li)))(h2:M bn=some (.dk (eB lb)))(Y:lk lb m=some b)(W:M b=some (.dt (eA lb')))
 (l1:li.length<1000) (l2:lb'.length<1000) (n1:b≠bi)
 (Z:∀x,M x=none->Q .ak (put (put (put M x (bE e i.r (.int m) (.str "note") (.int (nw+f.t0)))) bi (.dt (eA (pt li i.k x)))) b (.dt (eA (pt lb' [some (.inr i.kind),some (.inl i.place),some (.inl i.far)] x))))):
 aw (P e) (n+3) 65 [.ref t,i.r,.int m,.str "note"] M Q:=by
 have e0:i.r= .tup [.str i.kind,.int i.house,.int i.door,.int i.place,.int i.far]:=rfl;have k0:eY (.tup [.str i.kind,.int i.house,.int i.door,.int i.place,.int i.far])=some i.k:=qb i.k;have k1:eY (.tup [.str i.kind,.int i.place,.int i.far])=some [some (.inr i.kind),some (.inl i.place),some (.inl i.far)]:=rfl;have a1:t≠bi:=bo I h1;have a2:bn≠bi:=bo h2 h1;have e1:∀x,pt (eA li) i.k (RV.ref x)=eA (pt li i.k x):=λx=>mw (g:=id) je
 have J:∀k x,pt (eA lb') k (RV.ref x)=eA (pt lb' k x):=λk x=>mw (g:=id) je
 have e3:lk (eB lb) (.inl m)=some (.ref b):=by rw[mF,Y];rfl
 have z1:(eA li).length<sizeLine:=by unfold eA;rw[jc];exact gz l1 (by decide)
 have z2:(eA lb').length<sizeLine:=by unfold eA;rw[jc];exact gz l2 (by decide)
 rw[us (i:=65) (d:=oE) rfl];simp only[oE];rw[e0];walk_at "evs";unfold Fm.r Fm.times;rw[yY tb,Am];intro x hx;have b1:=bZ hx I;have b2:=bZ hx h1;have b3:=bZ hx h2;have b4:=bZ hx W;have q:=Z x hx;refine En ⟨rfl,?_⟩;rw[ai b1,I];walk_at "ev";rw[ai b2,h1,uh k0,e1];refine⟨z1,?_⟩;walk_at "evs";rw[uh k1,J];refine⟨z2,?_⟩;walk_at "ev";exact q
theorem O3{f:Fm}{i:bc}(tb:Tb e)(I:M t=some (aY e f.r rp (.int nw) (.ref bi) (.ref bn) rho rnu))(h1:M bi=some (.dt (eA li)))(h2:M bn=some (.dk (eB lb)))(J:lk lb m=none)
 (l1:li.length<1000) (l2:lb.length<1000)
 (Z:∀x y,M x=none->M y=none->y≠x->Q .ak (put (put (put (put M x (bE e i.r (.int m) (.str "note") (.int (nw+f.t0)))) bi (.dt (eA (pt li i.k x)))) y (.dt (eA [([some (.inr i.kind),some (.inl i.place),some (.inl i.far)],x)]))) bn (.dk (eB (lb++ [(m,y)]))))):
 aw (P e) (n+3) 65 [.ref t,i.r,.int m,.str "note"] M Q:=by
 have e0:i.r= .tup [.str i.kind,.int i.house,.int i.door,.int i.place,.int i.far]:=rfl;have k0:eY (.tup [.str i.kind,.int i.house,.int i.door,.int i.place,.int i.far])=some i.k:=qb i.k;have k1:eY (.tup [.str i.kind,.int i.place,.int i.far])=some [some (.inr i.kind),some (.inl i.place),some (.inl i.far)]:=rfl;have a1:t≠bi:=bo I h1;have a2:bn≠bi:=bo h2 h1;have a3:t≠bn:=bo I h2;have e1:∀x,pt (eA li) i.k (RV.ref x)=eA (pt li i.k x):=λx=>mw (g:=id) je
 have e2:∀x,pt (eB lb) (.inl m) (RV.ref x)=eB (lb++ [(m,x)]):=λx=>by rw[<-mv J];exact mw iM
 have e3:lk (eB lb) (.inl m)=none:=by rw[mF,J];rfl
 have e4:∀y,lk (eB (lb++ [(m,y)])) (.inl m)=some (.ref y):=λy=>by
  rw[mF,<-mv J,Jn];rfl
 have z1:(eA li).length<sizeLine:=by unfold eA;rw[jc];exact gz l1 (by decide)
 have z2:(eB lb).length<sizeLine:=by unfold eB;rw[jc];exact gz l2 (by decide)
 rw[us (i:=65) (d:=oE) rfl];simp only[oE];rw[e0];walk_at "evs";unfold Fm.r Fm.times;rw[yY tb,Am];intro x hx;have b1:=bZ hx I;have b2:=bZ hx h1;have b3:=bZ hx h2;refine En ⟨rfl,?_⟩;rw[ai b1,I];walk_at "ev";rw[ai b2,h1,uh k0,e1];refine⟨z1,?_⟩;walk_at "evs";intro y hy;obtain⟨y1,y2⟩:=aN hy;obtain⟨W,y4⟩:=aN y1;have c1:=bZ W I;have Y:=bZ W h2;have q:=Z x y hx W y4;have c3:y≠bn:=Ne.symm Y;walk_at "evs";rw[uh k1];refine⟨(by decide:0<sizeLine),?_⟩
 walk_at "ev";rw[wK Y,ij];exact q
theorem Hy{f:Fm}{x:Addr}{ri rn rs ro:RV}(tb:Tb e)(I:M t=some (aY e f.r rp (.int nw) rbi rbn rho rnu))(hx:M x=some (bE e ri rn rs ro))(W:Q .ak (put M x (bE e ri rn (.str "note") (.int (nw+f.t0))))):aw (P e) (n+2) 54 [.ref t,.ref x,.str "note"] M Q:=by
 have J:t≠x:=bo I hx;rw[us (i:=54) (d:=sL) rfl];simp only[sL];walk_at "evs";rw[if_neg (by decide)]
 unfold Fm.r Fm.times;rw[yY tb,Am];walk_at "evs"
end
section
variable {e:Env}{n:Nat}{M:RM}{Q:aj}{g t pl ta un bi bn ho nu:Addr}
theorem Ei{rs rd I J W Y:RV}{f:Fm}{p:ao}(ok:p.Ok)(hg:M g=some (bD e f.r (.ref t) rs rd .ak))(ht:M t=some (aY e f.r (.ref pl) (.int nw) I J W Y))(Z:gL e M pl ta un p)
 (hq:Q (pA (p.pick (f.pick== "keep") d nw)) M):aw (P e) (n+4) 42 [.ref g,.int d] M Q:=by
 have hpo:=Z.o;rw[us (i:=42) (d:=sg) rfl];simp only[sg];walk_at "evs";unfold Fm.r;walk_at "ev";exact RZ ok Z hq
theorem Ek{a b:Addr}(h1:M a=some (bD e v1 v2 v3 v4 v5))(h2:M b=some (cz e w1 w2 w3 w4 w5)):a≠b:=λz=>by
 rw[z,h2]at h1;unfold bD cz at h1;injection h1 with h1
 injection h1 with _ h1
 injection h1 with h1 _
 injection h1 with h1 _
 exact absurd h1 (by decide)
theorem EZ:pA (some m)= .int m:=rfl
theorem vZ:pA none= .ak:=rfl
theorem Bt{i:bc}:bz i.r (.int 0) M Q=Q (.str i.kind) M:=cy.trans (by rw[JR];rfl)
theorem yJ{i:bc}:bz i.r (.int 1) M Q=Q (.int i.house) M:=cy.trans (by rw[JQ];rfl)
theorem Bu{i:bc}:bz i.r (.int 2) M Q=Q (.int i.door) M:=cy.trans (by rw[L4];rfl)
theorem yH{f:Fm}:bz f.r (.int 5) M Q=Q (.int f.most) M:=cy.trans (by rw[L6];rfl)
theorem Ox{rs rd rp I:RV}{f:Fm}{i:bc}{ns:List (TK×Int)}{b:Addr}(tb:Tb e)(hg:M g=some (bD e f.r (.ref t) rs rd .ak))(J:M t=some (aY e f.r rp (.int nw) (.ref bi) (.ref bn) I (.ref nu)))
 (h1:M bi=some (.dt (eA li))) (h2:M bn=some (.dk (eB lb))) (Y:M nu=some (.dt (eN ns))) (hm:lk ns (bx f i)=some m) (Z:lk lb m=some b) (W:M b=some (.dt (eA lb'))) (l1:li.length<1000) (l2:lb'.length<1000) (n1:b≠bi)
 (hq:∀x,M x=none->Q (.tup [.str "led",.int m]) (put (put (put M x (bE e i.r (.int m) (.str "note") (.int (nw+f.t0)))) bi (.dt (eA (pt li i.k x)))) b (.dt (eA (pt lb' [some (.inr i.kind),some (.inl i.place),some (.inl i.far)] x))))):
 aw (P e) (n+4) 59 [.ref g,i.r,.str "note"] M Q:=by
 rw[us (i:=59) (d:=i9) rfl];simp only[i9];walk_at "evs";rw[vL J Y,hm,EZ];walk_at "evs";exact O2 tb J h1 h2 Z W l1 l2 n1 hq
theorem Ow{rs rd:RV}{f:Fm}{i:bc}{p:ao}{hs:List (Int×TK)}{ns:List (TK×Int)}(tb:Tb e)(ok:p.Ok)(Y:M g=some (bD e f.r (.ref t) rs rd .ak))(J:M t=some (aY e f.r (.ref pl) (.int nw) (.ref bi) (.ref bn) (.ref ho) (.ref nu)))(I:gL e M pl ta un p)
 (h1:M bi=some (.dt (eA li))) (h2:M bn=some (.dk (eB lb))) (Z:M ho=some (.dk (eH hs))) (h4:M nu=some (.dt (eN ns))) (hm:lk ns (bx f i)=none) (hb:lk lb m=none) (hh:∀x∈hs,∃k j r,x.2=k::some (.inl j)::r) (hmost:((iR hs i.house).length:Int)<f.most)
 (W:p.pick (f.pick== "keep") i.door nw=some m) (l0:p.taken.length<1000) (l1:li.length<1000) (l2:lb.length<1000) (l3:hs.length<1000) (l4:ns.length<1000)
 (n1:un≠ta) (n2:ho≠ta) (n3:ho≠un) (n4:bn≠ta) (n5:bn≠un) (n6:bn≠ho) (n7:bi≠nu)
 (hq:∀x y,M x=none->M y=none->y≠x->Q (.tup [.str "led",.int m]) (put (put (put (put (put (put (put (put (put M ta (.dk (eT (p.take m).taken))) un (.dk (eU (p.take m).bF))) pl (cz e (.int p.low) (.int p.high) (.int (p.take m).mark) (.ref ta) (.ref un))) ho (.dk (eH (pt hs m (bx f i))))) nu (.dt (eN (pt ns (bx f i) m))))
  x (bE e i.r (.int m) (.str "note") (.int (nw+f.t0)))) bi (.dt (eA (pt li i.k x)))) y (.dt (eA [([some (.inr i.kind),some (.inl i.place),some (.inl i.far)],x)]))) bn (.dk (eB (lb++ [(m,y)]))))):
 aw (P e) (n+5) 59 [.ref g,i.r,.str "note"] M Q:=by
 have a1:t≠ta:=bo J I.t;have a2:t≠pl:=bo J I.o;have a3:t≠ho:=bo J Z;have a4:t≠nu:=bo J h4;have a5:g≠ta:=bo Y I.t;have a7:g≠ho:=bo Y Z;have a8:g≠nu:=bo Y h4;have a9:bi≠ta:=bo h1 I.t;have a10:bi≠pl:=bo h1 I.o;have a11:bi≠ho:=bo h1 Z;have a12:bn≠pl:=bo h2 I.o;have a13:bn≠nu:=bo h2 h4;have k1:∀{M:RM} {Q:aj},bz i.r (.int 1) M Q=Q (.int i.house) M:=yJ;have k2:∀{M:RM} {Q:aj},bz i.r (.int 2) M Q=Q (.int i.door) M:=Bu;have k5:∀{M:RM} {Q:aj},bz f.r (.int 5) M Q=Q (.int f.most) M:=yH;rw[us (i:=59) (d:=i9) rfl];simp only[i9];walk_at "evs";rw[vL J h4,hm,vZ];walk_at "evs";refine zR J Z hh l3 ?_;walk_at "evs";rw[if_neg (by rw[br];simp;omega)]
 refine Ei ok Y J I ?_;rw[W,EZ];walk_at "evs";refine Uv J I Z h4 l0 l3 l4 n1 n2 n3 ?_;have a6:g≠pl:=Ek Y I.o;have a14:g≠un:=bo Y I.u;have a15:t≠un:=bo J I.u;have a16:bi≠un:=bo h1 I.u;walk_at "evs";refine O3 (bi:=bi) (bn:=bn) tb (by rw[ai a4,ai a3,ai a2,ai a15,ai a1];exact J) (by rw[ai n7,ai a11,ai a10,ai a16,ai a9];exact h1) (by rw[ai a13,ai n6,ai a12,ai n5,ai n4];exact h2) hb l1 l2 λx y hx hy hxy=>?_
 exact hq x y (aN (aN (aN (aN (aN hx).1).1).1).1).1 (aN (aN (aN (aN (aN hy).1).1).1).1).1 hxy
theorem Gb{l:List (TK×Addr)}{i:bc}(J:M t=some (aY e fr rp now (.ref bi) rbn rho rnu))(I:M bi=some (.dt (eA l))):aw (P e) (n+1) 33 [.ref t,i.r] M Q=Q (pB (lk l i.k)) M:=Qg (k:=i.k) J I
theorem QR{x:Addr}:pB (some x)= .ref x:=rfl
theorem QS:pB none= .ak:=rfl
theorem Ol{rs rd rp I J W now:RV}{f:Fm}{i:bc}(hk:i.kind= "note")(Y:M g=some (bD e f.r (.ref t) rs rd .ak))(ht:M t=some (aY e f.r rp now (.ref bi) I J W))(h1:M bi=some (.dt (eA li)))(Z:lk li i.k=none)
 (hq:aw (P e) (n+5) 59 [.ref g,i.r,.str "note"] M Q):aw (P e) (n+6) 58 [.ref g,i.r,.str "say"] M Q:=by
 have k0:∀{M:RM} {Q:aj},bz i.r (.int 0) M Q=Q (.str "note") M:=λ{M Q}=>by rw[Bt,hk]
 rw[us (i:=58) (d:=oH) rfl];simp only[oH];walk_at "evs";rw[Gb ht h1,Z,QS];walk_at "ev";rw[yZ (.inl rfl)];walk_at "ev";rw[Y];walk_at "ev";exact hq
theorem Oj{rs rd rp J W Y ri ro:RV}{f:Fm}{i:bc}{x:Addr}(tb:Tb e)(hk:i.kind= "note")(Z:M g=some (bD e f.r (.ref t) rs rd .ak))(I:M t=some (aY e f.r rp (.int nw) (.ref bi) J W Y))(h1:M bi=some (.dt (eA li)))(hn:lk li i.k=some x)(hx:M x=some (bE e ri (.int m) (.str "note") ro))
 (hq:Q (.tup [.str "led",.int m]) (put M x (bE e ri (.int m) (.str "note") (.int (nw+f.t0))))):aw (P e) (n+6) 58 [.ref g,i.r,.str "say"] M Q:=by
 have k0:∀{M:RM} {Q:aj},bz i.r (.int 0) M Q=Q (.str "note") M:=λ{M Q}=>by rw[Bt,hk]
 rw[us (i:=58) (d:=oH) rfl];simp only[oH];walk_at "evs";rw[Gb I h1,hn,QR];walk_at "ev";rw[hx];walk_at "ev";rw[yZ (.inr rfl)];walk_at "ev";rw[Z];walk_at "ev";rw[I];walk_at "ev";refine Hy tb I hx ?_;walk_at "ev";exact hq
theorem Uu{i:bc}{rt rs rd Y fr:RV}(J:i.place≠0)(hk:i.kind= "note")(I:M g=some (bD e fr rt rs rd Y))(W:aw (P e) (n+6) 58 [.ref g,i.r,.str "say"] M Q):aw (P e) (n+7) 41 [.ref g,.tup [.str "note",.int i.house,.int i.door,.int i.place,.int i.far,.str "say",.str ""]] M Q:=by
 have e0:i.r= .tup [.str "note",.int i.house,.int i.door,.int i.place,.int i.far]:=by unfold bc.r;rw[hk]
 have e1:(!i.place==0)=true:=by simpa using J
 rw[us (i:=41) (d:=sX) rfl];simp only[sX];walk_at "ev";rw[I];walk_at "ev";simp only[e1,↓reduceIte];rw[<-e0];exact W
theorem PF{i:bc}{rt rs rd Y fr:RV}(J:i.place≠0)(hk:i.kind= "note")(I:M g=some (bD e fr rt rs rd Y))(W:aw (P e) (n+6) 58 [.ref g,i.r,.str "say"] M Q):aw (P e) (n+8) 57 [.ref g,.str "out",.tup [.str "note",.int i.house,.int i.door,.int i.place,.int i.far,.str "say",.str ""]] M Q:=by
 rw[us (i:=57) (d:=la) rfl];simp only[la];walk_at "evs";exact Uu J hk I W
structure bc.Ok(i:bc):Prop where
 kind:i.kind= "note"
 house:0<=i.house/\i.house<=99
 door:1<=i.door/\i.door<=9999
 place:1<=i.place/\i.place<=1000000
 far:1<=i.far/\i.far<=9999
def bc.deed(i:bc):RV:=.tup [.str "out",.str "note",.int i.house,.int i.door,.int i.place,.int i.far,.str "say",.str ""]
theorem Xp{i:bc}{rt rs wi fr:RV}{dn:Addr}{post:RV->RM->Prop}(tb:Tb e)(ok:i.Ok)(hg:M g=some (bD e fr rt rs (.ref dn) wi))(hl:∀K:aj,(∀v M2,post v M2->K v M2)->aw (P e) (n+6) 58 [.ref g,i.r,.str "say"] M K)
 (hq:∀v M2,post v M2->∃W J Y I ds,M2 g=some (bD e I W J (.ref dn) Y)/\M2 dn=some (.lst ds)/\ds.length<1000/\Q v (put M2 dn (.lst (ds++ [.tup [i.deed,v]])))):
 aw (P e) (n+10) 75 [.ref g,.str "note",.int i.house,.int i.door,.int i.place,.int i.far,.str "say",.str ""] M Q:=by
 rw[us (i:=75) (d:=sI) rfl];simp only[sI];walk_at "evs";rw[us (i:=39) (d:=k8) rfl];simp only[k8];walk_at "ev";refine P6 (n:=n+3) tb ok.house ok.door ⟨by have:=ok.place.1;omega,ok.place.2⟩ ok.far ?_
 walk_at "evs";rw[qM];refine PF (by have:=ok.place.1;omega) ok.kind hg (hl _ λv M2 hp=>?_)
 obtain⟨W,J,Y,I,ds,g1,g2,Z,g4⟩:=hq v M2 hp;rw[g1];walk_at "ev";rw[g2];walk_at "ev";exact⟨ds,_,rfl,g2,gz Z (by decide),g4⟩
theorem Bs{f:Fm}:bz f.r (.int 0) M Q=Q (.int f.low) M:=cy.trans (by rw[JR];rfl)
theorem Lu{f:Fm}:bz f.r (.int 1) M Q=Q (.int f.high) M:=cy.trans (by rw[JQ];rfl)
def p0(f:Fm):ao:=⟨f.low,f.high,f.low,[],[]⟩
theorem OT{f:Fm}{x:Addr}(hx:M x=none)(hq:∀pl ta un bi bn ho nu M',M' x=some (aY e f.r (.ref pl) (.int 0) (.ref bi) (.ref bn) (.ref ho) (.ref nu))->gL e M' pl ta un (p0 f)->M' bi=some (.dt [])->M' bn=some (.dk [])->M' ho=some (.dk [])->M' nu=some (.dt [])->
 un≠ta->ho≠ta->ho≠un->bn≠ta->bn≠un->ho≠bn->nu≠bi->(∀b o,M b=some o->b≠x->M' b=some o)->(∀b∈[pl,ta,un,bi,bn,ho,nu],M b=none)->(∀b,M' b=none->M b=none/\b≠x)->Q .ak M'):aw (P e) (n+3) 32 [.ref x,f.r] (put M x (.ins (e.C 3) [])) Q:=by
 have k0:∀{M:RM} {Q:aj},bz f.r (.int 0) M Q=Q (.int f.low) M:=Bs;have k1:∀{M:RM} {Q:aj},bz f.r (.int 1) M Q=Q (.int f.high) M:=Lu;rw[us (i:=32) (d:=sM) rfl];simp only[sM];walk_at "ev";rw[k0,k1];intro pl hpl;refine O4 hpl λta un hta hun n1 n2 n3=>⟨rfl,?_⟩
 have c1:=aN hpl;have c2:=aN hta;have c3:=aN hun;have d1:x≠pl:=Ne.symm c1.2;have d2:x≠ta:=Ne.symm c2.2;have d3:x≠un:=Ne.symm c3.2;rw[ai d1,ai d3,ai d2];walk_at "ev";intro bi J;have d4:x≠bi:=Ne.symm (aN J).2;rw[ai d4];walk_at "ev";intro bn W;have d5:x≠bn:=Ne.symm (aN W).2;rw[ai d5];walk_at "ev";intro ho Y;have d6:x≠ho:=Ne.symm (aN Y).2;rw[ai d6];walk_at "ev";intro nu Z;have d7:x≠nu:=Ne.symm (aN Z).2;rw[ai d7];walk_at "ev";obtain⟨b1,_⟩:=aN J;obtain⟨b1,b2⟩:=aN b1;obtain⟨b1,b3⟩:=aN b1;obtain⟨b1,b4⟩:=aN b1;obtain⟨b1,_⟩:=aN b1;obtain⟨e1,_⟩:=aN W;obtain⟨e1,e2⟩:=aN e1;obtain⟨e1,_⟩:=aN e1;obtain⟨e1,e3⟩:=aN e1;obtain⟨e1,e4⟩:=aN e1;obtain⟨e1,e5⟩:=aN e1;obtain⟨e1,_⟩:=aN e1;obtain⟨g1,_⟩:=aN Y;obtain⟨g1,g2⟩:=aN g1;obtain⟨g1,_⟩:=aN g1;obtain⟨g1,g3⟩:=aN g1;obtain⟨g1,_⟩:=aN g1;obtain⟨g1,g4⟩:=aN g1;obtain⟨g1,g5⟩:=aN g1;obtain⟨g1,g6⟩:=aN g1;obtain⟨g1,_⟩:=aN g1;obtain⟨h1,_⟩:=aN Z;obtain⟨h1,h2⟩:=aN h1;obtain⟨h1,_⟩:=aN h1;obtain⟨h1,h3⟩:=aN h1;obtain⟨h1,_⟩:=aN h1;obtain⟨h1,h4⟩:=aN h1;obtain⟨h1,_⟩:=aN h1;obtain⟨h1,h5⟩:=aN h1;obtain⟨h1,h6⟩:=aN h1;obtain⟨h1,h7⟩:=aN h1;obtain⟨h1,_⟩:=aN h1;clear hpl hta hun J W Y Z;refine hq pl ta un bi bn ho nu _ aa ⟨?_,?_,?_⟩ ?_ ?_ ?_ ?_ n3 g6 g5 e5 e4 g2 h4 (λb o I hbx=>?_) (λb I=>?_) (λb I=>?_)
 . simp only[ai (Ne.symm d1),ai (Ne.symm h5),ai (Ne.symm g4),ai (Ne.symm e3),ai (Ne.symm b2),aa];rfl
 . simp only[ai (Ne.symm d2),ai (Ne.symm h7),ai (Ne.symm g6),ai (Ne.symm e5),ai (Ne.symm b4),ai n1,ai (Ne.symm n3),aa];rfl
 . simp only[ai (Ne.symm d3),ai (Ne.symm h6),ai (Ne.symm g5),ai (Ne.symm e4),ai (Ne.symm b3),ai n2,aa];rfl
 . simp only[ai (Ne.symm d4),ai (Ne.symm h4),ai (Ne.symm g3),ai (Ne.symm e2),aa]
 . simp only[ai (Ne.symm d5),ai (Ne.symm h3),ai (Ne.symm g2),aa]
 . simp only[ai (Ne.symm d6),ai (Ne.symm h2),aa]
 . simp only[ai (Ne.symm d7),aa]
 . have q:∀c,M c=none->b≠c:=λc hc=>bZ hc I
   simp only[ai hbx,ai (q _ h1),ai (q _ g1),ai (q _ e1),ai (q _ b1),ai (q _ c1.1),ai (q _ c2.1),ai (q _ c3.1)];exact I
 . simp only[cj,iV,or_false]at I
   rcases I with rfl|rfl|rfl|rfl|rfl|rfl|rfl
   . exact c1.1
   . exact c2.1
   . exact c3.1
   . exact b1
   . exact e1
   . exact g1
   . exact h1
 . obtain⟨z,z1⟩:=aN I
   refine⟨?_,z1⟩
   iterate 12 (first|exact z|obtain⟨z,_⟩:=aN z)
   exact z
theorem OV{f:Fm}{x:Addr}(ok:f.Ok)(hx:M x=none)(hq:∀t st dn pl ta un bi bn ho nu M',M' x=some (bD e f.r (.ref t) (.ref st) (.ref dn) .ak)->M' t=some (aY e f.r (.ref pl) (.int 0) (.ref bi) (.ref bn) (.ref ho) (.ref nu))->gL e M' pl ta un (p0 f)->M' bi=some (.dt [])->M' bn=some (.dk [])->M' ho=some (.dk [])->M' nu=some (.dt [])->
 M' dn=some (.lst [])->un≠ta->ho≠ta->ho≠un->bn≠ta->bn≠un->ho≠bn->nu≠bi->(∀b o,M b=some o->b≠x->M' b=some o)->(∀b∈[t,dn,pl,ta,un,bi,bn,ho,nu],M b=none)->Q .ak M'):aw (P e) (n+6) 38 [.ref x,f.r] (put M x (.ins (e.C 4) [])) Q:=by
 rw[us (i:=38) (d:=sY) rfl];simp only[sY];walk_at "ev";refine zh ok ?_;walk_at "ev";intro t ht;have t1:=aN ht;refine OT (n:=n+1) ht λpl ta un bi bn ho nu M1 m1 m2 m3 m4 m5 m6 n1 n2 n3 n4 n5 n6 n7 fr new old=>⟨rfl,?_⟩
 have mx:M1 x=some (.ins (e.C 4) [("form",f.r)]):=fr x _ aa (Ne.symm t1.2);rw[mx];walk_at "ev";intro st Z;refine OU Z λsd hsd hss=>⟨rfl,?_⟩
 have s1:=aN Z;have s2:=aN hsd;rw[ai (Ne.symm s1.2),ai (Ne.symm s2.2)];walk_at "ev";intro dn W;rw[ai (Ne.symm (aN W).2)];walk_at "ev";obtain⟨d1,d2⟩:=aN W;obtain⟨d1,d3⟩:=aN d1;obtain⟨d1,d4⟩:=aN d1;obtain⟨d1,_⟩:=aN d1;clear W;have nx:∀b∈[pl,ta,un,bi,bn,ho,nu],M b=none/\b≠x:=λb I=>aN (new b I)
 have kp:∀a o,M1 a=some o->a≠x->put (put (put (put (put (put M1 x (.ins (e.C 4) [("form",f.r),("table",.ref t)])) sd (.dk [])) st (lj e (.int 0) (.ref sd))) x (.ins (e.C 4) [("form",f.r),("table",.ref t),("strangers",.ref st)])) dn (.lst [])) x (bD e f.r (.ref t) (.ref st) (.ref dn) .ak) a=some o:=λa o ha J=>by
  rw[ai J,ai (bZ d1 ha),ai J,ai (bZ s1.1 ha),ai (bZ s2.1 ha),ai J];exact ha
 refine hq t st dn pl ta un bi bn ho nu _ aa (kp _ _ m1 t1.2) ⟨kp _ _ m2.o (nx pl (by simp)).2,kp _ _ m2.t (nx ta (by simp)).2,kp _ _ m2.u (nx un (by simp)).2⟩ (kp _ _ m3 (nx bi (by simp)).2) (kp _ _ m4 (nx bn (by simp)).2) (kp _ _ m5 (nx ho (by simp)).2) (kp _ _ m6 (nx nu (by simp)).2)
  (by rw[ai d2,aa]) n1 n2 n3 n4 n5 n6 n7 (λb o I Y=>kp b o (fr b o (by rw[ai Y];exact I) (bZ t1.1 I)) Y) (λb I=>?_)
 rcases cj.mp I with rfl|I
 . exact t1.1
 rcases cj.mp I with rfl|I
 . exact(aN (old _ d1).1).1
 exact(nx b I).1
end
section
inductive Ro where
 |g|t|pl|ta|un|bi|bn|ho|nu|dn|st|tk (k:Nat)|nb (k:Nat)
abbrev cX:=Ro->Addr
variable {M M':RM}{ad ad':cX}{c c':Ro->Option RO}{r r':Ro}{o o':RO}{x:Addr}
structure Cells(M:RM)(ad:cX)(c:Ro->Option RO):Prop where
 at_:∀r o,c r=some o->M (ad r)=some o
 inj:∀r r' o o',c r=some o->c r'=some o'->ad r=ad r'->r=r'
open Classical in
noncomputable def upd (c:Ro->Option RO)(r:Ro)(o:RO):Ro->Option RO:=λr'=>if r'=r then some o else c r'
open Classical in
noncomputable def dE (ad:cX)(r:Ro)(x:Addr):cX:=λr'=>if r'=r then x else ad r'
theorem bQ:upd c r o r=some o:=if_pos rfl
theorem aq(h:r'≠r):upd c r o r'=c r':=if_neg h
theorem mj:dE ad r x r=x:=if_pos rfl
theorem eL(h:r'≠r):dE ad r x r'=ad r':=if_neg h
theorem Cells.ne(C:Cells M ad c)(h:c r=some o)(h':c r'=some o')(I:r≠r'):ad r≠ad r':=λz=>I (C.inj _ _ _ _ h h' z)
theorem Cells.put(C:Cells M ad c)(h:c r=some o'):Cells (put M (ad r) o) ad (upd c r o) where
 at_:=λs u hs=>by
  by_cases z:s=r
  . subst z;rw[bQ]at hs;cases hs;exact aa
  . rw[aq z]at hs;rw[ai (C.ne hs h z)];exact C.at_ _ _ hs
 inj:=λs s' u I h1 h2 e=>by
  have q:∀{s u},upd c r o s=some u->∃v,c s=some v:=λ{s u} hs=>by
   by_cases z:s=r
   . subst z;exact⟨_,h⟩
   . rw[aq z]at hs;exact⟨_,hs⟩
  obtain⟨_,k1⟩:=q h1;obtain⟨_,k2⟩:=q h2;exact C.inj _ _ _ _ k1 k2 e
theorem Cells.new(C:Cells M ad c)(hx:M x=none):Cells (R.put M x o) (dE ad r x) (upd c r o) where
 at_:=λs u hs=>by
  by_cases z:s=r
  . subst z;rw[bQ]at hs;cases hs;rw[mj];exact aa
  . rw[aq z]at hs;rw[eL z,ai (bZ hx (C.at_ _ _ hs))];exact C.at_ _ _ hs
 inj:=λs s' u J h1 h2 e=>by
  by_cases z:s=r<;>by_cases I:s'=r
  . rw[z,I]
  . rw[z,mj,eL I]at e;rw[aq I]at h2;exact absurd e.symm (bZ hx (C.at_ _ _ h2))
  . rw[I,mj,eL z]at e;rw[aq z]at h1;exact absurd e (bZ hx (C.at_ _ _ h1))
  . rw[eL z,eL I]at e;rw[aq z]at h1;rw[aq I]at h2;exact C.inj _ _ _ _ h1 h2 e
theorem Cells.weak(C:Cells M ad c)(h:∀r o,c' r=some o->c r=some o):Cells M ad c':=⟨λr o e=>C.at_ _ _ (h _ _ e),λr r' o o' e I=>C.inj _ _ _ _ (h _ _ e) (h _ _ I)⟩
structure Fr(M:RM)(ad:cX)(c:Ro->Option RO)(M':RM)(ad':cX)(c':Ro->Option RO):Prop where
 keep:∀a o,M a=some o->(∀r u,c r=some u->ad r≠a)->M' a=some o
 new:∀r u,c' r=some u->(∃r' u',c r'=some u'/\ad r'=ad' r)∨M (ad' r)=none
 mono:∀a,M' a=none->M a=none
theorem Fr.refl:Fr M ad c M ad c:=⟨λ_ _ h _=>h,λr u h=>.inl ⟨r,u,h,rfl⟩,λ_ h=>h⟩
theorem Fr.trans{M2:RM}(h:Fr M ad c M' ad' c')(k:Fr M' ad' c' M2 ad2 c2):Fr M ad c M2 ad2 c2 where
 keep:=λa o Y Z=>k.keep a o (h.keep a o Y Z) λr u J e=>by
  rcases h.new r u J with⟨r',W,h1,h2⟩|h1
  . exact Z r' W h1 (h2.trans e)
  . rw[e,Y]at h1;cases h1
 new:=λr u J=>by
  rcases k.new r u J with⟨r',W,h1,h2⟩|h1
  . rcases h.new r' W h1 with⟨r2,u2,I,h4⟩|I
    . exact .inl ⟨r2,u2,I,h4.trans h2⟩
    . exact .inr (h2 ▸ I)
  . exact .inr (h.mono _ h1)
 mono:=λa z=>h.mono a (k.mono a z)
theorem Fr.put(h:c r=some o'):Fr M ad c (R.put M (ad r) o) ad (upd c r o) where
 keep:=λa u I J=>by rw[ai (J r _ h).symm];exact I
 new:=λs u hs=>by
  by_cases z:s=r
  . exact .inl ⟨r,_,h,by rw[z]⟩
  . rw[aq z]at hs;exact .inl ⟨s,_,hs,rfl⟩
 mono:=λa z=>(aN z).1
theorem Fr.fresh(hx:M x=none):Fr M ad c (R.put M x o) (dE ad r x) (upd c r o) where
 keep:=λa u I J=>by rw[ai (bZ hx I)];exact I
 new:=λs u hs=>by
  by_cases z:s=r
  . subst z;rw[mj];exact .inr hx
  . rw[aq z]at hs;rw[eL z];exact .inl ⟨s,_,hs,rfl⟩
 mono:=λa z=>(aN z).1
end
section
structure Tk where
 i:bc
 id:Nat
 m:Int
 st:Str
 ov:Int
structure GS where
 now:Int
 mark:Int
 ns:List (TK×Int)
 un:List (Int×Int)
 tl:List Tk
 lb:List (Int×Nat)
 nx:Nat
 ds:LR
def bJ(i:bc):TK:=[some (.inr i.kind),some (.inl i.place),some (.inl i.far)]
def bU(ad:cX)(tl:List Tk):List (TK×Addr):=tl.map λT=>(T.i.k,ad (.tk T.id))
def outs(ad:cX)(tl:List Tk)(m:Int):List (TK×Addr):=(tl.filter λT=>decide (T.m=m)).map λT=>(bJ T.i,ad (.tk T.id))
def d8(ad:cX)(lb:List (Int×Nat)):List (Int×Addr):=lb.map λx=>(x.1,ad (.nb x.2))
def fB(ns:List (TK×Int)):List (Int×TK):=ns.map λx=>(x.2,x.1)
def cN(f:Fm)(S:GS):ao:=⟨f.low,f.high,S.mark,S.ns.map λx=>(x.2,()),S.un⟩
def gy(e:Env)(T:Tk):RO:=bE e T.i.r (.int T.m) (.str T.st) (.int T.ov)
noncomputable def ct (e:Env)(ad:cX)(f:Fm)(S:GS):Ro->Option RO
 | .g=>some (bD e f.r (.ref (ad .t)) (.ref (ad .st)) (.ref (ad .dn)) .ak)
 | .t=>some (aY e f.r (.ref (ad .pl)) (.int S.now) (.ref (ad .bi)) (.ref (ad .bn)) (.ref (ad .ho)) (.ref (ad .nu)))
 | .pl=>some (cz e (.int f.low) (.int f.high) (.int S.mark) (.ref (ad .ta)) (.ref (ad .un)))
 | .ta=>some (.dk (eT (S.ns.map λx=>(x.2,()))))
 | .un=>some (.dk (eU S.un))
 | .bi=>some (.dt (eA (bU ad S.tl)))
 | .bn=>some (.dk (eB (d8 ad S.lb)))
 | .ho=>some (.dk (eH (fB S.ns)))
 | .nu=>some (.dt (eN S.ns))
 | .dn=>some (.lst S.ds)
 | .st=>none
 | .tk k=>(S.tl.find? λT=>decide (T.id=k)).map (gy e)
 | .nb k=>(S.lb.find? λx=>decide (x.2=k)).map λx=>.dt (eA (outs ad S.tl x.1))
abbrev cQ(e:Env)(M:RM)(ad:cX)(f:Fm)(S:GS):Prop:=Cells M ad (ct e ad f S)
def cK(e:Env)(M:RM)(ad:cX)(f:Fm)(S:GS)(M':RM)(ad':cX)(S':GS):Prop:=cQ e M' ad' f S'/\Fr M ad (ct e ad f S) M' ad' (ct e ad' f S')/\ad' .g=ad .g/\ad' .dn=ad .dn
structure GS.Ok(f:Fm)(S:GS):Prop where
 mr:f.low<=S.mark/\S.mark<=f.high
 i1:∀T∈S.tl,T.id<S.nx
 i2:∀x∈S.lb,x.2<S.nx
 d1:(S.tl.map λT=>T.i.k).Nodup
 d2:(S.lb.map (·.2)).Nodup
 d3:(S.ns.map (·.2)).Nodup
 d4:(S.ns.map (·.1)).Nodup
 d5:(S.lb.map (·.1)).Nodup
 d6:(S.tl.map (·.id)).Nodup
 tn:∀T∈S.tl,lk S.ns (bx f T.i)=some T.m
 nb:∀x∈S.ns,∃k,lk S.lb x.2=some k
 bn:∀x∈S.lb,x.1∈S.ns.map (·.2)
 hk:∀x∈S.ns,∃i:bc,i.kind= "note"/\x.1=bx f i
 sz:S.tl.length<900/\S.ns.length<900/\S.lb.length<900
variable {e:Env}{M:RM}{ad:cX}{f:Fm}{S:GS}{x y:Addr}{i:bc}{m:Int}{k:Nat}
theorem xi{κ β:Type}[DecidableEq κ]{k:κ}:∀{l:List (κ×β)},(lk l k).isSome=decide (k∈l.map (·.1))
 | []=>by simp[lk]
 |(j,y)::l=>by
  rw[fm]
  by_cases h:j=k
  . rw[if_pos h];simp[h]
  . rw[if_neg h,xi (l:=l)]
    simp[Ne.symm h]
theorem xA[DecidableEq κ]:∀{l:List (κ×β)} {x:κ×β},(l.map (·.1)).Nodup->x∈l->lk l x.1=some x.2
 |(j,y)::l,x,nd,hx=>by
  rw[fm];rw[bT,gU]at nd;rcases cj.mp hx with rfl|hx
  . rw[if_pos rfl]
  . have I:j∉l.map (·.1):=nd.1
    rw[if_neg (λ(z:j=x.1)=>I (by rw[z];exact uJ (f:=(·.1)) hx)),xA nd.2 hx]
theorem gr{g:α->β}:∀{l:List α} {a b:α},(l.map g).Nodup->a∈l->b∈l->g a=g b->a=b
 |z::l,a,b,nd,I,J,h=>by
  rw[bT,gU]at nd;rcases cj.mp I with W|I<;>rcases cj.mp J with z2|J
  . rw[W,z2]
  . exact absurd (bu.mpr ⟨b,J,by rw[<-h,W]⟩) nd.1
  . exact absurd (bu.mpr ⟨a,I,by rw[h,z2]⟩) nd.1
  . exact gr nd.2 I J h
theorem aZ{κ β:Type}[DecidableEq κ]{l:List (κ×β)}{k:κ}:lk l k=none↔k∉l.map (·.1):=by
 have:=xi (l:=l) (k:=k);cases e:lk l k with
 |none=>rw[e]at this;simpa using this.symm
 |some y=>rw[e]at this;simpa using this.symm
theorem fx[DecidableEq κ]{k:κ}{y:β}:∀{l:List (κ×β)},lk l k=some y->(k,y)∈l
 |(j,z)::l,h=>by
  rw[fm]at h
  by_cases q:j=k
  . rw[if_pos q]at h;cases h;rw[q];exact .head _
  . rw[if_neg q]at h;exact .tail _ (fx h)
theorem qz{κ β I:Type}[DecidableEq κ]{k:κ}{g:β->I}:∀{l:List (κ×β)},lk (l.map λx=>(x.1,g x.2)) k=(lk l k).map g
 | []=>rfl
 |(j,z)::l=>by
  show lk ((j,g z)::l.map λx=>(x.1,g x.2)) k=_
  rw[fm,fm]
  by_cases q:j=k
  . rw[if_pos q,if_pos q];rfl
  . rw[if_neg q,if_neg q];exact qz
theorem Gw(h:∀T∈S.tl,T.id<S.nx):bU (dE ad (.tk S.nx) x) S.tl=bU ad S.tl:=jD λT I=>by
 rw[eL];intro z;injection z with z;have:=h T I;omega
theorem zC(h:∀T∈S.tl,T.id<S.nx):outs (dE ad (.tk S.nx) x) S.tl m=outs ad S.tl m:=jD λT I=>by
 rw[eL];intro z;injection z with z;have:=h T (cH.mp I).1;omega
theorem EX{i j:bc}(h:bx f i=bx f j)(ho:bJ i=bJ j):i=j:=by
 cases i;cases j;unfold bJ at ho;simp only[List.cons.injEq,Option.some.injEq,Sum.inr.injEq,Sum.inl.injEq,and_true]at ho;obtain⟨rfl,rfl,rfl⟩:=ho;unfold bx bc.k at h;split at h
 . simp only[List.cons.injEq,Option.some.injEq,Sum.inr.injEq,Sum.inl.injEq,and_true,true_and]at h;obtain⟨rfl,rfl⟩:=h;rfl
 . split at h<;>(simp only[List.cons.injEq,Option.some.injEq,Sum.inr.injEq,Sum.inl.injEq,and_true,true_and]at h;obtain⟨rfl,rfl⟩:=h;rfl)
theorem Sj(ok:S.Ok f)(Z:lk S.ns (bx f i)=some m)(hn:i.k∉S.tl.map λT=>T.i.k):lk (outs ad S.tl m) (bJ i)=none:=by
 rw[aZ];intro z;obtain⟨p,hp,W⟩:=bu.mp z;obtain⟨T,J,rfl⟩:=bu.mp hp;obtain⟨J,I⟩:=cH.mp J;have I:T.m=m:=by simpa using I
 have h1:=fx (ok.tn T J);have h2:=fx Z;rw[I]at h1;have Y:bx f T.i=bx f i:=by
  have:=gr ok.d3 h1 h2 rfl;injection this
 exact hn (bu.mpr ⟨T,J,by rw[EX Y W]⟩)
noncomputable def GS.begun (S:GS)(f:Fm)(i:bc)(m:Int):GS:={ S with tl:=S.tl++ [⟨i,S.nx,m,"note",S.now+f.t0⟩],nx:=S.nx+1 }
theorem F9{T:Tk}(h:∀U∈tl,U.id<T.id):(tl++ [T]).find? (λU=>decide (U.id=j))=if j=T.id then some T else tl.find? λU=>decide (U.id=j):=by
 rw[List.find?_append]
 by_cases z:j=T.id
 . rw[if_pos z,List.find?_eq_none.mpr λU I=>by have:=h U I;simp;omega]
   simp[z]
 . rw[if_neg z]
   cases tl.find? λU=>decide (U.id=j)with
   |some U=>rfl
   |none=>simp[Ne.symm z]
theorem wL{T:Tk}:outs ad (tl++ [T]) m=outs ad tl m++if T.m=m then [(bJ T.i,ad (.tk T.id))]else []:=by
 unfold outs;rw[List.filter_append,fe]
 by_cases z:T.m=m<;>simp[z]
theorem oP{lb:List (Int×Nat)}(nd:(lb.map (·.2)).Nodup){p:Int×Nat}(I:p∈lb):lb.find? (λx=>decide (x.2=p.2))=some p:=by
 cases e:lb.find? λx=>decide (x.2=p.2)with
 |none=>rw[List.find?_eq_none]at e;exact absurd (decide_eq_true rfl) (e p I)
 |some q=>
  have h1:=List.find?_some (p:=λx:Int×Nat=>decide (x.2=p.2)) e
  exact congrArg some (gr nd (List.mem_of_find?_eq_some e) I (by simpa using h1))
theorem mq{tl:List Tk}(nd:(tl.map (·.id)).Nodup){p:Tk}(I:p∈tl):tl.find? (λx=>decide (x.id=p.id))=some p:=by
 cases e:tl.find? λx=>decide (x.id=p.id)with
 |none=>rw[List.find?_eq_none]at e;exact absurd (decide_eq_true rfl) (e p I)
 |some q=>
  have h1:=List.find?_some (p:=λx:Tk=>decide (x.id=p.id)) e
  exact congrArg some (gr nd (List.mem_of_find?_eq_some e) I (by simpa using h1))
theorem Th(G:cQ e M ad f S)(ok:S.Ok f)(hm:lk S.ns (bx f i)=some m)(hb:lk S.lb m=some k)(hn:i.k∉S.tl.map λT=>T.i.k)(hx:M x=none):
 cK e M ad f S (put (put (put M x (bE e i.r (.int m) (.str "note") (.int (S.now+f.t0)))) (ad .bi) (.dt (eA (pt (bU ad S.tl) i.k x)))) (ad (.nb k)) (.dt (eA (pt (outs ad S.tl m) (bJ i) x)))) (dE ad (.tk S.nx) x) (S.begun f i m):=by
 have hk:=oP ok.d2 (fx hb);have Z:ct e ad f S (.nb k)=some (.dt (eA (outs ad S.tl m))):=by show Option.map _ (S.lb.find? λx=>decide (x.2=k))=_;rw[hk];rfl
 have C1:=Cells.new (r:=.tk S.nx) (o:=bE e i.r (.int m) (.str "note") (.int (S.now+f.t0))) G hx;have F1:=Fr.fresh (ad:=ad) (c:=ct e ad f S) (r:=.tk S.nx) (o:=bE e i.r (.int m) (.str "note") (.int (S.now+f.t0))) hx;have C2:=C1.put (r:=.bi) (o:=.dt (eA (pt (bU ad S.tl) i.k x))) (aq (λz=>by cases z))
 have F2:=F1.trans (Fr.put (r:=.bi) (o:=.dt (eA (pt (bU ad S.tl) i.k x))) (aq (λz=>by cases z)))
 have W:=C2.put (r:=.nb k) (o:=.dt (eA (pt (outs ad S.tl m) (bJ i) x))) ((aq (λz=>by cases z)).trans ((aq (λz=>by cases z)).trans Z))
 have Y:=F2.trans (Fr.put (r:=.nb k) (o:=.dt (eA (pt (outs ad S.tl m) (bJ i) x))) ((aq (λz=>by cases z)).trans ((aq (λz=>by cases z)).trans Z)))
 have e1:dE ad (.tk S.nx) x .bi=ad .bi:=eL (λz=>by cases z)
 have e2:dE ad (.tk S.nx) x (.nb k)=ad (.nb k):=eL (λz=>by cases z)
 rw[e1,e2]at W Y;have J:ct e (dE ad (.tk S.nx) x) f (S.begun f i m)=upd (upd (upd (ct e ad f S) (.tk S.nx) (bE e i.r (.int m) (.str "note") (.int (S.now+f.t0)))) .bi (.dt (eA (pt (bU ad S.tl) i.k x)))) (.nb k) (.dt (eA (pt (outs ad S.tl m) (bJ i) x))):=by
  funext r;cases r with
  |bi=>
   rw[aq (λz=>by cases z),bQ]
   show some (RO.dt (eA (bU (dE ad (.tk S.nx) x) (S.tl++ [_]))))=_;rw[mv (aZ.mpr (by unfold bU;rw[bV];exact hn)),<-Gw (ad:=ad) (x:=x) ok.i1]
   unfold bU;rw[fe,bT,mj];rfl
  |bn=>
   rw[aq (λz=>by cases z),aq (λz=>by cases z),aq (λz=>by cases z)]
   show some (RO.dk (eB (d8 _ S.lb)))=some (RO.dk (eB (d8 _ S.lb)));unfold d8;congr 4;funext z;rw[eL (λz=>by cases z)]
  |tk j=>
   rw[aq (λz=>by cases z),aq (λz=>by cases z)]
   show Option.map _ (List.find? _ (S.tl++ [_]))=_;rw[F9 ok.i1]
   by_cases z:j=S.nx
   . rw[if_pos z,z,bQ];rfl
   . rw[if_neg z,aq (λq=>by injection q with q;exact z q)];rfl
  |nb j=>
   show Option.map _ (List.find? _ S.lb)=_
   by_cases z:j=k
   . subst z
     rw[bQ,hk];show some (RO.dt (eA (outs (dE ad (.tk S.nx) x) (S.tl++ [_]) m)))=_;rw[wL,zC ok.i1,if_pos rfl,mv (Sj ok hm hn),mj]
   . rw[aq (λq=>by injection q with q;exact z q),aq (λz=>by cases z),aq (λz=>by cases z)]
     show _=Option.map _ (List.find? _ S.lb);cases ej:S.lb.find? λx=>decide (x.2=j)with
     |none=>rfl
     |some p=>
      have hp:=List.mem_of_find?_eq_some ej;have hj:p.2=j:=by simpa using List.find?_some (p:=λx:Int×Nat=>decide (x.2=j)) ej
      have I:¬m=p.1:=λq=>z (by rw[<-hj,gr ok.d5 hp (fx hb) q.symm])
      show some (RO.dt (eA (outs (dE ad (.tk S.nx) x) (S.tl++ [_]) p.1)))=some (RO.dt (eA (outs ad S.tl p.1)));rw[wL,zC ok.i1,if_neg I,m9]
  |_=>simp[ct,upd,dE,GS.begun]
 unfold cK cQ;rw[J];exact⟨W,Y,eL (λz=>by cases z),eL (λz=>by cases z)⟩
end
section
variable {e:Env}{M:RM}{ad:cX}{f:Fm}{S:GS}{x y:Addr}{i:bc}{m:Int}{k:Nat}
def pu(ad:cX):List (Ro×RO)->RM->RM
 | [],M=>M
 |p::l,M=>pu ad l (put M (ad p.1) p.2)
noncomputable def ups:List (Ro×RO)->(Ro->Option RO)->Ro->Option RO
 | [],c=>c
 |p::l,c=>ups l (upd c p.1 p.2)
theorem zu:∀{l:List (Ro×RO)} {M:RM} {c:Ro->Option RO},Cells M ad c->(∀p∈l,∃o,c p.1=some o)->Cells (pu ad l M) ad (ups l c)/\Fr M ad c (pu ad l M) ad (ups l c)
 | [],_,_,C,_=>⟨C,Fr.refl⟩
 |p::l,M,c,C,h=>by
  obtain⟨o,ho⟩:=h p (.head _);obtain⟨J,W⟩:=zu (l:=l) (C.put (o:=p.2) ho) λq Y=>by
   by_cases z:q.1=p.1
   . exact⟨p.2,by rw[z,bQ]⟩
   . obtain⟨o',I⟩:=h q (.tail _ Y)
     exact⟨o',by rw[aq z];exact I⟩
  exact⟨J,(Fr.put ho).trans W⟩
theorem Ap{x:Addr}:∀{l:List (Ro×RO)} {M:RM},M x=none->(∀p∈l,x≠ad p.1)->pu ad l M x=none
 | [],_,h,_=>h
 |p::l,M,h,hn=>Ap (l:=l) ((ai (hn p (.head _))).trans h) λq I=>hn q (.tail _ I)
noncomputable def GS.fN (S:GS)(f:Fm)(i:bc)(m:Int):GS:={ S with un:=dr S.un m,ns:=S.ns++ [(bx f i,m)],mark:=((cN f S).take m).mark,tl:=S.tl++ [⟨i,S.nx,m,"note",S.now+f.t0⟩],lb:=S.lb++ [(m,S.nx+1)],nx:=S.nx+2 }
theorem Ri{j n:Nat}(h:∀x∈lb,x.2<n):(lb++ [(m,n)]).find? (λx=>decide (x.2=j))=if j=n then some (m,n)else lb.find? λx=>decide (x.2=j):=by
 rw[List.find?_append]
 by_cases z:j=n
 . rw[if_pos z,List.find?_eq_none.mpr λU I=>by have:=h U I;simp;omega]
   simp[z]
 . rw[if_neg z]
   cases lb.find? λx=>decide (x.2=j)with
   |some U=>rfl
   |none=>simp[Ne.symm z]
def fG(e:Env)(ad:cX)(f:Fm)(S:GS)(i:bc)(m:Int):List (Ro×RO):=[(.ta,.dk (eT ((cN f S).take m).taken)),(.un,.dk (eU (dr S.un m))),(.pl,cz e (.int f.low) (.int f.high) (.int ((cN f S).take m).mark) (.ref (ad .ta)) (.ref (ad .un))),(.ho,.dk (eH (pt (fB S.ns) m (bx f i)))),(.nu,.dt (eN (pt S.ns (bx f i) m)))]
theorem TY(G:cQ e M ad f S)(ok:S.Ok f)(hm:lk S.ns (bx f i)=none)(m3:m∉S.ns.map (·.2))(hn:i.k∉S.tl.map λT=>T.i.k)(hx:M x=none)(hy:M y=none)(hxy:y≠x):
 cK e M ad f S (put (put (put (put (pu ad (fG e ad f S i m) M) x (bE e i.r (.int m) (.str "note") (.int (S.now+f.t0)))) (ad .bi) (.dt (eA (pt (bU ad S.tl) i.k x)))) y (.dt (eA [(bJ i,x)]))) (ad .bn) (.dk (eB (d8 ad S.lb++ [(m,y)])))) (dE (dE ad (.tk S.nx) x) (.nb (S.nx+1)) y) (S.fN f i m):=by
 have q:∀{x:Addr},M x=none->∀p∈fG e ad f S i m,x≠ad p.1:=λhx p I=>by
  simp only[fG,cj,iV,or_false]at I;rcases I with rfl|rfl|rfl|rfl|rfl
  . exact(bZ hx (G.at_ .ta _ rfl)).symm
  . exact(bZ hx (G.at_ .un _ rfl)).symm
  . exact(bZ hx (G.at_ .pl _ rfl)).symm
  . exact(bZ hx (G.at_ .ho _ rfl)).symm
  . exact(bZ hx (G.at_ .nu _ rfl)).symm
 obtain⟨C4,F4⟩:=zu (l:=fG e ad f S i m) G λp I=>by
  simp only[fG,cj,iV,or_false]at I;rcases I with rfl|rfl|rfl|rfl|rfl<;>exact⟨_,rfl⟩
 have J:=Ap hx (q hx);have hy4:=Ap hy (q hy);have nx:∀r o,ct e ad f S r=some o->ad r≠x:=λr o h=>bZ hx (G.at_ r o h)
 have ny:∀r o,ct e ad f S r=some o->ad r≠y:=λr o h=>bZ hy (G.at_ r o h)
 have C5:=Cells.new (r:=.tk S.nx) (o:=bE e i.r (.int m) (.str "note") (.int (S.now+f.t0))) C4 J;have F5:=F4.trans (Fr.fresh (r:=.tk S.nx) (o:=bE e i.r (.int m) (.str "note") (.int (S.now+f.t0))) J);have b0:upd (ups (fG e ad f S i m) (ct e ad f S)) (.tk S.nx) (bE e i.r (.int m) (.str "note") (.int (S.now+f.t0))) .bi=some (.dt (eA (bU ad S.tl))):=by simp[fG,ups,upd,ct]
 have C6:=C5.put (r:=.bi) (o:=.dt (eA (pt (bU ad S.tl) i.k x))) b0;have F6:=F5.trans (Fr.put (r:=.bi) (o:=.dt (eA (pt (bU ad S.tl) i.k x))) b0);have e1:dE ad (.tk S.nx) x .bi=ad .bi:=eL (λz=>by cases z)
 rw[e1]at C6 F6;have W:put (put (pu ad (fG e ad f S i m) M) x (bE e i.r (.int m) (.str "note") (.int (S.now+f.t0)))) (ad .bi) (.dt (eA (pt (bU ad S.tl) i.k x))) y=none:=by rw[ai (Ne.symm (ny .bi _ rfl)),ai hxy];exact hy4
 have C7:=Cells.new (r:=.nb (S.nx+1)) (o:=.dt (eA [(bJ i,x)])) C6 W;have F7:=F6.trans (Fr.fresh (r:=.nb (S.nx+1)) (o:=.dt (eA [(bJ i,x)])) W);have b1:upd (upd (upd (ups (fG e ad f S i m) (ct e ad f S)) (.tk S.nx) (bE e i.r (.int m) (.str "note") (.int (S.now+f.t0)))) .bi (.dt (eA (pt (bU ad S.tl) i.k x)))) (.nb (S.nx+1)) (.dt (eA [(bJ i,x)])) .bn=some (.dk (eB (d8 ad S.lb))):=by simp[fG,ups,upd,ct]
 have C8:=C7.put (r:=.bn) (o:=.dk (eB (d8 ad S.lb++ [(m,y)]))) b1;have F8:=F7.trans (Fr.put (r:=.bn) (o:=.dk (eB (d8 ad S.lb++ [(m,y)]))) b1);have e2:dE (dE ad (.tk S.nx) x) (.nb (S.nx+1)) y .bn=ad .bn:=(eL (λz=>by cases z)).trans (eL (λz=>by cases z))
 rw[e2]at C8 F8;have key:ct e (dE (dE ad (.tk S.nx) x) (.nb (S.nx+1)) y) f (S.fN f i m)=upd (upd (upd (upd (ups (fG e ad f S i m) (ct e ad f S)) (.tk S.nx) (bE e i.r (.int m) (.str "note") (.int (S.now+f.t0)))) .bi (.dt (eA (pt (bU ad S.tl) i.k x)))) (.nb (S.nx+1)) (.dt (eA [(bJ i,x)]))) .bn (.dk (eB (d8 ad S.lb++ [(m,y)]))):=by
  have tA:bU (dE (dE ad (.tk S.nx) x) (.nb (S.nx+1)) y) S.tl=bU ad S.tl:=(jD λT Y=>by rw[eL (λz=>by cases z)]).trans (Gw ok.i1)
  have oA:∀q,outs (dE (dE ad (.tk S.nx) x) (.nb (S.nx+1)) y) S.tl q=outs ad S.tl q:=λq=>(jD λT Y=>by rw[eL (λz=>by cases z)]).trans (zC ok.i1)
  have tx:dE (dE ad (.tk S.nx) x) (.nb (S.nx+1)) y (.tk S.nx)=x:=(eL (λz=>by cases z)).trans mj
  funext r;cases r with
  |ta=>
   simp only[fG,ups,upd,reduceCtorEq,if_false,if_true];show some (RO.dk (eT ((S.ns++ [_]).map _)))=some (RO.dk (eT (pt (S.ns.map _) m ())));rw[mv (aZ.mpr (by rw[bV];exact m3)),fe];rfl
  |ho=>
   simp only[fG,ups,upd,reduceCtorEq,if_false,if_true];rw[mv (aZ.mpr (by unfold fB;rw[bV];exact m3))]
   show some (RO.dk (eH (fB (S.ns++ [_]))))=_;unfold fB;rw[fe];rfl
  |nu=>
   simp only[fG,ups,upd,reduceCtorEq,if_false,if_true];rw[mv hm];rfl
  |bi=>
   simp only[fG,ups,upd,reduceCtorEq,if_false,if_true];show some (RO.dt (eA (bU _ (S.tl++ [_]))))=_;rw[mv (aZ.mpr (by unfold bU;rw[bV];exact hn)),<-tA]
   unfold bU;rw[fe,bT,tx];rfl
  |bn=>
   simp only[upd,if_true];show some (RO.dk (eB (d8 _ (S.lb++ [_]))))=_;unfold d8;rw[fe,bT,mj];congr 4;refine jD λz hz=>?_
   rw[eL (λq=>by injection q with q;have:=ok.i2 z hz;omega),eL (λz=>by cases z)]
  |tk j=>
   have h2:ups (fG e ad f S i m) (ct e ad f S) (.tk j)=ct e ad f S (.tk j):=by simp[fG,ups,upd]
   rw[aq (λz=>by cases z),aq (λz=>by cases z),aq (λz=>by cases z)]
   show Option.map _ (List.find? _ (S.tl++ [_]))=_;rw[F9 ok.i1]
   by_cases z:j=S.nx
   . rw[if_pos z,z,bQ];rfl
   . rw[if_neg z,aq (λq=>by injection q with q;exact z q),h2];rfl
  |nb j=>
   rw[aq (λz=>by cases z)]
   show Option.map _ (List.find? _ (S.lb++ [_]))=_;rw[Ri (λz hz=>lQ (ok.i2 z hz))]
   by_cases z:j=S.nx+1
   . rw[if_pos z,z,bQ]
     show some (RO.dt (eA (outs _ (S.tl++ [_]) m)))=_;rw[wL,oA,if_pos rfl,tx];have:outs ad S.tl m= []:=by
      unfold outs;rw[List.filter_eq_nil_iff.mpr λT Y=>by
       have:=uJ (f:=(·.2)) (fx (ok.tn T Y))
       intro q;have q:T.m=m:=by simpa using q
       exact m3 (q ▸ this)]
      rfl
     rw[this];rfl
   . rw[if_neg z,aq (λq=>by injection q with q;exact z q)]
     have h2:upd (upd (ups (fG e ad f S i m) (ct e ad f S)) (.tk S.nx) (bE e i.r (.int m) (.str "note") (.int (S.now+f.t0)))) .bi (.dt (eA (pt (bU ad S.tl) i.k x))) (.nb j)=ct e ad f S (.nb j):=by simp[fG,ups,upd]
     rw[h2];show _=Option.map _ (List.find? _ S.lb);cases ej:S.lb.find? λx=>decide (x.2=j)with
     |none=>rfl
     |some p=>
      have I:=List.mem_of_find?_eq_some ej;have Z:¬m=p.1:=λq=>m3 (q ▸ ok.bn p I)
      show some (RO.dt (eA (outs _ (S.tl++ [_]) p.1)))=some (RO.dt (eA (outs ad S.tl p.1)));rw[wL,oA,if_neg Z,m9]
  |_=>simp[fG,ups,ct,upd,dE,GS.fN]
 unfold cK cQ;rw[key];exact⟨C8,F8,(eL (λz=>by cases z)).trans (eL (λz=>by cases z)),(eL (λz=>by cases z)).trans (eL (λz=>by cases z))⟩
end
section
variable {e:Env}{n:Nat}{M:RM}{Q:aj}{ad:cX}{f:Fm}{S:GS}{x y:Addr}{i:bc}{m:Int}{k:Nat}
theorem cK.refl(G:cQ e M ad f S):cK e M ad f S M ad S:=⟨G,Fr.refl,rfl,rfl⟩
theorem cK.trans{M1 M2:RM}(h:cK e M ad f S M1 a1 S1)(k:cK e M1 a1 f S1 M2 a2 S2):cK e M ad f S M2 a2 S2:=⟨k.1,h.2.1.trans k.2.1,k.2.2.1.trans h.2.2.1,k.2.2.2.trans h.2.2.2⟩
noncomputable def GS.wrote (S:GS)(v:RV):GS:={ S with ds:=S.ds++ [v] }
theorem zV{v:RV}(G:cQ e M ad f S):cK e M ad f S (put M (ad .dn) (.lst (S.ds++ [v]))) ad (S.wrote v):=by
 have C:=G.put (r:=.dn) (o:=.lst (S.ds++ [v])) rfl;have F:=Fr.put (M:=M) (ad:=ad) (r:=.dn) (o:=.lst (S.ds++ [v])) (c:=ct e ad f S) rfl;have I:ct e ad f (S.wrote v)=upd (ct e ad f S) .dn (.lst (S.ds++ [v])):=by
  funext r;cases r with
  |tk j=>rw[aq (λz=>by cases z)];rfl
  |nb j=>rw[aq (λz=>by cases z)];rfl
  |_=>simp[ct,upd,GS.wrote]
 unfold cK cQ;rw[I];exact⟨C,F,rfl,rfl⟩
noncomputable def GS.fq (S:GS)(f:Fm)(k:Nat):GS:={ S with tl:=S.tl.map λU=>if U.id=k then { U with ov:=S.now+f.t0 }else U }
theorem zG{g:Tk->β}(I:∀U o,g { U with ov:=o }=g U):(S.fq f k).tl.map g=S.tl.map g:=by
 unfold GS.fq;rw[bV];refine jD λU _=>?_
 show g (if U.id=k then _ else U)=g U
 split
 . exact I _ _
 . rfl
theorem Iy{T:Tk}(G:cQ e M ad f S)(ok:S.Ok f)(J:T∈S.tl)(hs:T.st= "note"):cK e M ad f S (put M (ad (.tk T.id)) (bE e T.i.r (.int T.m) (.str "note") (.int (S.now+f.t0)))) ad (S.fq f T.id):=by
 have W:ct e ad f S (.tk T.id)=some (gy e T):=by show Option.map _ (S.tl.find? λU=>decide (U.id=T.id))=_;rw[mq ok.d6 J];rfl
 have C:=G.put (r:=.tk T.id) (o:=bE e T.i.r (.int T.m) (.str "note") (.int (S.now+f.t0))) W;have F:=Fr.put (M:=M) (ad:=ad) (r:=.tk T.id) (o:=bE e T.i.r (.int T.m) (.str "note") (.int (S.now+f.t0))) (c:=ct e ad f S) W;have I:ct e ad f (S.fq f T.id)=upd (ct e ad f S) (.tk T.id) (bE e T.i.r (.int T.m) (.str "note") (.int (S.now+f.t0))):=by
  have fd:∀j,(S.fq f T.id).tl.find? (λU=>decide (U.id=j))=(S.tl.find? λU=>decide (U.id=j)).map λU=>if U.id=T.id then { U with ov:=S.now+f.t0 }else U:=λj=>by
   unfold GS.fq;rw[List.find?_map];congr 2;funext U;show decide ((if U.id=T.id then _ else U:Tk).id=j)=_
   split<;>rfl
  funext r;cases r with
  |bi=>
   rw[aq (λz=>by cases z)]
   show some (RO.dt (eA (bU ad (S.fq f T.id).tl)))=some (RO.dt (eA (bU ad S.tl)));unfold bU;rw[zG λU o=>rfl]
  |tk j=>
   show Option.map _ (List.find? _ (S.fq f T.id).tl)=_;rw[fd]
   by_cases z:j=T.id
   . subst z
     rw[mq ok.d6 J,bQ];show some (gy e (if T.id=T.id then _ else T))=_
     rw[if_pos rfl];unfold gy;rw[hs]
   . rw[aq (λq=>by injection q with q;exact z q)]
     show _=Option.map _ (List.find? _ S.tl);cases ej:S.tl.find? λU=>decide (U.id=j)with
     |none=>rfl
     |some U=>
      have:U.id=j:=by simpa using List.find?_some (p:=λU:Tk=>decide (U.id=j)) ej
      show some (gy e (if U.id=T.id then _ else U))=some (gy e U)
      rw[if_neg (by rw[this];exact z)]
  |nb j=>
   rw[aq (λz=>by cases z)]
   show Option.map _ (List.find? _ S.lb)=Option.map _ (List.find? _ S.lb);congr 1;funext x;show RO.dt (eA (outs ad (S.fq f T.id).tl x.1))=RO.dt (eA (outs ad S.tl x.1));congr 2;unfold outs GS.fq;rw[List.filter_map,bV];have e1:(λU:Tk=>decide (U.m=x.1)) ∘ (λU:Tk=>if U.id=T.id then { U with ov:=S.now+f.t0 }else U)=λU=>decide (U.m=x.1):=by
    funext U;show decide ((if U.id=T.id then _ else U:Tk).m=x.1)=_;split<;>rfl
   rw[e1];refine jD λU _=>?_
   show(bJ (if U.id=T.id then _ else U:Tk).i,ad (.tk (if U.id=T.id then _ else U:Tk).id))=_
   split<;>rfl
  |_=>simp[ct,upd,GS.fq]
 unfold cK cQ;rw[I];exact⟨C,F,rfl,rfl⟩
def Nt(S:GS):Prop:=∀T∈S.tl,T.i.kind= "note"/\T.st= "note"
theorem RK(ok:S.Ok f):∀z∈fB S.ns,∃k j r,z.2=k::some (.inl j)::r:=λz hz=>by
 obtain⟨w,I,rfl⟩:=bu.mp hz;obtain⟨i,_,hi⟩:=ok.hk w I;show ∃k j r,w.1=_;rw[hi];unfold bx bc.k;split
 . exact⟨_,_,_,rfl⟩
 . split<;>exact⟨_,_,_,rfl⟩
theorem OR{rs rd rp J W:RV}{i:bc}{g t ho nu:Addr}{hs:List (Int×TK)}{ns:List (TK×Int)}(hg:M g=some (bD e f.r (.ref t) rs rd .ak))(Y:M t=some (aY e f.r rp now J W (.ref ho) (.ref nu)))
 (Z:M ho=some (.dk (eH hs))) (h4:M nu=some (.dt (eN ns))) (hm:lk ns (bx f i)=none) (hh:∀x∈hs,∃k j r,x.2=k::some (.inl j)::r) (hl:hs.length<1000) (I:f.most<=((iR hs i.house).length:Int))
 (hq:Q (.tup [.str "kept",.str "most"]) M):aw (P e) (n+5) 59 [.ref g,i.r,.str "note"] M Q:=by
 have k1:∀{M:RM} {Q:aj},bz i.r (.int 1) M Q=Q (.int i.house) M:=yJ;have k5:∀{M:RM} {Q:aj},bz f.r (.int 5) M Q=Q (.int f.most) M:=yH;rw[us (i:=59) (d:=i9) rfl];simp only[i9];walk_at "evs";rw[vL Y h4,hm,vZ];walk_at "evs";refine zR Y Z hh hl ?_;walk_at "evs";rw[if_pos (by rw[br];simp;omega)]
 first|exact hq|trivial
theorem OS{rs rd Z rbn:RV}{i:bc}{p:ao}{g t pl ta un ho nu:Addr}{hs:List (Int×TK)}{ns:List (TK×Int)}(Y:p.Ok)(hg:M g=some (bD e f.r (.ref t) rs rd .ak))(W:M t=some (aY e f.r (.ref pl) (.int nw) Z rbn (.ref ho) (.ref nu)))(hp:gL e M pl ta un p)
 (h3:M ho=some (.dk (eH hs))) (h4:M nu=some (.dt (eN ns))) (hm:lk ns (bx f i)=none) (hh:∀x∈hs,∃k j r,x.2=k::some (.inl j)::r) (hl:hs.length<1000) (J:((iR hs i.house).length:Int)<f.most) (I:p.pick (f.pick== "keep") i.door nw=none)
 (hq:Q (.tup [.str "kept",.str "full"]) M):aw (P e) (n+5) 59 [.ref g,i.r,.str "note"] M Q:=by
 have k1:∀{M:RM} {Q:aj},bz i.r (.int 1) M Q=Q (.int i.house) M:=yJ;have k2:∀{M:RM} {Q:aj},bz i.r (.int 2) M Q=Q (.int i.door) M:=Bu;have k5:∀{M:RM} {Q:aj},bz f.r (.int 5) M Q=Q (.int f.most) M:=yH;rw[us (i:=59) (d:=i9) rfl];simp only[i9];walk_at "evs";rw[vL W h4,hm,vZ];walk_at "evs";refine zR W h3 hh hl ?_;walk_at "evs";rw[if_neg (by rw[br];simp;omega)]
 refine Ei Y hg W hp ?_;rw[I,vZ];walk_at "evs"
def led(m:Int):RV:=.tup [.str "led",.int m]
def kept(w:Str):RV:=.tup [.str "kept",.str w]
noncomputable def GS.ba (S:GS)(f:Fm)(i:bc):GS×RV:=match S.tl.find? λT=>decide (T.i.k=i.k)with
 |some T=>(S.fq f T.id,led T.m)
 |none=>match lk S.ns (bx f i)with
  |some m=>(S.begun f i m,led m)
  |none=>if f.most<=((iR (fB S.ns) i.house).length:Int)then(S,kept "most")else match(cN f S).pick (f.pick== "keep") i.door S.now with
   |none=>(S,kept "full")
   |some m=>(S.fN f i m,led m)
theorem zE(G:cQ e M ad f S):gL e M (ad .pl) (ad .ta) (ad .un) (cN f S):=⟨G.at_ .pl _ rfl,G.at_ .ta _ rfl,G.at_ .un _ rfl⟩
theorem GJ(I:f.Ok)(ok:S.Ok f):(cN f S).Ok:=⟨I.lo,ok.mr.1,ok.mr.2,I.hi,I.wide⟩
theorem zi{p:ao}{b:Bool}{d t:Int}(h:p.pick b d t=some m):p.free m t=true:=by
 unfold ao.pick at h;split at h
 . rename_i z;cases h;exact(bj _ _ ▸ z).2
 . exact List.find?_some (p:=λi=>p.free i t) h
theorem zr(h:(cN f S).free m S.now=true):m∉S.ns.map (·.2)/\f.low<=m/\m<=f.high:=by
 unfold ao.free ao.has cN at h;simp only[bj,decide_eq_true_eq,Bool.not_eq_true']at h;refine⟨λz=>?_,h.1.1.1,h.1.1.2⟩
 have:=xi (l:=S.ns.map λx=>(x.2,())) (k:=m)
 rw[h.1.2,bV]at this;exact absurd z (by simpa using this)
theorem P1(okf:f.Ok)(G:cQ e M ad f S)(ok:S.Ok f)(tb:Tb e)(hk:i.kind= "note")(hT:Nt S)
 (J:∀M' ad',cK e M ad f S M' ad' (S.ba f i).1->Q (S.ba f i).2 M'):aw (P e) (n+6) 58 [.ref (ad .g),i.r,.str "say"] M Q:=by
 have hg:=G.at_ .g _ rfl;have ht:=G.at_ .t _ rfl;have h1:=G.at_ .bi _ rfl;have h2:=G.at_ .bn _ rfl;have h3:=G.at_ .ho _ rfl;have h4:=G.at_ .nu _ rfl;unfold GS.ba at J;cases ef:S.tl.find? λT=>decide (T.i.k=i.k)with
 |some T=>
  rw[ef]at J;have W:=List.mem_of_find?_eq_some ef;have hTk:T.i.k=i.k:=by simpa using List.find?_some (p:=λT:Tk=>decide (T.i.k=i.k)) ef
  have hx:M (ad (.tk T.id))=some (bE e T.i.r (.int T.m) (.str "note") (.int T.ov)):=by
   refine G.at_ (.tk T.id) _ ?_;show Option.map _ (S.tl.find? λU=>decide (U.id=T.id))=_
   rw[mq ok.d6 W,<-(hT T W).2];rfl
  refine Oj tb hk hg ht h1 (x:=ad (.tk T.id)) (m:=T.m) ?_ hx ?_
  . rw[<-hTk]
    exact xA (x:=(T.i.k,ad (.tk T.id))) (by unfold bU;rw[bV];exact ok.d1) (bu.mpr ⟨T,W,rfl⟩)
  . exact J _ ad (Iy G ok W (hT T W).2)
 |none=>
  rw[ef]at J;have hn:i.k∉S.tl.map λT=>T.i.k:=λz=>by
   obtain⟨T,hT,e1⟩:=bu.mp z;rw[List.find?_eq_none]at ef;exact ef T hT (by simpa using e1)
  have hl:lk (bU ad S.tl) i.k=none:=aZ.mpr (by unfold bU;rw[bV];exact hn)
  refine Ol hk hg ht h1 hl ?_;cases em:lk S.ns (bx f i)with
  |some m=>
   rw[em]at J;obtain⟨k,hb⟩:=ok.nb _ (fx em);have hbA:lk (d8 ad S.lb) m=some (ad (.nb k)):=by unfold d8;rw[qz (g:=λk=>ad (.nb k)),hb];rfl
   have hkk:=oP ok.d2 (fx hb);have h5:M (ad (.nb k))=some (.dt (eA (outs ad S.tl m))):=G.at_ (.nb k) _ (by show Option.map _ (S.lb.find? λx=>decide (x.2=k))=_;rw[hkk];rfl)
   refine Ox (n:=n+1) tb hg ht h1 h2 h4 em hbA h5 (by unfold bU;rw[br];have:=ok.sz.1;omega) ?_ (G.ne (r:=.nb k) (r':=.bi) (by show Option.map _ (S.lb.find? λx=>decide (x.2=k))=_;rw[hkk];rfl) rfl (λz=>by cases z)) λx hx=>?_
   . unfold outs
     rw[br];have:=gY (λT:Tk=>decide (T.m=m)) S.tl
     have:=ok.sz.1;omega
   . exact J _ _ (Th G ok em hb hn hx)
  |none=>
   rw[em]at J;have Y:=RK ok;have Z:(fB S.ns).length<1000:=by unfold fB;rw[br];have:=ok.sz.2.1;omega
   by_cases I:f.most<=((iR (fB S.ns) i.house).length:Int)
   . simp only[if_pos I]at J
     exact OR hg ht h3 h4 em Y Z I (J M ad (cK.refl G))
   . simp only[if_neg I]at J
     cases ep:(cN f S).pick (f.pick== "keep") i.door S.now with
     |none=>
      rw[ep]at J;exact OS (GJ okf ok) hg ht (zE G) h3 h4 em Y Z (by omega) ep (J M ad (cK.refl G))
     |some m=>
      rw[ep]at J;obtain⟨f1,f2,f3⟩:=zr (zi ep);have hb:lk (d8 ad S.lb) m=none:=aZ.mpr (by
       unfold d8;rw[bV];intro z;obtain⟨p,hp,rfl⟩:=bu.mp z;exact f1 (ok.bn p hp))
      have nn:∀{r r':Ro} {o o':RO},ct e ad f S r=some o->ct e ad f S r'=some o'->r≠r'->ad r≠ad r':=λa b c=>G.ne a b c
      refine Ow tb (GJ okf ok) hg ht (zE G) h1 h2 h3 h4 em hb Y (by omega) ep (by show(S.ns.map _).length<1000;rw[br];have:=ok.sz.2.1;omega) (by unfold bU;rw[br];have:=ok.sz.1;omega) (by unfold d8;rw[br];have:=ok.sz.2.2;omega) Z (by have:=ok.sz.2.1;omega)
       (nn (r:=.un) (r':=.ta) rfl rfl (λz=>by cases z)) (nn (r:=.ho) (r':=.ta) rfl rfl (λz=>by cases z)) (nn (r:=.ho) (r':=.un) rfl rfl (λz=>by cases z)) (nn (r:=.bn) (r':=.ta) rfl rfl (λz=>by cases z)) (nn (r:=.bn) (r':=.un) rfl rfl (λz=>by cases z)) (nn (r:=.bn) (r':=.ho) rfl rfl (λz=>by cases z)) (nn (r:=.bi) (r':=.nu) rfl rfl (λz=>by cases z)) λx y hx hy hxy=>?_
      exact J _ _ (TY G ok em f1 hn hx hy hxy)
theorem Jb(W:f.Ok)(G:cQ e M ad f S)(ok:S.Ok f)(tb:Tb e)(J:i.Ok)(hT:Nt S)(hd:S.ds.length<900)
 (hq:∀M' ad',cK e M ad f S M' ad' ((S.ba f i).1.wrote (.tup [i.deed,(S.ba f i).2]))->Q (S.ba f i).2 M'):aw (P e) (n+10) 75 [.ref (ad .g),.str "note",.int i.house,.int i.door,.int i.place,.int i.far,.str "say",.str ""] M Q:=by
 refine Xp (post:=λv M2=>v=(S.ba f i).2/\∃ad',cK e M ad f S M2 ad' (S.ba f i).1) tb J (G.at_ .g _ rfl) (λK Z=>P1 W G ok tb J.kind hT λM' ad' st=>Z _ _ ⟨rfl,ad',st⟩) λv M2 hp=>?_
 obtain⟨rfl,ad',st⟩:=hp;have Y:=st.1.at_ .g _ rfl;have I:=st.1.at_ .dn _ rfl;rw[st.2.2.1,st.2.2.2]at Y;rw[st.2.2.2]at I;have e1:(S.ba f i).1.ds=S.ds:=by
  unfold GS.ba;split
  . rfl
  . split
    . rfl
    . split
      . rfl
      . split<;>rfl
 refine⟨_,_,_,_,_,Y,I,by rw[e1];omega,?_⟩
 have:=st.trans (zV (v:=.tup [i.deed,(S.ba f i).2]) st.1);rw[st.2.2.2]at this;exact hq _ _ this
end
section
variable {e:Env}{n:Nat}{M:RM}{Q:aj}{ad:cX}{f:Fm}{S:GS}{m p far:Int}{t bn:Addr}{g:Addr}
theorem Oi{fr Z now I J W k1 p1 f1:RV}(ht:M t=some (aY e fr Z now I (.ref bn) J W))(h2:M bn=some (.dk (eB lb)))(Y:lk lb m=none):aw (P e) (n+1) 72 [.ref t,k1,.int m,p1,f1] M Q=Q .ak M:=by
 have e3:lk (eB lb) (.inl m)=none:=by rw[mF,Y];rfl
 rw[us (i:=72) (d:=oG) rfl];simp only[oG];walk_at "evs"
theorem Oh{l:List (TK×Addr)}{b:Addr}(Y:M t=some (aY e fr rp now rbi (.ref bn) rho rnu))(h2:M bn=some (.dk (eB lb)))(I:lk lb m=some b)(W:M b=some (.dt (eA l))):aw (P e) (n+1) 72 [.ref t,.str kd,.int m,.int p,.int far] M Q=Q (pB (lk l [some (.inr kd),some (.inl p),some (.inl far)])) M:=by
 have J:lk (eB lb) (.inl m)=some (.ref b):=by rw[mF,I];rfl
 have k1:eY (.tup [.str kd,.int p,.int far])=some [some (.inr kd),some (.inl p),some (.inl far)]:=rfl;rw[us (i:=72) (d:=oG) rfl];simp only[oG];walk_at "evs";rw[Aw k1,qG];cases lk l [some (.inr kd),some (.inl p),some (.inl far)]<;>rfl
def ux(M:RM)(p:Int):RV->RV
 | .ref a=>match M a with
  |some (.ins _ ((_,.tup [_,_,_,.int q,_])::_))=>.bl (q==p)
  |_=>.ak
 |_=>.ak
theorem P5{lb:List (Int×Addr)}{L:List Tk}{b:Addr}{fr rp now Z rho rnu:RV}{gk:Tk->TK}{I:Tk->Addr}(ht:M t=some (aY e fr rp now Z (.ref bn) rho rnu))(h2:M bn=some (.dk (eB lb)))(hb:lk lb m=some b)(Y:M b=some (.dt (eA (L.map λT=>(gk T,I T)))))(hl:L.length<1000)(hk:∀T∈L,M (I T)=some (gy e T))
 (hq:Q (.bl (L.any λT=>T.i.place==p)) M):aw (P e) (n+1) 52 [.ref t,.int m,.int p] M Q:=by
 have e3:lk (eB lb) (.inl m)=some (.ref b):=by rw[mF,hb];rfl
 rw[us (i:=52) (d:=sr) rfl];simp only[sr];walk_at "evs";unfold qI;simp only[Y];have e0:jj false (eA (L.map λT=>(gk T,I T)))=L.map λT=>RV.ref (I T):=by unfold jj eA enc;rw[if_neg (by decide),bV,bV];rfl
 have hg:∀T∈L,ux M p (.ref (I T))= .bl (T.i.place==p):=λT J=>by
  have h:=hk T J;unfold ux;simp only[h];rfl
 rw[e0];refine⟨by rw[br];exact gz hl (by decide),jd (bd:=gP false 1) (λ_=>true) (ux M p) aa _ _ (λx hx=>?_) ?_⟩
 . obtain⟨T,J,rfl⟩:=bu.mp hx
   have h:=hk T J;refine⟨[.ref (I T)],rfl,λK W=>W,λ_ K W=>?_⟩
   rw[hg T J]at W;have nb:I T≠b:=bo h Y;show(tr ((P e).Gn n) _).E [some (.ref (I T)),some (.int p)] _ K;walk_at "ev";rw[ai nb,h];unfold gy;walk_at "ev";unfold bc.r;walk_at "ev";exact W
 . show fJ "any" [.ls ([]++((L.map λT=>RV.ref (I T)).filter λ_=>true).map (ux M p))] (put (put M b (.ft _)) b (.dt _)) Q
   rw[ij,zB Y,mZ,pR.mpr (λ_ _=>rfl),bV]
   rw[show List.map (ux M p ∘ λT=>RV.ref (I T)) L=(L.map λT=>T.i.place==p).map RV.bl by rw[bV];exact jD λT J=>hg T J]
   rw[VN,List.any_map];exact hq
def AO:Option TK->RV
 |some h=>iT h
 |none=>.ak
theorem Po{hs:List (Int×TK)}{ho:Addr}(J:M t=some (aY e fr rp now rbi rbn (.ref ho) rnu))(I:M ho=some (.dk (eH hs))):aw (P e) (n+1) 35 [.ref t,.int m] M Q=Q (AO (lk hs m)) M:=by
 rw[us (i:=35) (d:=r8) rfl];simp only[r8];walk_at "evs";rw[AH];cases lk hs m<;>rfl
theorem Gx:∀{tl:List Tk},lk (outs ad tl m) κ=(tl.find? λT=>decide (T.m=m/\bJ T.i=κ)).map λT=>ad (.tk T.id)
 | []=>rfl
 |T::tl=>by
  have I:=Gx (κ:=κ) (tl:=tl);unfold outs at I ⊢
  by_cases z:T.m=m
  . rw[yi (by simpa using z),bT,fm]
    by_cases w:bJ T.i=κ
    . rw[if_pos w,List.find?_cons_of_pos (by simp[z,w])];rfl
    . rw[if_neg w,List.find?_cons_of_neg (by simp[w]),I]
  . rw[yj (by simpa using z),List.find?_cons_of_neg (by simp[z]),I]
def yL(h d:Int):RV:=.tup [.str "in",.int h,.int d]
def yI:TK->RV
 |_::some (.inl a)::some (.inl b)::_=>yL a b
 |_=>.ak
def pE(p far:Int):TK:=[some (.inr "note"),some (.inl p),some (.inl far)]
noncomputable def GS.gm (S:GS)(m p:Int):Bool:=(S.tl.filter λT=>decide (T.m=m)).any λT=>T.i.place==p
noncomputable def GS.bH (S:GS)(f:Fm)(m p far:Int):RV:=match S.tl.find? λT=>decide (T.m=m/\bJ T.i=pE p far)with
 |some T=>yL T.i.house T.i.door
 |none=>match lk (fB S.ns) m with
  |none=>kept "nobody"
  |some h=>if(f.sieve== "all" ||(f.sieve== "place" &&S.gm m p))=true then yI h else kept "sieve"
theorem Lv:bz f.r (.int 3) M Q=Q (.str f.sieve) M:=cy.trans (by rw[L3];rfl)
theorem Lw:bz f.r (.int 6) M Q=Q (.bl f.renew) M:=cy.trans (by rw[L5];rfl)
theorem UL(G:cQ e M ad f S)(ok:S.Ok f)(hm:m∈S.ns.map (·.2))(I:Q (.bl (f.sieve== "all" ||(f.sieve== "place" &&S.gm m p))) M):aw (P e) (n+2) 61 [.ref (ad .g),.int p,.int m] M Q:=by
 have hg:=G.at_ .g _ rfl;have ht:=G.at_ .t _ rfl;have h2:=G.at_ .bn _ rfl;have k3:∀{M:RM} {Q:aj},bz f.r (.int 3) M Q=Q (.str f.sieve) M:=Lv;obtain⟨z,hz,rfl⟩:=bu.mp hm;obtain⟨k,Y⟩:=ok.nb z hz;have W:lk (d8 ad S.lb) z.2=some (ad (.nb k)):=by unfold d8;rw[qz (g:=λk=>ad (.nb k)),Y];rfl
 have Z:M (ad (.nb k))=some (.dt (eA (outs ad S.tl z.2))):=G.at_ (.nb k) _ (by show Option.map _ (S.lb.find? λx=>decide (x.2=k))=_;rw[oP ok.d2 (fx Y)];rfl)
 rw[us (i:=61) (d:=sE) rfl];simp only[sE];walk_at "evs"
 by_cases J:(f.sieve==("all":Str))=true
 . rw[J]at I;rw[if_pos J];exact I
 . rw[Bool.not_eq_true]at J
   rw[J]at I ⊢;rw[if_neg (by simp)]
   by_cases z2:(f.sieve==("place":Str))=true
   . rw[z2]at I;rw[if_pos z2]
     refine P5 ht h2 W Z ?_ (λT hT=>?_) I
     . have:=gY (λT:Tk=>decide (T.m=z.2)) S.tl
       have:=ok.sz.1;omega
     . exact G.at_ (.tk T.id) _ (by show Option.map _ (S.tl.find? λU=>decide (U.id=T.id))=_;rw[mq ok.d6 (cH.mp hT).1];rfl)
   . rw[Bool.not_eq_true]at z2
     rw[z2]at I ⊢;rw[if_neg (by simp)];exact I
theorem Tz{i:bc}:∃a b,bx f i= [some (.inr i.kind),some (.inl i.house),some (.inl i.door),a,b]:=by
 unfold bx bc.k;split
 . exact⟨_,_,rfl⟩
 . split<;>exact⟨_,_,rfl⟩
theorem RS(G:cQ e M ad f S)(ok:S.Ok f)(I:Q (match lk (fB S.ns) m with|none=>kept "nobody" |some h=>if(f.sieve== "all" ||(f.sieve== "place" &&S.gm m p))=true then yI h else kept "sieve") M):aw (P e) (n+3) 66 [.ref (ad .g),.str "note",.int p,.int m] M Q:=by
 have W:=G.at_ .g _ rfl;have Y:=G.at_ .t _ rfl;have h3:=G.at_ .ho _ rfl;rw[us (i:=66) (d:=rY) rfl];simp only[rY];walk_at "ev";rw[W];walk_at "ev";rw[Y];walk_at "ev";rw[Po Y h3];cases eh:lk (fB S.ns) m with
 |none=>
  rw[eh]at I;unfold AO;walk_at "ev";exact I
 |some h=>
  rw[eh]at I;obtain⟨w,Z,e1⟩:=bu.mp (fx eh);injection e1 with e1 e2
  obtain⟨i,hk,e3⟩:=ok.hk w Z;obtain⟨a,b,e4⟩:=Tz (f:=f) (i:=i);have e5:h= [some (.inr "note"),some (.inl i.house),some (.inl i.door),a,b]:=by rw[<-e2,e3,e4,hk]
  subst e5;rw[show AO (some [some (.inr "note"),some (.inl i.house),some (.inl i.door),a,b])= .tup [.str "note",.int i.house,.int i.door,oR a,oR b]from rfl]
  walk_at "ev";have J:(("note":Str)==("line":Str))=false:=by decide
  rw[J,if_neg (by simp),W]
  walk_at "ev";have hm:m∈S.ns.map (·.2):=by rw[<-e1];exact uJ (f:=(·.2)) Z
  refine UL G ok hm ?_;rw[xq];cases eb:(f.sieve==("all":Str)||f.sieve==("place":Str)&&S.gm m p)with
  |true=>simp only[eb,if_true]at I;rw[if_neg (by simp)];exact I
  |false=>simp only[eb]at I;rw[if_pos (by rfl)];exact I
theorem Qb{T:Tk}(G:cQ e M ad f S)(ok:S.Ok f)(tb:Tb e)(J:T∈S.tl)(hk:T.i.kind= "note")(hs:T.st= "note")(I:∀M',cK e M ad f S M' ad (if f.renew=true then S.fq f T.id else S)->Q (yL T.i.house T.i.door) M'):aw (P e) (n+3) 60 [.ref (ad .g),.ref (ad (.tk T.id)),.str "say"] M Q:=by
 have W:=G.at_ .g _ rfl;have Y:=G.at_ .t _ rfl;have hx:M (ad (.tk T.id))=some (bE e T.i.r (.int T.m) (.str "note") (.int T.ov)):=G.at_ (.tk T.id) _ (by
  show Option.map _ (S.tl.find? λU=>decide (U.id=T.id))=_
  rw[mq ok.d6 J,<-hs];rfl)
 have Z:∀{M:RM} {Q:aj},bz f.r (.int 6) M Q=Q (.bl f.renew) M:=Lw;rw[us (i:=60) (d:=sA) rfl];simp only[sA];walk_at "ev";rw[hx];walk_at "ev";rw[show T.i.r= .tup [.str "note",.int T.i.house,.int T.i.door,.int T.i.place,.int T.i.far] by unfold bc.r;rw[hk]]
 walk_at "ev";rw[hx];walk_at "ev";rw[yZ (.inr rfl)];walk_at "ev";rw[W];walk_at "ev";rw[Z];walk_at "ev";rw[hx];walk_at "ev"
 by_cases z:f.renew=true
 . rw[if_pos z,W];walk_at "ev"
   rw[Y];walk_at "ev";rw[if_pos z]at I;refine Hy tb Y hx ?_;exact I _ (Iy G ok J hs)
 . rw[if_neg z];rw[if_neg z]at I;exact I _ (cK.refl G)
noncomputable def GS.bO (S:GS)(f:Fm)(m p far:Int):GS:=match S.tl.find? λT=>decide (T.m=m/\bJ T.i=pE p far)with
 |some T=>if f.renew=true then S.fq f T.id else S
 |none=>S
theorem IM(ok:S.Ok f){T:Tk}(I:T∈S.tl):∃k,lk S.lb T.m=some k:=ok.nb _ (fx (ok.tn T I))
theorem Qd(G:cQ e M ad f S)(ok:S.Ok f)(tb:Tb e)(hT:Nt S)(h1:f.low<=m)(h2:m<=f.high)(hq:∀M',cK e M ad f S M' ad (S.bO f m p far)->Q (S.bH f m p far) M'):aw (P e) (n+4) 73 [.ref (ad .g),.str "note",.int p,.int far,.int m,.str "say"] M Q:=by
 have hg:=G.at_ .g _ rfl;have ht:=G.at_ .t _ rfl;have hbn:=G.at_ .bn _ rfl;have hp:=G.at_ .pl _ rfl;have rest:S.tl.find? (λT=>decide (T.m=m/\bJ T.i=pE p far))=none->aw (P e) (n+3) 30 [.ref (ad .pl),.int m] M (kB λc M1=>if c=true then mO (e.C 4) "sifted" (aw (P e) (n+3) 66) (tr ((P e).Gn (n+3)) (.ec (.v 1) (.ec (.v 2) (.ec (.v 4) .e0)))).A [some (.ref (ad .g)),some (.str "note"),some (.int p),some (.int far),some (.int m),some (.str "say"),some .ak] Q (ad .g) M1 (M1 (ad .g))else False):=λhf=>by
  rw[Jz hp,xq,if_pos (by simp[h1,h2]),hg]
  walk_at "ev";refine RS G ok ?_;unfold GS.bH GS.bO at hq;rw[hf]at hq;exact hq _ (cK.refl G)
 rw[us (i:=73) (d:=sD) rfl];simp only[sD];walk_at "ev";rw[hg];walk_at "ev";rw[ht];walk_at "ev";cases hb:lk S.lb m with
 |none=>
  have hbA:lk (d8 ad S.lb) m=none:=by unfold d8;rw[qz (g:=λk=>ad (.nb k)),hb];rfl
  rw[Oi ht hbn hbA];walk_at "ev";have hf:S.tl.find? (λT=>decide (T.m=m/\bJ T.i=pE p far))=none:=List.find?_eq_none.mpr λT hT z=>by
   obtain⟨k,e1⟩:=IM ok hT;have:T.m=m:=(of_decide_eq_true z).1;rw[this,hb]at e1;cases e1
  rw[hg];walk_at "ev";rw[ht];walk_at "ev";rw[hp];walk_at "ev";exact rest hf
 |some k=>
  have hbA:lk (d8 ad S.lb) m=some (ad (.nb k)):=by unfold d8;rw[qz (g:=λk=>ad (.nb k)),hb];rfl
  have h5:M (ad (.nb k))=some (.dt (eA (outs ad S.tl m))):=G.at_ (.nb k) _ (by show Option.map _ (S.lb.find? λx=>decide (x.2=k))=_;rw[oP ok.d2 (fx hb)];rfl)
  rw[Oh ht hbn hbA h5];rw[show lk (outs ad S.tl m) [some (.inr "note"),some (.inl p),some (.inl far)]=_ from Gx (κ:=pE p far)]
  cases hf:S.tl.find? (λT=>decide (T.m=m/\bJ T.i=pE p far))with
  |none=>
   rw[show pB (Option.map (λT:Tk=>ad (.tk T.id)) none)= .ak from rfl]
   walk_at "ev";rw[hg];walk_at "ev";rw[ht];walk_at "ev";rw[hp];walk_at "ev";exact rest hf
  |some T=>
   have hTm:=List.mem_of_find?_eq_some hf;unfold GS.bH GS.bO at hq;rw[hf]at hq;rw[show pB (Option.map (λT:Tk=>ad (.tk T.id)) (some T))= .ref (ad (.tk T.id))from rfl]
   walk_at "ev";rw[hg];walk_at "ev";exact Qb G ok tb hTm (hT T hTm).1 (hT T hTm).2 hq
def AJ(p far m:Int):RV:=.tup [.str "come",.str "note",.int p,.int far,.int m,.str "say",.str ""]
theorem UM(G:cQ e M ad f S)(ok:S.Ok f)(tb:Tb e)(J:f.Ok)(Z:Nt S)(h1:f.low<=m)(h2:m<=f.high)(hp:1<=p/\p<=1000000)(hf:1<=far/\far<=9999)(hd:S.ds.length<900)
 (hq:∀M',cK e M ad f S M' ad ((S.bO f m p far).wrote (.tup [AJ p far m,S.bH f m p far]))->Q (S.bH f m p far) M'):aw (P e) (n+7) 74 [.ref (ad .g),.str "note",.int p,.int far,.int m,.str "say",.str ""] M Q:=by
 have W:=G.at_ .g _ rfl;have hdn:=G.at_ .dn _ rfl;have:=J.lo;have:=J.hi;rw[us (i:=74) (d:=sZ) rfl];simp only[sZ];walk_at "ev";rw[W];walk_at "ev";rw[us (i:=39) (d:=k8) rfl];simp only[k8];walk_at "ev";refine O0 (n:=n) tb hp hf ⟨by omega,by omega⟩ ?_
 walk_at "ev";rw[W];walk_at "ev";rw[qM];rw[us (i:=57) (d:=la) rfl];simp only[la];walk_at "ev";rw[show(("come":Str)==("out":Str))=false by decide,if_neg (by simp),W]
 walk_at "ev";refine Qd G ok tb Z h1 h2 λM' st=>?_
 have Y:=st.1.at_ .g _ rfl;have I:=st.1.at_ .dn _ rfl;have e1:(S.bO f m p far).ds=S.ds:=by
  unfold GS.bO;split
  . split<;>rfl
  . rfl
 rw[Y];walk_at "ev";rw[I];walk_at "ev";exact⟨_,_,rfl,I,gz (by rw[e1];exact hd) (by decide),hq _ (st.trans (zV st.1))⟩
end
section
variable {e:Env}{n:Nat}{M:RM}{Q:aj}{ad:cX}{f:Fm}{S:GS}{i:bc}{m:Int}{k:Nat}{v:RV}
theorem qA{κ β:Type}[DecidableEq κ]{k:κ}:∀{l:List (κ×β)} {r:List (κ×β)},lk (l++r) k=match lk l k with|some y=>some y|none=>lk r k
 | [],r=>rfl
 |(j,y)::l,r=>by
  show lk ((j,y)::(l++r)) k=_;rw[fm,fm]
  by_cases h:j=k
  . rw[if_pos h,if_pos h]
  . rw[if_neg h,if_neg h];exact qA
theorem HL{κ β:Type}[DecidableEq κ]{k:κ}{y:β}:lk [(k,y)] k=some y:=by rw[fm,if_pos rfl]
theorem mh{α:Type}{l:List α}{a:α}(h:l.Nodup)(ha:a∉l):(l++ [a]).Nodup:=by
 rw[List.nodup_append];refine⟨h,by simp,λx hx y hy=>?_⟩
 cases fH.mp hy;exactλz=>ha (z ▸ hx)
theorem Ok.wrote(ok:S.Ok f):(S.wrote v).Ok f:={ ok with }
theorem Ok.fq(ok:S.Ok f):(S.fq f k).Ok f:=
 { ok with
  i1:=λT I=>by
   obtain⟨U,J,rfl⟩:=bu.mp I;show(if U.id=k then _ else U:Tk).id<S.nx
   split<;>exact ok.i1 U J
  d1:=by rw[zG λU o=>rfl];exact ok.d1
  d6:=by rw[zG λU o=>rfl];exact ok.d6
  tn:=λT I=>by
   obtain⟨U,J,rfl⟩:=bu.mp I;show lk S.ns (bx f (if U.id=k then _ else U:Tk).i)=some (if U.id=k then _ else U:Tk).m
   split<;>exact ok.tn U J
  sz:=⟨by show(S.tl.map _).length<900;rw[br];exact ok.sz.1,ok.sz.2⟩ }
theorem Nt.fq(h:Nt S):Nt (S.fq f k):=λT I=>by
 obtain⟨U,J,rfl⟩:=bu.mp I;show(if U.id=k then _ else U:Tk).i.kind= "note"/\(if U.id=k then _ else U:Tk).st= "note"
 split<;>exact h U J
theorem Nt.snoc{T:Tk}(h:∀T∈S.tl,T.i.kind= "note"/\T.st= "note")(h2:T.i.kind= "note"/\T.st= "note"):∀U∈S.tl++ [T],U.i.kind= "note"/\U.st= "note":=λU I=>by
 rcases eZ.mp I with z|z
 . exact h U z
 . cases fH.mp z;exact h2
theorem Ok.begun(ok:S.Ok f)(W:i.k∉S.tl.map λT=>T.i.k)(J:lk S.ns (bx f i)=some m)(Y:S.tl.length<899):(S.begun f i m).Ok f:=
 { ok with
  i1:=λT I=>by
   rcases eZ.mp I with h|h
   . exact lQ (ok.i1 T h)
   . cases fH.mp h;exact q8 _
  i2:=λx hx=>lQ (ok.i2 x hx)
  d1:=by show((S.tl++ [_]).map _).Nodup;rw[fe];exact mh ok.d1 W
  d6:=by
   show((S.tl++ [_]).map _).Nodup;rw[fe];refine mh ok.d6 λz=>?_
   obtain⟨T,I,e1⟩:=bu.mp z;have e1:T.id=S.nx:=e1;have:=ok.i1 T I;omega
  tn:=λT I=>by
   rcases eZ.mp I with h|h
   . exact ok.tn T h
   . cases fH.mp h;exact J
  sz:=⟨by show(S.tl++ [_]).length<900;rw[dH];show S.tl.length+1<900;omega,ok.sz.2⟩ }
theorem Ok.fN(ok:S.Ok f)(okf:f.Ok)(hk:i.kind= "note")(hn:i.k∉S.tl.map λT=>T.i.k)(hm:lk S.ns (bx f i)=none)(m1:f.low<=m)(m2:m<=f.high)(m3:m∉S.ns.map (·.2))(hl:S.tl.length<899/\S.ns.length<899/\S.lb.length<899):(S.fN f i m).Ok f:=
 {
  d3:=by show((S.ns++ [_]).map _).Nodup;rw[fe];exact mh ok.d3 m3
  mr:=by
   show f.low<=((cN f S).take m).mark/\_;unfold ao.take cN;show f.low<=(if m=f.high then f.low else m+1)/\(if m=f.high then f.low else m+1)<=f.high
   have:=okf.le;split<;>omega
  i1:=λT hT=>by
   rcases eZ.mp hT with h|h
   . exact lQ (lQ (ok.i1 T h))
   . cases fH.mp h;exact lQ (q8 _)
  i2:=λx hx=>by
   rcases eZ.mp hx with h|h
   . exact lQ (lQ (ok.i2 x h))
   . cases fH.mp h;exact q8 _
  d1:=by show((S.tl++ [_]).map _).Nodup;rw[fe];exact mh ok.d1 hn
  d2:=by
   show((S.lb++ [_]).map _).Nodup;rw[fe];refine mh ok.d2 λz=>?_
   obtain⟨T,hT,e1⟩:=bu.mp z;have e1:T.2=S.nx+1:=e1;have:=ok.i2 T hT;omega
  d4:=by show((S.ns++ [_]).map _).Nodup;rw[fe];exact mh ok.d4 (aZ.mp hm)
  d5:=by
   show((S.lb++ [_]).map _).Nodup;rw[fe];refine mh ok.d5 λz=>?_
   obtain⟨T,hT,e1⟩:=bu.mp z;exact m3 (by have:=ok.bn T hT;rw[e1]at this;exact this)
  d6:=by
   show((S.tl++ [_]).map _).Nodup;rw[fe];refine mh ok.d6 λz=>?_
   obtain⟨T,hT,e1⟩:=bu.mp z;have e1:T.id=S.nx:=e1;have:=ok.i1 T hT;omega
  tn:=λT hT=>by
   show lk (S.ns++ [_]) _=_;rcases eZ.mp hT with h|h
   . rw[qA,ok.tn T h]
   . cases fH.mp h
     show lk (S.ns++ [(bx f i,m)]) (bx f i)=some m;rw[qA,hm,HL]
  nb:=λx hx=>by
   show ∃k,lk (S.lb++ [_]) _=_;rcases eZ.mp hx with h|h
   . obtain⟨k,hk⟩:=ok.nb x h
     exact⟨k,by rw[qA,hk]⟩
   . cases fH.mp h
     refine⟨S.nx+1,?_⟩;show lk (S.lb++ [(m,S.nx+1)]) m=_;rw[qA,aZ.mpr (λz=>by
      obtain⟨p,hp,e1⟩:=bu.mp z;have:=ok.bn p hp;rw[e1]at this;exact m3 this),HL]
  bn:=λx hx=>by
   show _∈(S.ns++ [_]).map _;rw[fe,eZ];rcases eZ.mp hx with h|h
   . exact .inl (ok.bn x h)
   . cases fH.mp h;exact .inr (.head _)
  hk:=λx hx=>by
   rcases eZ.mp hx with h|h
   . exact ok.hk x h
   . cases fH.mp h;exact⟨i,hk,rfl⟩
  sz:=⟨by show(S.tl++ [_]).length<900;rw[dH];show S.tl.length+1<900;omega,by show(S.ns++ [_]).length<900;rw[dH];show S.ns.length+1<900;omega,by show(S.lb++ [_]).length<900;rw[dH];show S.lb.length+1<900;omega⟩ }
def S0(f:Fm):GS:=⟨0,f.low,[],[],[],[],0,[]⟩
theorem Jq(I:f.Ok):(S0 f).Ok f:=⟨⟨Int.le_refl _,I.le⟩,gZ _,gZ _,lV,lV,lV,lV,lV,lV,gZ _,gZ _,gZ _,gZ _,⟨(by decide:0<900),(by decide:0<900),(by decide:0<900)⟩⟩
def uZ(g t st dn pl ta un bi bn ho nu:Addr):cX
 | .g=>g| .t=>t| .pl=>pl| .ta=>ta| .un=>un| .bi=>bi| .bn=>bn| .ho=>ho| .nu=>nu| .dn=>dn| .st=>st| .tk _=>0| .nb _=>0
theorem zZ{x:Addr}(J:f.Ok)(hx:M x=none)(hq:∀M' ad,ad .g=x->cQ e M' ad f (S0 f)->(∀b o,M b=some o->b≠x->M' b=some o)->(∀r o,ct e ad f (S0 f) r=some o->M (ad r)=none)->(∀b,M' b=none->M b=none)->Q .ak M'):aw (P e) (n+6) 38 [.ref x,f.r] (put M x (.ins (e.C 4) [])) Q:=by
 refine OV J hx λt st dn pl ta un bi bn ho nu M' W c2 I c4 c5 c6 c7 c8 Z n2 n3 n4 n5 n6 n7 fr new=>?_
 have at_:∀r o,ct e (uZ x t st dn pl ta un bi bn ho nu) f (S0 f) r=some o->M' (uZ x t st dn pl ta un bi bn ho nu r)=some o:=λr o h=>by
  cases r<;>first|(cases h;done)|(injection h with h;subst h;first|exact W|exact c2|exact I.o|exact I.t|exact I.u|exact c4|exact c5|exact c6|exact c7|exact c8)
 have gp:x≠pl:=Ek W I.o;refine hq M' (uZ x t st dn pl ta un bi bn ho nu) rfl ⟨at_,λr r' o o' h h' z=>?_⟩ fr (λr o h=>?_) ?_
 . have a:=at_ r o h
   have b:=at_ r' o' h';cases r<;>first|(cases h;done)|(cases r'<;>first|(cases h';done)|rfl|(injection h with h;injection h' with h';subst h h';first|exact absurd z (bo a b)|exact absurd z gp|exact absurd z.symm gp|exact absurd z Z|exact absurd z.symm Z|exact absurd z n2|exact absurd z.symm n2|exact absurd z n3|exact absurd z.symm n3|exact absurd z n4|exact absurd z.symm n4|exact absurd z n5|exact absurd z.symm n5|exact absurd z n6|exact absurd z.symm n6|exact absurd z n7|exact absurd z.symm n7))
 . cases r<;>first|(cases h;done)|exact hx|exact new _ (by simp[uZ])
 . intro b Y
   cases eb:M b with
   |none=>rfl
   |some o=>
    rw[fr b o eb (λz=>by rw[z,hx]at eb;cases eb)]at Y
    cases Y
end
section
variable {e:Env}{n:Nat}{M:RM}{Q:aj}
theorem VF{l:List (Int×Unit)}{i:Int}(h:(lk l i).isSome=true):(lk (eT l) (.inl i)).isSome=true:=by rw[Ji];exact h
theorem Uw{a ta un:Addr}{p:ao}{i u:Int}(h:gL e M a ta un p)(W:(lk p.taken i).isSome=true)(J:p.bF.length<1000)(n3:un≠ta)
 (hq:Q .ak (put (put M ta (.dk (eT (dr p.taken i)))) un (.dk (eU (pt p.bF i u))))):aw (P e) (n+1) 51 [.ref a,.int i,.int u] M Q:=by
 obtain⟨ho,I,Y⟩:=h;have n1:a≠ta:=zd (o:=.dk []) ho I;have e1:dr (eT p.taken) (Sum.inl i)=eT (dr p.taken i):=lA iM;have Z:pt (eU p.bF) (Sum.inl i) (RV.int u)=eU (pt p.bF i u):=mw iM;have e3:=VF W;rw[us (i:=51) (d:=sV) rfl];simp only[sV];walk_at "evs";unfold eU;rw[jc];exact gz J (by decide)
theorem PB{t pl ta un ho nu:Addr}{f:Fm}{p:ao}{hs:List (Int×TK)}{ns:List (TK×Int)}(W:M t=some (aY e f.r (.ref pl) nw rbi rbn (.ref ho) (.ref nu)))(I:gL e M pl ta un p)(h1:M ho=some (.dk (eH hs)))(h2:M nu=some (.dt (eN ns)))
 (hm:lk hs m=some hk) (hn:lk ns hk=some m) (J:(lk p.taken m).isSome=true) (hl:p.bF.length<1000) (n3:un≠ta) (n4:ho≠ta) (n5:ho≠un)
 (hq:Q .ak (put (put (put (put M nu (.dt (eN (dr ns hk)))) ho (.dk (eH (dr hs m)))) ta (.dk (eT (dr p.taken m)))) un (.dk (eU (pt p.bF m (mo+f.t3)))))):
 aw (P e) (n+2) 55 [.ref t,.int m,.int mo] M Q:=by
 have a1:t≠nu:=bo W h2;have a2:t≠ho:=bo W h1;have a3:ho≠nu:=bo h1 h2;have Y:pl≠nu:=bo I.o h2;have Z:pl≠ho:=bo I.o h1;have a6:ta≠nu:=bo I.t h2;have a7:un≠nu:=bo I.u h2;have e1:dr (eN ns) hk=eN (dr ns hk):=lA (g:=id) je;have e2:dr (eH hs) (Sum.inl m)=eH (dr hs m):=lA iM;have e3:lk (eH hs) (.inl m)=some (iT hk):=by rw[AH,hm];rfl
 have e4:(lk (eN ns) hk).isSome=true:=by rw[Jj,hn];rfl
 have k7:∀{M:RM} {Q:aj},bz f.r (.int 7) M Q=Q f.times M:=λ{M Q}=>rfl
 have k3:∀{M:RM} {Q:aj},bz f.times (.int 3) M Q=Q (.int f.t3) M:=λ{M Q}=>rfl
 rw[us (i:=55) (d:=sj) rfl];simp only[sj];walk_at "evs";rw[t7 (qb _)];walk_at "evs";rw[I.o,Oa];walk_at "evs";refine Uw (p:=p) (ta:=ta) (un:=un) ⟨by rw[ai Z,ai Y];exact I.o,by rw[ai (Ne.symm n4),ai a6];exact I.t,by rw[ai (Ne.symm n5),ai a7];exact I.u⟩ J hl n3 ?_
 exact hq
theorem GZ{a:Addr}(h:M a=some (.dt kvs)):fJ "len" [.ref a] M Q=Q (.int kvs.length) M:=by
 show(match M a with|some (.lst xs)=>Q (.int xs.length) M|some (.dk kvs)=>Q (.int kvs.length) M|some (.dt kvs)=>Q (.int kvs.length) M|_=>False)=_
 rw[h]
variable {t bi bn b x:Addr}{i:bc}{m mo:Int}{f:Fm}{li lb':List (TK×Addr)}{lb:List (Int×Addr)}
theorem Pz{rp nw I J st ov:RV}(Y:M t=some (aY e f.r rp nw (.ref bi) (.ref bn) I J))(hx:M x=some (bE e i.r (.int m) st ov))(h1:M bi=some (.dt (eA li)))(h2:M bn=some (.dk (eB lb)))(Z:lk lb m=some b)(W:M b=some (.dt (eA lb')))
 (l1:(lk li i.k).isSome=true) (l2:(lk lb' (bJ i)).isSome=true) (hne:0<(dr lb' (bJ i)).length) (n1:b≠bi)
 (hq:Q .ak (put (put M bi (.dt (eA (dr li i.k)))) b (.dt (eA (dr lb' (bJ i)))))):aw (P e) (n+3) 56 [.ref t,.ref x,.int mo] M Q:=by
 have a1:t≠bi:=bo Y h1;have a2:t≠b:=bo Y W;have a3:x≠bi:=bo hx h1;have a4:bn≠bi:=bo h2 h1;have a5:bn≠b:=bo h2 W;have e1:dr (eA li) i.k=eA (dr li i.k):=lA (g:=id) je;have e2:dr (eA lb') (bJ i)=eA (dr lb' (bJ i)):=lA (g:=id) je;have e3:lk (eB lb) (.inl m)=some (.ref b):=by rw[mF,Z];rfl
 have e4:(lk (eA li) i.k).isSome=true:=by rw[qG,mY];exact l1
 have e5:(lk (eA lb') (bJ i)).isSome=true:=by rw[qG,mY];exact l2
 have k1:eY (.tup [.str i.kind,.int i.house,.int i.door,.int i.place,.int i.far])=some i.k:=rfl;have k2:eY (.tup [.str i.kind,.int i.place,.int i.far])=some (bJ i):=rfl
 replace hx:M x=some (bE e (.tup [.str i.kind,.int i.house,.int i.door,.int i.place,.int i.far]) (.int m) st ov):=hx
 rw[us (i:=56) (d:=oC) rfl];simp only[oC];walk_at "evs";rw[t7 k1];walk_at "evs";rw[t7 k2];walk_at "evs";rw[GZ aa];walk_at "ev";rw[if_pos (by unfold eA;rw[jc];simp;omega)]
 exact hq
theorem PD{pl ta un ho nu:Addr}{p:ao}{nw st ov:RV}{hs:List (Int×TK)}{ns:List (TK×Int)}(W:M t=some (aY e f.r (.ref pl) nw (.ref bi) (.ref bn) (.ref ho) (.ref nu)))(I:gL e M pl ta un p)(hx:M x=some (bE e i.r (.int m) st ov))(h1:M bi=some (.dt (eA li)))(h2:M bn=some (.dk (eB lb)))(hb:lk lb m=some b)(J:M b=some (.dt (eA lb')))
 (Y:M ho=some (.dk (eH hs))) (h5:M nu=some (.dt (eN ns))) (hm:lk hs m=some hk) (hn:lk ns hk=some m) (htk:(lk p.taken m).isSome=true) (hl:p.bF.length<1000)
 (l1:(lk li i.k).isSome=true) (l2:(lk lb' (bJ i)).isSome=true) (Z:(dr lb' (bJ i)).length=0) (n1:b≠bi) (n3:un≠ta) (n4:ho≠ta) (n5:ho≠un) (n6:bn≠ho) (n7:bn≠ta) (n8:bn≠un) (n9:nu≠bi) (n10:nu≠b)
 (hq:Q .ak (put (put (put (put (put (put (put M bi (.dt (eA (dr li i.k)))) b (.dt (eA (dr lb' (bJ i))))) bn (.dk (eB (dr lb m)))) nu (.dt (eN (dr ns hk)))) ho (.dk (eH (dr hs m)))) ta (.dk (eT (dr p.taken m)))) un (.dk (eU (pt p.bF m (mo+f.t3)))))):aw (P e) (n+3) 56 [.ref t,.ref x,.int mo] M Q:=by
 have a1:t≠bi:=bo W h1;have a2:t≠b:=bo W J;have a3:x≠bi:=bo hx h1;have a4:bn≠bi:=bo h2 h1;have a5:bn≠b:=bo h2 J;have e1:dr (eA li) i.k=eA (dr li i.k):=lA (g:=id) je;have e2:dr (eA lb') (bJ i)=eA (dr lb' (bJ i)):=lA (g:=id) je;have e3:lk (eB lb) (.inl m)=some (.ref b):=by rw[mF,hb];rfl
 have e4:(lk (eA li) i.k).isSome=true:=by rw[qG,mY];exact l1
 have e5:(lk (eA lb') (bJ i)).isSome=true:=by rw[qG,mY];exact l2
 have k1:eY (.tup [.str i.kind,.int i.house,.int i.door,.int i.place,.int i.far])=some i.k:=rfl;have k2:eY (.tup [.str i.kind,.int i.place,.int i.far])=some (bJ i):=rfl
 replace hx:M x=some (bE e (.tup [.str i.kind,.int i.house,.int i.door,.int i.place,.int i.far]) (.int m) st ov):=hx
 rw[us (i:=56) (d:=oC) rfl];simp only[oC];walk_at "evs";rw[t7 k1];walk_at "evs";rw[t7 k2];walk_at "evs";rw[GZ aa];walk_at "ev";rw[if_neg (by unfold eA;rw[jc,Z];simp)]
 have b1:t≠bn:=bo W h2;have b2:ho≠bi:=bo Y h1;have b3:ho≠b:=bo Y J;have e6:(lk (eB lb) (.inl m)).isSome=true:=by rw[e3];rfl
 have e7:dr (eB lb) (Sum.inl m)=eB (dr lb m):=lA iM;have e8:(lk (eH hs) (.inl m)).isSome=true:=by rw[AH,hm];rfl
 have b4:ho≠bn:=Ne.symm n6;walk_at "evs";refine PB (pl:=pl) (ta:=ta) (un:=un) (ho:=ho) (nu:=nu) (p:=p) (hs:=hs) (ns:=ns) (hk:=hk) (by rw[ai b1,ai a2,ai a1];exact W) ⟨by rw[ai (bo I.o h2),ai (bo I.o J),ai (bo I.o h1)];exact I.o,by rw[ai (Ne.symm n7),ai (bo I.t J),ai (bo I.t h1)];exact I.t,by rw[ai (Ne.symm n8),ai (bo I.u J),ai (bo I.u h1)];exact I.u⟩
  (by rw[ai b4,ai b3,ai b2];exact Y) (by rw[ai (bo h5 h2),ai n10,ai n9];exact h5) hm hn htk hl n3 n4 n5 ?_
 exact hq
end
section
variable {e:Env}{n:Nat}{M:RM}{Q:aj}{ad:cX}{f:Fm}{S S':GS}{m mo:Int}{k:Nat}{T:Tk}
theorem zX{l:List (Ro×RO)}(G:cQ e M ad f S)(h:∀p∈l,∃o,ct e ad f S p.1=some o)(k:∀r o,ct e ad f S' r=some o->ups l (ct e ad f S) r=some o):cK e M ad f S (pu ad l M) ad S':=by
 obtain⟨C,F⟩:=zu G h;exact⟨C.weak k,⟨F.keep,λr u I=>F.new r u (k r u I),F.mono⟩,rfl,rfl⟩
noncomputable def GS.less (S:GS)(T:Tk):List Tk:=S.tl.filter λU=>decide (U.id≠T.id)
noncomputable def GS.ended (S:GS)(f:Fm)(T:Tk)(mo:Int):GS:=if((S.less T).any λU=>decide (U.m=T.m))=true then { S with tl:=S.less T }else { S with tl:=S.less T,lb:=dr S.lb T.m,ns:=S.ns.filter (λx=>decide (x.2≠T.m)),un:=pt S.un T.m (mo+f.t3) }
theorem t6{κ β I:Type}[DecidableEq κ]{κ':Type}[DecidableEq κ']{g:β->κ'}{h:β->I}{l:List β}{k:κ'}:dr (l.map λx=>(g x,h x)) k=(l.filter λx=>decide (g x≠k)).map λx=>(g x,h x):=by
 unfold dr;rw[List.filter_map];rfl
theorem HM{κ β:Type}[DecidableEq κ]{l:List (κ×β)}{k:κ}(h:k∈l.map (·.1)):(lk l k).isSome=true:=by
 cases q:lk l k with
 |none=>exact absurd h (aZ.mp q)
 |some _=>rfl
theorem SJ(ok:S.Ok f)(I:T∈S.tl)(J:U∈S.tl)(Y:U.m=T.m)(ho:bJ U.i=bJ T.i):U=T:=by
 have h1:=fx (ok.tn U J);rw[Y]at h1;have W:bx f U.i=bx f T.i:=by
  have:=gr ok.d3 h1 (fx (ok.tn T I)) rfl;injection this
 exact gr ok.d1 J I (by rw[EX W ho])
theorem Gy(ok:S.Ok f)(hT:T∈S.tl):dr (bU ad S.tl) T.i.k=bU ad (S.less T):=by
 unfold bU GS.less;rw[t6 (κ:=Int)];congr 1;refine lR λU hU=>?_
 exact decide_eq_decide.mpr ⟨λz q=>z (by rw[gr ok.d6 hU hT q]),λz q=>z (by rw[gr ok.d1 hU hT q])⟩
theorem wN(ok:S.Ok f)(hT:T∈S.tl):dr (outs ad S.tl T.m) (bJ T.i)=outs ad (S.less T) T.m:=by
 unfold outs GS.less;rw[t6 (κ:=Int),qX,qX];congr 1;refine lR λU hU=>?_
 by_cases z:U.m=T.m
 . simp only[z,decide_true,Bool.and_true,Bool.true_and]
   exact decide_eq_decide.mpr ⟨λy q=>y (by rw[gr ok.d6 hU hT q]),λy q=>y (by rw[SJ ok hT hU z q])⟩
 . simp[z]
theorem EH(ok:S.Ok f)(I:T∈S.tl)(h:m≠T.m):outs ad (S.less T) m=outs ad S.tl m:=by
 unfold outs GS.less;rw[qX];congr 1;refine lR λU J=>?_
 by_cases z:U.m=m
 . have:U.id≠T.id:=λq=>h (by rw[<-z,gr ok.d6 J I q])
   simp[z,this]
 . simp[z]
theorem E6(ok:S.Ok f){U:Tk}(h:(S.less T).find? (λU=>decide (U.id=j))=some U):S.tl.find? (λU=>decide (U.id=j))=some U:=by
 have h1:=(cH.mp (List.mem_of_find?_eq_some h)).1;have h2:U.id=j:=by simpa using List.find?_some (p:=λU:Tk=>decide (U.id=j)) h
 rw[<-h2];exact mq ok.d6 h1
theorem s_end(G:cQ e M ad f S)(ok:S.Ok f)(hT:T∈S.tl)(hl:S.un.length<1000)(hq:∀M',cK e M ad f S M' ad (S.ended f T mo)->Q .ak M'):aw (P e) (n+3) 56 [.ref (ad .t),.ref (ad (.tk T.id)),.int mo] M Q:=by
 have ht:=G.at_ .t _ rfl;have h1:=G.at_ .bi _ rfl;have h2:=G.at_ .bn _ rfl;have h4:=G.at_ .ho _ rfl;have h5:=G.at_ .nu _ rfl;have cx:ct e ad f S (.tk T.id)=some (gy e T):=by show Option.map _ (S.tl.find? λU=>decide (U.id=T.id))=_;rw[mq ok.d6 hT];rfl
 have hx:=G.at_ (.tk T.id) _ cx;obtain⟨k,hb⟩:=IM ok hT;have hbA:lk (d8 ad S.lb) T.m=some (ad (.nb k)):=by unfold d8;rw[qz (g:=λk=>ad (.nb k)),hb];rfl
 have cb:ct e ad f S (.nb k)=some (.dt (eA (outs ad S.tl T.m))):=by show Option.map _ (S.lb.find? λx=>decide (x.2=k))=_;rw[oP ok.d2 (fx hb)];rfl
 have h3:=G.at_ (.nb k) _ cb;have l1:(lk (bU ad S.tl) T.i.k).isSome=true:=by
  exact HM (bu.mpr ⟨_,bu.mpr ⟨T,hT,rfl⟩,rfl⟩)
 have l2:(lk (outs ad S.tl T.m) (bJ T.i)).isSome=true:=by
  exact HM (bu.mpr ⟨_,bu.mpr ⟨T,cH.mpr ⟨hT,decide_eq_true rfl⟩,rfl⟩,rfl⟩)
 have n1:ad (.nb k)≠ad .bi:=G.ne cb rfl (λz=>by cases z)
 have nn:∀{r r':Ro} {o o':RO},ct e ad f S r=some o->ct e ad f S r'=some o'->r≠r'->ad r≠ad r':=λa b c=>G.ne a b c
 have len:(outs ad (S.less T) T.m).length=((S.less T).filter λU=>decide (U.m=T.m)).length:=by unfold outs;rw[br]
 unfold GS.ended at hq
 by_cases hany:((S.less T).any λU=>decide (U.m=T.m))=true
 . rw[if_pos hany]at hq
   refine Pz (i:=T.i) (m:=T.m) ht hx h1 h2 hbA h3 l1 l2 ?_ n1 ?_
   . rw[wN ok hT,len]
     obtain⟨U,hU,hm⟩:=lU.mp hany;exact List.length_pos_of_mem (cH.mpr ⟨hU,hm⟩)
   . refine hq _ (zX (l:=[(.bi,.dt (eA (dr (bU ad S.tl) T.i.k))),(.nb k,.dt (eA (dr (outs ad S.tl T.m) (bJ T.i))))]) G (λp hp=>?_) λr o hr=>?_)
     . simp only[cj,iV,or_false]at hp
       rcases hp with rfl|rfl
       . exact⟨_,rfl⟩
       . exact⟨_,cb⟩
     . rw[Gy ok hT,wN ok hT]
       show upd (upd (ct e ad f S) .bi _) (.nb k) _ r=some o;cases r with
       |bi=>rw[aq (λz=>by cases z),bQ];exact hr
       |tk j=>
        rw[aq (λz=>by cases z),aq (λz=>by cases z)]
        obtain⟨U,hU,rfl⟩:=mX.mp (show Option.map (gy e) ((S.less T).find? λU=>decide (U.id=j))=some o from hr)
        show Option.map _ (S.tl.find? λU=>decide (U.id=j))=_
        rw[E6 ok hU];rfl
       |nb j=>
        obtain⟨p,hp,rfl⟩:=mX.mp (show Option.map (λx:Int×Nat=>RO.dt (eA (outs ad (S.less T) x.1))) (S.lb.find? λx=>decide (x.2=j))=some o from hr)
        by_cases z:j=k
        . subst z
          rw[oP ok.d2 (fx hb)]at hp;cases hp;rw[bQ]
        . rw[aq (λq=>by injection q with q;exact z q),aq (λz=>by cases z)]
          show Option.map _ (S.lb.find? λx=>decide (x.2=j))=_
          rw[hp];have hj:p.2=j:=by simpa using List.find?_some (p:=λx:Int×Nat=>decide (x.2=j)) hp
          have hpm:p.1≠T.m:=λq=>z (by rw[<-hj,gr ok.d5 (List.mem_of_find?_eq_some hp) (fx hb) q])
          show some (RO.dt (eA (outs ad S.tl p.1)))=_;rw[EH ok hT hpm]
       |_=>rw[aq (λz=>by cases z),aq (λz=>by cases z)];exact hr
 . rw[if_neg hany]at hq
   have hin:=fx (ok.tn T hT);have hhm:lk (fB S.ns) T.m=some (bx f T.i):=xA (x:=(T.m,bx f T.i)) (by unfold fB;rw[bV];exact ok.d3) (bu.mpr ⟨_,hin,rfl⟩)
   have key:∀x∈S.ns,(x.2≠T.m↔x.1≠bx f T.i):=λx hx=>⟨λz q=>z (by have:=gr ok.d4 hx hin q;rw[this]),λz q=>z (by have:=gr ok.d3 hx hin q;rw[this])⟩
   refine PD (i:=T.i) (m:=T.m) ht (zE G) hx h1 h2 hbA h3 h4 h5 hhm (ok.tn T hT) ?_ hl l1 l2 ?_ n1 (nn (r:=.un) (r':=.ta) rfl rfl (λz=>by cases z)) (nn (r:=.ho) (r':=.ta) rfl rfl (λz=>by cases z)) (nn (r:=.ho) (r':=.un) rfl rfl (λz=>by cases z)) (nn (r:=.bn) (r':=.ho) rfl rfl (λz=>by cases z)) (nn (r:=.bn) (r':=.ta) rfl rfl (λz=>by cases z)) (nn (r:=.bn) (r':=.un) rfl rfl (λz=>by cases z)) (nn (r:=.nu) (r':=.bi) rfl rfl (λz=>by cases z)) (nn (r:=.nu) (r':=.nb k) rfl cb (λz=>by cases z)) ?_
   . show(lk (S.ns.map λx=>(x.2,())) T.m).isSome=true
     rw[xi,bV];exact decide_eq_true (bu.mpr ⟨_,hin,rfl⟩)
   . rw[wN ok hT,len,List.filter_eq_nil_iff.mpr λU hU hm=>hany (lU.mpr ⟨U,hU,hm⟩)];rfl
   . refine hq _ (zX (l:=[(.bi,.dt (eA (dr (bU ad S.tl) T.i.k))),(.nb k,.dt (eA (dr (outs ad S.tl T.m) (bJ T.i)))),(.bn,.dk (eB (dr (d8 ad S.lb) T.m))),(.nu,.dt (eN (dr S.ns (bx f T.i)))),(.ho,.dk (eH (dr (fB S.ns) T.m))),(.ta,.dk (eT (dr (S.ns.map λx=>(x.2,())) T.m))),(.un,.dk (eU (pt S.un T.m (mo+f.t3))))]) G (λp hp=>?_) λr o hr=>?_)
     . simp only[cj,iV,or_false]at hp
       rcases hp with rfl|rfl|rfl|rfl|rfl|rfl|rfl<;>first|exact⟨_,rfl⟩|exact⟨_,cb⟩
     . have e1:dr S.ns (bx f T.i)=S.ns.filter λx=>decide (x.2≠T.m):=by
        unfold dr;exact lR λx hx=>decide_eq_decide.mpr (key x hx).symm
       have e2:dr (fB S.ns) T.m=fB (S.ns.filter λx=>decide (x.2≠T.m)):=t6 (κ:=Int)
       have e3:dr (S.ns.map λx=>(x.2,())) T.m=(S.ns.filter λx=>decide (x.2≠T.m)).map λx=>(x.2,()):=t6 (κ:=Int)
       have e4:dr (d8 ad S.lb) T.m=d8 ad (dr S.lb T.m):=t6 (κ:=Int);rw[Gy ok hT,wN ok hT,e1,e2,e3,e4];cases r with
       |tk j=>
        obtain⟨U,hU,rfl⟩:=mX.mp (show Option.map (gy e) ((S.less T).find? λU=>decide (U.id=j))=some o from hr)
        have:ct e ad f S (.tk j)=some (gy e U):=by
         show Option.map _ (S.tl.find? λU=>decide (U.id=j))=_
         rw[E6 ok hU];rfl
        simpa[ups,upd]using this
       |nb j=>
        obtain⟨p,hp,rfl⟩:=mX.mp (show Option.map (λx:Int×Nat=>RO.dt (eA (outs ad (S.less T) x.1))) ((dr S.lb T.m).find? λx=>decide (x.2=j))=some o from hr)
        have hj:p.2=j:=by simpa using List.find?_some (p:=λx:Int×Nat=>decide (x.2=j)) hp
        obtain⟨hp1,hp2⟩:=cH.mp (List.mem_of_find?_eq_some hp);have hpm:p.1≠T.m:=by simpa using hp2
        have z:j≠k:=λz=>hpm (by rw[gr ok.d2 hp1 (fx hb) (hj.trans z)])
        have:ct e ad f S (.nb j)=some (.dt (eA (outs ad (S.less T) p.1))):=by
         show Option.map _ (S.lb.find? λx=>decide (x.2=j))=_
         rw[<-hj,oP ok.d2 hp1,EH ok hT hpm];rfl
        have z:¬Ro.nb j= .nb k:=λq=>z (by cases q;rfl)
        simpa[ups,upd,z]using this
       |_=>first|exact hr|(simp only[ups,upd,reduceCtorEq,if_false,if_true];exact hr)
end
section
variable {e:Env}{n:Nat}{M:RM}{Q:aj}{ad:cX}{f:Fm}{S S':GS}{m mo:Int}{k:Nat}{T:Tk}
theorem i8{α β:Type}{g:α->β}{l:List α}{p:α->Bool}(h:(l.map g).Nodup):((l.filter p).map g).Nodup:=h.sublist (List.filter_sublist.map _)
theorem AI{κ β:Type}[DecidableEq κ]{l:List (κ×β)}{k j:κ}(h:j≠k):lk (dr l k) j=lk l j:=by
 unfold dr
 induction l with
 |nil=>rfl
 |cons p l ih=>
  rw[lS];split
  . rw[fm,fm,ih]
  . rename_i z
    have:p.1=k:=by simpa using z
    rw[fm,if_neg (λq=>h (q.symm.trans this)),ih]
theorem Ok.ended(ok:S.Ok f):(S.ended f T mo).Ok f:=by
 have sub:∀U∈S.less T,U∈S.tl:=λU h=>(cH.mp h).1
 have len:(S.less T).length<900:=iU (gY _ _) ok.sz.1;unfold GS.ended;split
 . exact { ok with
    i1:=λU h=>ok.i1 U (sub U h)
    d1:=i8 ok.d1
    d6:=i8 ok.d6
    tn:=λU h=>ok.tn U (sub U h)
    sz:=⟨len,ok.sz.2⟩ }
 . rename_i hany
   have ne:∀U∈S.less T,U.m≠T.m:=λU h z=>hany (lU.mpr ⟨U,h,decide_eq_true z⟩)
   exact {
    mr:=ok.mr
    i1:=λU h=>ok.i1 U (sub U h)
    i2:=λx h=>ok.i2 x (cH.mp h).1
    d1:=i8 ok.d1
    d2:=i8 ok.d2
    d3:=i8 ok.d3
    d4:=i8 ok.d4
    d5:=i8 ok.d5
    d6:=i8 ok.d6
    tn:=λU h=>xA (x:=(bx f U.i,U.m)) (i8 ok.d4) (cH.mpr ⟨fx (ok.tn U (sub U h)),decide_eq_true (ne U h)⟩)
    nb:=λx h=>by
     obtain⟨h1,h2⟩:=cH.mp h;obtain⟨k,hk⟩:=ok.nb x h1;exact⟨k,by show lk (dr S.lb T.m) x.2=_;rw[AI (by simpa using h2)];exact hk⟩
    bn:=λx h=>by
     obtain⟨h1,h2⟩:=cH.mp h;obtain⟨y,hy,e1⟩:=bu.mp (ok.bn x h1);exact bu.mpr ⟨y,cH.mpr ⟨hy,by rw[e1];exact h2⟩,e1⟩
    hk:=λx h=>ok.hk x (cH.mp h).1
    sz:=⟨len,iU (gY _ _) ok.sz.2.1,iU (gY _ _) ok.sz.2.2⟩ }
theorem tM:(S.ended f T mo).tl=S.less T:=by unfold GS.ended;split<;>rfl
theorem Ga:(S.ended f T mo).un.length<=S.un.length+1:=by
 unfold GS.ended;split
 . exact Nat.le_succ _
 . exact UB
def eD(f:Fm):List Tk->GS->GS
 | [],S=>S
 |T::l,S=>eD f l (S.ended f T T.ov)
theorem Ey(G:cQ e M ad f S)(ok:S.Ok f)(hT:T∈S.tl):M (ad (.tk T.id))=some (gy e T):=G.at_ (.tk T.id) _ (by show Option.map _ (S.tl.find? λU=>decide (U.id=T.id))=_;rw[mq ok.d6 hT];rfl)
theorem Ih{D:RD}{z1 z2:Option RV}:∀(l:List Tk) {S:GS} {M:RM} {z3:Option RV},cQ e M ad f S->S.Ok f->(∀T∈l,T∈S.tl)->(l.map (·.id)).Nodup->S.un.length+l.length<1000->(∀M' z,cK e M ad f S M' ad (eD f l S)->D.nx [some (.ref (ad .t)),z1,z2,z] M')->
 iQ (gQ 3) (tr ((P e).Gn (n+3)) (.se (.ex (.me 56 (.v 0) (.ec (.v 3) (.ec (.fl 2 "over" (.v 3)) .e0)))) .en)).S D cV id (l.map λT=>RV.ref (ad (.tk T.id))) [some (.ref (ad .t)),z1,z2,z3] M
 | [],S,M,z3,G,ok,_,_,_,hq=>⟨dh,hq _ _ (cK.refl G)⟩
 |T::l,S,M,z3,G,ok,hT,nd,hl,hq=>by
  have ht:=G.at_ .t _ rfl;have hx:=Ey G ok (hT T (.head _));rw[bT,gU]at nd;refine⟨dh,?_⟩;unfold gQ;walk_at "ev";rw[ht];walk_at "ev";rw[hx];unfold gy;walk_at "ev";refine s_end G ok (hT T (.head _)) (by omega) λM' st=>?_
  refine Ih l st.1 (Ok.ended ok) (λU hU=>?_) nd.2 ?_ λM2 z st2=>hq M2 z (st.trans st2)
  . rw[tM]
    refine cH.mpr ⟨hT U (.tail _ hU),decide_eq_true λz=>nd.1 ?_⟩
    rw[<-z];exact uJ (f:=(·.id)) hU
  . have:=Ga (S:=S) (f:=f) (T:=T) (mo:=T.ov)
    rw[eG]at hl;omega
noncomputable def GS.at_ (S:GS)(k:Int):GS:={ S with now:=S.now+k }
theorem WJ{k:Int}(G:cQ e M ad f S):cK e M ad f S (put M (ad .t) (aY e f.r (.ref (ad .pl)) (.int (S.now+k)) (.ref (ad .bi)) (.ref (ad .bn)) (.ref (ad .ho)) (.ref (ad .nu)))) ad (S.at_ k):=
 zX (l:=[(.t,aY e f.r (.ref (ad .pl)) (.int (S.now+k)) (.ref (ad .bi)) (.ref (ad .bn)) (.ref (ad .ho)) (.ref (ad .nu)))]) G (λp hp=>by cases fH.mp hp;exact⟨_,rfl⟩) λr o hr=>by
  cases r with
  |t=>rw[<-hr];exact bQ
  |_=>exact(aq (λz=>by cases z)).trans hr
def bK(e:Env):RO:=.tb e.lP (P e).S.lp (P e).S.lq
theorem Tu{fr rp rbi rbn rho rnu:RV}{t:Addr}{nw k:Int}{tv:ar}{σ:bB}{N:RM->Prop}(ht:M t=some (aY e fr rp (.int nw) rbi rbn rho rnu))(hv:∀K:aj,K (.int k) M->tv σ M K)(hN:N (put M t (aY e fr rp (.int (nw+k)) rbi rbn rho rnu))):rO (e.C 3) "now" tv σ N (.ref t) M:=by
 unfold rO;simp only[ht];refine⟨rfl,?_⟩;show tv σ M _;refine hv _ ?_;show(match M t with|some (.ins C2 fs2)=>_|_=>False)
 rw[ht];exact⟨rfl,by show(7:Nat)<1000;decide,hN⟩
theorem Rj{fr rp now rbn rho rnu:RV}{t bi:Addr}{l:List (TK×Addr)}(ht:M t=some (aY e fr rp now (.ref bi) rbn rho rnu))(hb:M bi=some (.dt (eA l))):aw (P e) (n+1) 18 [.ref t] M Q=Q (.ls (l.map λx=>.ref x.2)) M:=by
 have e1:(eA l).map (·.2)=l.map λx=>RV.ref x.2:=by unfold eA enc;rw[bV];rfl
 rw[us (i:=18) (d:=su) rfl];simp only[su];walk_at "evs"
def vD(M:RM)(now:Int):RV->Bool
 | .ref a=>match M a with
  |some (.ins _ fs)=>match fs.lookup ("over":Str)with
   |some (.int o)=>decide (o<=now)
   |_=>false
  |_=>false
 |_=>false
theorem Ep{α β:Type}{g:α->β}:∀{l':List β} {l:List α},l'.Perm (l.map g)->∃l2:List α,l2.Perm l/\l2.map g=l'
 | [],l,h=>by
  have:l= []:=by simpa using h.nil_eq
  exact⟨[],by rw[this],rfl⟩
 |b::l',l,h=>by
  obtain⟨a,ha,rfl⟩:=bu.mp (h.mem_iff.mp (.head _));obtain⟨s,t,rfl⟩:=List.append_of_mem ha;have h2:l'.Perm ((s++t).map g):=by
   refine List.Perm.cons_inv (a:=g a) (h.trans ?_);rw[fe,bT,fe];exact List.perm_middle
  obtain⟨l2,p2,rfl⟩:=Ep h2;exact⟨a::l2,(p2.cons a).trans List.perm_middle.symm,rfl⟩
noncomputable def GS.over (S:GS):List Tk:=S.tl.filter λT=>decide (T.ov<=S.now)
theorem Qa{k:Int}(G:cQ e M ad f S)(ok:S.Ok f)(htb:M e.lP=some (bK e))(hl:S.un.length+S.tl.length<1000)(h64:S.tl.length<64)
 (hq:∀(ys:List Tk) M',ys.Perm (S.at_ k).over->ys.Pairwise (λa b=>a.ov<=b.ov)->cK e M ad f S M' ad (eD f ys (S.at_ k))->Q .ak M'):aw (P e) (n+4) 37 [.ref (ad .t),.int k] M Q:=by
 have ht:=G.at_ .t _ rfl;rw[us (i:=37) (d:=aE) rfl];simp only[aE];walk_at "ev";rw[MU];walk_at "ev";refine Tu ht (λK hK=>by walk_at "ev";exact hK) ?_
 have st1:=WJ (k:=k) G;generalize put M (ad .t) _=M1 at st1;obtain⟨G1,F1,_,_⟩:=id st1;have ht1:=G1.at_ .t _ rfl;have hb1:=G1.at_ .bi _ rfl;walk_at "ev";rw[ht1];walk_at "ev";rw[Rj ht1 hb1,Iv];have htl:(S.at_ k).tl=S.tl:=rfl;have exs:((bU ad (S.at_ k).tl).map λx=>RV.ref x.2)=S.tl.map λT=>RV.ref (ad (.tk T.id)):=by unfold bU;rw[bV];rfl
 rw[exs];have ok1:(S.at_ k).Ok f:={ ok with }
 have hat:∀T∈S.tl,M1 (ad (.tk T.id))=some (gy e T):=λT hT=>Ey G1 ok1 hT
 have hov:∀T∈S.tl,vD M1 (S.now+k) (.ref (ad (.tk T.id)))=decide (T.ov<=S.now+k):=λT hT=>by
  unfold vD;simp only[hat T hT];rfl
 have htb1:M1 e.lP=some (bK e):=F1.keep _ _ htb λr u hr z=>by
  have:=G.at_ r u hr;rw[z,htb]at this;cases this;cases r<;>first|(cases hr;done)|skip
  . obtain⟨_,_,h⟩:=mX.mp hr;cases h
  . obtain⟨_,_,h⟩:=mX.mp hr;cases h
 refine⟨by rw[br];exact gz h64 (by decide),jd (bd:=gP false 1) (vD M1 (S.now+k)) id dh _ _ (λx hx=>?_) ?_⟩
 . obtain⟨T,hT,rfl⟩:=bu.mp hx
   have h:=hat T hT;refine⟨[.ref (ad (.tk T.id))],rfl,λK hK=>?_,λ_ K hK=>?_⟩
   . rw[hov T hT]at hK
     show(tr ((P e).Gn (n+3)) _).T [some (.ref (ad (.tk T.id))),some (.ref (ad .t))] _ K;walk_at "ev";rw[h];unfold gy;walk_at "ev";rw[ht1];walk_at "ev";exact hK
   . show(tr ((P e).Gn (n+3)) _).E [some (.ref (ad (.tk T.id))),some (.ref (ad .t))] _ K
     walk_at "ev";exact hK
 . rw[mD,mZ,List.map_id]
   have ef:(S.tl.map λT=>RV.ref (ad (.tk T.id))).filter (vD M1 (S.now+k))=(S.at_ k).over.map λT=>RV.ref (ad (.tk T.id)):=by
    rw[List.filter_map];congr 1;exact lR λT hT=>hov T hT
   have sub:∀T∈(S.at_ k).over,T∈S.tl:=λT h=>(cH.mp h).1
   rw[ef];refine⟨(S.at_ k).over.map λT=>(T.ov,ad (.tk T.id)),.inl (by rw[bV,bV];rfl),λz hz=>?_,?_,htb1,λys' hp hs=>?_⟩
   . obtain⟨T,hT,rfl⟩:=bu.mp hz
     exact⟨_,hat T (sub T hT),rfl⟩
   . rw[br];exact iU (gY _ _) h64
   . obtain⟨ys,py,rfl⟩:=Ep hp
     rw[Iv,show((ys.map λT=>(T.ov,ad (.tk T.id))).map Prod.snd).map RV.ref=ys.map λT=>RV.ref (ad (.tk T.id)) by rw[bV,bV];rfl]
     refine Ih ys G1 ok1 (λT hT=>sub T (py.mem_iff.mp hT)) ?_ ?_ λM2 z st2=>?_
     . exact(py.map _).nodup_iff.mpr (i8 ok1.d6)
     . have h1:=py.length_eq
       have h2:(S.at_ k).over.length<=S.tl.length:=gY _ _;show S.un.length+ys.length<1000;omega
     . rw[List.pairwise_map]at hs
       exact hq ys M2 py hs (st1.trans st2)
end
section
variable {e:Env}{n:Nat}{M:RM}{Q:aj}{ad:cX}{f:Fm}{S S':GS}{m mo:Int}{k:Int}{T:Tk}
theorem Fj:∀{l:List Tk} {S:GS},(eD f l S).ds=S.ds
 | [],S=>rfl
 |T::l,S=>by
  show(eD f l _).ds=_;rw[Fj];unfold GS.ended;split<;>rfl
def xu(k:Int):RV:=.tup [.tup [.str "wait",.int k],.ak]
theorem UJ(G:cQ e M ad f S)(ok:S.Ok f)(tb:Tb e)(htb:M e.lP=some (bK e))(h1:0<=k)(h2:k<=1000000)(hl:S.un.length+S.tl.length<1000)(h64:S.tl.length<64)(hd:S.ds.length<900)
 (hq:∀(ys:List Tk) M',ys.Perm (S.at_ k).over->ys.Pairwise (λa b=>a.ov<=b.ov)->cK e M ad f S M' ad ((eD f ys (S.at_ k)).wrote (xu k))->Q .ak M'):aw (P e) (n+7) 40 [.ref (ad .g),.int k] M Q:=by
 have hg:=G.at_ .g _ rfl;rw[us (i:=40) (d:=sW) rfl];simp only[sW];walk_at "ev";rw[hg];walk_at "ev";rw[us (i:=39) (d:=k8) rfl];simp only[k8];walk_at "ev";refine OZ (n:=n) tb h1 h2 ?_;walk_at "ev";rw[hg];walk_at "ev";rw[qM];rw[us (i:=57) (d:=la) rfl];simp only[la];walk_at "ev";rw[show(("wait":Str)==("out":Str))=false by decide,if_neg (by simp),show(("wait":Str)==("come":Str))=false by decide,if_neg (by simp),show(("wait":Str)==("lost":Str))=false by decide,if_neg (by simp),hg]
 walk_at "ev";rw[G.at_ .t _ rfl];walk_at "ev";refine Qa (n:=n) G ok htb hl h64 λys M' p1 p2 st=>?_
 have hg':=st.1.at_ .g _ rfl;have hdn':=st.1.at_ .dn _ rfl;rw[hg'];walk_at "ev";rw[hdn'];walk_at "ev";exact⟨_,_,rfl,hdn',gz (by rw[Fj];exact hd) (by decide),hq ys _ p1 p2 (st.trans (zV st.1))⟩
end
section
variable {f:Fm}{S:GS}{m:Int}{T:Tk}
noncomputable def GS.rem (S:GS)(l:List Tk):List Tk:=S.tl.filter λU=>decide (U.id∉l.map (·.id))
def cg:List Tk->Int->Option Int
 | [],_=>none
 |T::l,m=>match cg l m with
  |some o=>some o
  |none=>if T.m=m then some T.ov else none
noncomputable def GS.alive (S:GS)(l:List Tk)(m:Int):Bool:=!(cg l m).isSome||((S.rem l).any λU=>decide (U.m=m))
theorem aJ:∀{l:List Tk},cg l m=none↔∀T∈l,T.m≠m
 | []=>by simp[cg]
 |T::l=>by
  have ih:=aJ (l:=l);unfold cg;cases h:cg l m with
  |some o=>
   rw[h]at ih;simp only[reduceCtorEq,false_iff]at ih ⊢;exactλz=>ih λU hU=>z U (.tail _ hU)
  |none=>
   rw[h]at ih;simp only[true_iff]at ih
   by_cases z:T.m=m
   . simp[z]
   . simp only[if_neg z,true_iff]
     intro U hU;rcases cj.mp hU with rfl|hU
     . exact z
     . exact ih U hU
theorem Rz{κ β:Type}[DecidableEq κ]{k j:κ}{y:β}(h:j≠k):∀{l:List (κ×β)},lk (pt l k y) j=lk l j:=by
 intro l;unfold pt;split
 . rename_i hz
   clear hz
   induction l with
   |nil=>rfl
   |cons p l ih=>
    rw[bT,fm]
    by_cases z:p.1=k
    . rw[if_pos z]
      show(if p.1=j then _ else _)=_
      rw[if_neg (λq=>h (q.symm.trans z)),fm,if_neg (λq=>h (q.symm.trans z))]
      exact ih
    . rw[if_neg z,fm]
      split
      . rfl
      . exact ih
 . rw[qA]
   cases lk l j with
   |some y=>rfl
   |none=>show lk [(k,y)] j=none;rw[fm,if_neg (Ne.symm h)];rfl
structure x9(f:Fm)(S:GS)(l:List Tk)(S':GS):Prop where
 tl:S'.tl=S.rem l
 ns:S'.ns=S.ns.filter λx=>S.alive l x.2
 lb:S'.lb=S.lb.filter λx=>S.alive l x.1
 nw:S'.now=S.now
 mr:S'.mark=S.mark
 nx:S'.nx=S.nx
 ds:S'.ds=S.ds
 un:∀m,lk S'.un m=if S.alive l m=true then lk S.un m else(cg l m).map (. +f.t3)
theorem EL:∀(l:List Tk) {S:GS},S.Ok f->(∀T∈l,T∈S.tl)->(l.map (·.id)).Nodup->x9 f S l (eD f l S)
 | [],S,ok,_,_=>by
  have e1:∀m,S.alive [] m=true:=λm=>by simp[GS.alive,cg]
  refine⟨?_,?_,?_,rfl,rfl,rfl,rfl,λm=>by rw[e1,if_pos rfl];rfl⟩
  . show S.tl=S.rem []
    unfold GS.rem;exact(pR.mpr λ_ _=>by simp).symm
  . exact(pR.mpr λx _=>e1 x.2).symm
  . exact(pR.mpr λx _=>e1 x.1).symm
 |T::l,S,ok,hT,nd=>by
  rw[bT,gU]at nd;have hl:∀U∈l,U∈S.less T:=λU hU=>cH.mpr ⟨hT U (.tail _ hU),decide_eq_true λz=>nd.1 (z ▸ uJ (f:=(·.id)) hU)⟩
  have ih:=EL l (S:=S.ended f T T.ov) (Ok.ended ok) (λU hU=>by rw[tM];exact hl U hU) nd.2
  have er:(S.ended f T T.ov).rem l=S.rem (T::l):=by
   unfold GS.rem;rw[tM];unfold GS.less;rw[qX];refine lR λU _=>?_
   rw[<-Bool.decide_and];refine decide_eq_decide.mpr ?_;rw[bT,cj,not_or];exact And.comm
  have ea:∀m,(S.ended f T T.ov).alive l m=(!(cg l m).isSome||((S.rem (T::l)).any λU=>decide (U.m=m))):=λm=>by unfold GS.alive;rw[er]
  have ne:∀m,m≠T.m->(S.ended f T T.ov).alive l m=S.alive (T::l) m:=λm h=>by
   rw[ea];unfold GS.alive;rw[show cg (T::l) m=cg l m by show(match cg l m with|some o=>some o|none=>if T.m=m then some T.ov else none)=_;rw[if_neg (Ne.symm h)];cases cg l m<;>rfl]
  have lv:∀m,(S.ended f T T.ov).alive l m=false->∃o,cg l m=some o:=λm h=>by
   rw[ea]at h;cases q:cg l m with
   |none=>rw[q]at h;cases h
   |some o=>exact⟨o,rfl⟩
  by_cases hany:((S.less T).any λU=>decide (U.m=T.m))=true
  . have eS:S.ended f T T.ov= { S with tl:=S.less T }:=by unfold GS.ended;rw[if_pos hany]
    have al:∀m,(S.ended f T T.ov).alive l m=S.alive (T::l) m:=λm=>by
     by_cases h:m=T.m
     . subst h
       rw[ea];unfold GS.alive;cases q:cg l T.m with
       |some o=>rw[show cg (T::l) T.m=some o by show(match cg l T.m with|some o=>some o|none=>_)=_;rw[q]]
       |none=>
        obtain⟨U,hU,hm⟩:=lU.mp hany;have hm:U.m=T.m:=by simpa using hm
        have:((S.rem (T::l)).any λU=>decide (U.m=T.m))=true:=lU.mpr ⟨U,by
         rw[<-er];unfold GS.rem;rw[tM];refine cH.mpr ⟨hU,decide_eq_true λz=>?_⟩
         obtain⟨V,hV,e1⟩:=bu.mp z;have:V=U:=gr ok.d6 (cH.mp (hl V hV)).1 (cH.mp hU).1 e1;exact aJ.mp q V hV (by rw[this];exact hm),decide_eq_true hm⟩
        rw[this];simp
     . exact ne m h
    refine⟨ih.tl.trans er,?_,?_,ih.nw.trans (by rw[eS]),ih.mr.trans (by rw[eS]),ih.nx.trans (by rw[eS]),ih.ds.trans (by rw[eS]),λm=>(ih.un m).trans ?_⟩
    . refine ih.ns.trans ?_
      simp only[al];rw[eS]
    . refine ih.lb.trans ?_
      simp only[al];rw[eS]
    . cases q:(S.ended f T T.ov).alive l m with
      |true=>rw[<-al m,q,if_pos rfl,if_pos rfl,eS]
      |false=>
       obtain⟨o,ho⟩:=lv m q;rw[<-al m,q,if_neg (by simp),if_neg (by simp),show cg (T::l) m=some o by show(match cg l m with|some o=>some o|none=>_)=_;rw[ho],ho]
  . have eS:S.ended f T T.ov= { S with tl:=S.less T,lb:=dr S.lb T.m,ns:=S.ns.filter (λx=>decide (x.2≠T.m)),un:=pt S.un T.m (T.ov+f.t3) }:=by unfold GS.ended;rw[if_neg hany]
    have q0:cg l T.m=none:=aJ.mpr λU hU z=>hany (lU.mpr ⟨U,hl U hU,decide_eq_true z⟩)
    have q1:cg (T::l) T.m=some T.ov:=by show(match cg l T.m with|some o=>some o|none=>_)=_;rw[q0];exact if_pos rfl
    have q2:S.alive (T::l) T.m=false:=by
     unfold GS.alive;rw[q1];simp only[Bc,Bool.not_true,Bool.false_or];rw[<-Bool.not_eq_true];intro z;obtain⟨U,hU,hm⟩:=lU.mp z;rw[<-er]at hU;unfold GS.rem at hU;rw[tM]at hU;exact hany (lU.mpr ⟨U,(cH.mp hU).1,hm⟩)
    refine⟨ih.tl.trans er,?_,?_,ih.nw.trans (by rw[eS]),ih.mr.trans (by rw[eS]),ih.nx.trans (by rw[eS]),ih.ds.trans (by rw[eS]),λm=>(ih.un m).trans ?_⟩
    . refine ih.ns.trans ?_
      have:(S.ended f T T.ov).ns=S.ns.filter (λx=>decide (x.2≠T.m)):=by rw[eS]
      rw[this,qX];refine lR λx _=>?_
      by_cases h:x.2=T.m
      . rw[h,q2];simp
      . rw[ne _ h];simp[h]
    . refine ih.lb.trans ?_
      have:(S.ended f T T.ov).lb=dr S.lb T.m:=by rw[eS]
      rw[this];unfold dr;rw[qX];refine lR λx _=>?_
      by_cases h:x.1=T.m
      . rw[h,q2];simp
      . rw[ne _ h];simp[h]
    . have eu:(S.ended f T T.ov).un=pt S.un T.m (T.ov+f.t3):=by rw[eS]
      rw[eu]
      by_cases h:m=T.m
      . subst h
        rw[ea,q0,q2,q1,Jn];rfl
      . rw[ne m h,Rz h,show cg (T::l) m=cg l m by show(match cg l m with|some o=>some o|none=>if T.m=m then some T.ov else none)=_;rw[if_neg (Ne.symm h)];cases cg l m<;>rfl]
end
section
variable {f:Fm}{S S' S1 S2:GS}{m:Int}{T:Tk}{i:bc}
theorem y9:∀{l:List Tk} {o:Int},l.Pairwise (λa b=>a.ov<=b.ov)->cg l m=some o->(∃T∈l,T.m=m/\T.ov=o)/\∀T∈l,T.m=m->T.ov<=o
 |T::l,o,hp,h=>by
  rw[List.pairwise_cons]at hp;have h':(match cg l m with|some o=>some o|none=>if T.m=m then some T.ov else none)=some o:=h
  cases q:cg l m with
  |some o'=>
   rw[q]at h';cases h';obtain⟨⟨U,hU,u1,u2⟩,h2⟩:=y9 hp.2 q;refine⟨⟨U,.tail _ hU,u1,u2⟩,λV hV hm=>?_⟩
   rcases cj.mp hV with rfl|hV
   . rw[<-u2];exact hp.1 U hU
   . exact h2 V hV hm
  |none=>
   rw[q]at h';have h':(if T.m=m then some T.ov else none)=some o:=h'
   split at h'
   . rename_i z
     cases h';refine⟨⟨T,.head _,z,rfl⟩,λV hV hm=>?_⟩
     rcases cj.mp hV with rfl|hV
     . exact Int.le_refl _
     . exact absurd hm (aJ.mp q V hV)
   . cases h'
theorem Pa{l l':List Tk}(h:l.Perm l')(p:l.Pairwise λa b=>a.ov<=b.ov)(p':l'.Pairwise λa b=>a.ov<=b.ov):cg l m=cg l' m:=by
 cases q:cg l m with
 |none=>exact(aJ.mpr λT hT=>aJ.mp q T (h.mem_iff.mpr hT)).symm
 |some o=>
  cases q':cg l' m with
  |none=>
   have:=aJ.mpr λT hT=>aJ.mp q' T (h.mem_iff.mp hT)
   rw[this]at q;cases q
  |some o'=>
   obtain⟨⟨T,hT,a1,a2⟩,h1⟩:=y9 p q;obtain⟨⟨U,hU,b1,b2⟩,h2⟩:=y9 p' q';have:=h2 T (h.mem_iff.mp hT) a1;have:=h1 U (h.mem_iff.mpr hU) b1;exact congrArg some (by omega)
structure bw(S S':GS):Prop where
 nw:S'.now=S.now
 mr:S'.mark=S.mark
 ns:S'.ns=S.ns
 tl:S'.tl=S.tl
 lb:S'.lb=S.lb
 nx:S'.nx=S.nx
 ds:S'.ds=S.ds
 un:∀m,lk S'.un m=lk S.un m
theorem bw.refl:bw S S:=⟨rfl,rfl,rfl,rfl,rfl,rfl,rfl,λ_=>rfl⟩
theorem QD{l l':List Tk}(h:bw S S')(F1:x9 f S l S1)(F2:x9 f S' l' S2)(hp:l.Perm l')(p:l.Pairwise λa b=>a.ov<=b.ov)(p':l'.Pairwise λa b=>a.ov<=b.ov):bw S1 S2:=by
 have er:S'.rem l'=S.rem l:=by
  unfold GS.rem;rw[h.tl];exact lR λU _=>decide_eq_decide.mpr (not_congr (hp.map _).mem_iff.symm)
 have el:∀m,cg l' m=cg l m:=λm=>(Pa hp p p').symm
 have ea:∀m,S'.alive l' m=S.alive l m:=λm=>by unfold GS.alive;rw[er,el]
 refine⟨by rw[F2.nw,F1.nw,h.nw],by rw[F2.mr,F1.mr,h.mr],by rw[F2.ns,F1.ns,h.ns];simp only[ea],by rw[F2.tl,F1.tl,er],by rw[F2.lb,F1.lb,h.lb];simp only[ea],by rw[F2.nx,F1.nx,h.nx],by rw[F2.ds,F1.ds,h.ds],λm=>?_⟩
 rw[F2.un,F1.un,ea,el,h.un]
theorem y8{v:RV}(h:bw S S'):bw (S.wrote v) (S'.wrote v):={ h with ds:=by show S'.ds++ [v]=S.ds++ [v];rw[h.ds] }
theorem FG{k:Nat}(h:bw S S'):bw (S.fq f k) (S'.fq f k):={ h with tl:=by show S'.tl.map _=S.tl.map _;rw[h.tl,h.nw] }
theorem E5{i:Int}(h:bw S S'):(cN f S').free i S'.now=(cN f S).free i S.now:=by
 unfold ao.free cN ao.has;simp only[h.ns,h.un,h.nw]
theorem QC{b:Bool}{d:Int}(h:bw S S'):(cN f S').pick b d S'.now=(cN f S).pick b d S.now:=by
 unfold ao.pick;rw[E5 h];have e1:(cN f S').line=(cN f S).line:=by unfold ao.line cN;simp only[h.mr]
 rw[e1];have e2:(λi=>(cN f S').free i S'.now)=λi=>(cN f S).free i S.now:=funext λi=>E5 h
 rw[e2]
theorem RB(h:bw S S'):(S'.ba f i).2=(S.ba f i).2/\bw (S.ba f i).1 (S'.ba f i).1:=by
 unfold GS.ba;rw[h.tl,h.ns,QC h];cases S.tl.find? λT=>decide (T.i.k=i.k)with
 |some T=>exact⟨rfl,FG h⟩
 |none=>
  cases lk S.ns (bx f i)with
  |some m=>
   refine⟨rfl,{ h with tl:=?_,nx:=?_ }⟩
   . show S'.tl++ [_]=S.tl++ [_];rw[h.tl,h.nx,h.nw]
   . show S'.nx+1=S.nx+1;rw[h.nx]
  |none=>
   by_cases hm:f.most<=((iR (fB S.ns) i.house).length:Int)
   . simp only[if_pos hm];exact⟨trivial,h⟩
   . simp only[if_neg hm]
     cases(cN f S).pick (f.pick== "keep") i.door S.now with
     |none=>exact⟨rfl,h⟩
     |some m=>
      refine⟨rfl,⟨h.nw,?_,?_,?_,?_,?_,h.ds,λj=>?_⟩⟩
      . show((cN f S').take m).mark=((cN f S).take m).mark;rfl
      . show S'.ns++ [_]=S.ns++ [_];rw[h.ns]
      . show S'.tl++ [_]=S.tl++ [_];rw[h.tl,h.nx,h.nw]
      . show S'.lb++ [_]=S.lb++ [_];rw[h.lb,h.nx]
      . show S'.nx+2=S.nx+2;rw[h.nx]
      . show lk (dr S'.un m) j=lk (dr S.un m) j
        by_cases z:j=m
        . subst z
          rw[aZ.mpr (λz=>by obtain⟨p,hp,e1⟩:=bu.mp z;have:=(cH.mp hp).2;simp[e1]at this),aZ.mpr (λz=>by obtain⟨p,hp,e1⟩:=bu.mp z;have:=(cH.mp hp).2;simp[e1]at this)]
        . rw[AI z,AI z,h.un]
theorem QE{p far:Int}(h:bw S S'):S'.bH f m p far=S.bH f m p far/\bw (S.bO f m p far) (S'.bO f m p far):=by
 unfold GS.bH GS.bO GS.gm;rw[h.tl,h.ns];refine⟨rfl,?_⟩;cases S.tl.find? λT=>decide (T.m=m/\bJ T.i=pE p far)with
 |none=>exact h
 |some T=>
  by_cases z:f.renew=true
  . simp only[if_pos z];exact FG h
  . simp only[if_neg z];exact h
def AY(l:List Tk):List Tk:=l.mergeSort λa b=>decide (a.ov<=b.ov)
theorem dZ{l:List Tk}:(AY l).Perm l:=List.mergeSort_perm _ _
theorem Ub{l:List Tk}:(AY l).Pairwise λa b=>a.ov<=b.ov:=by
 refine(List.pairwise_mergeSort (le:=λa b:Tk=>decide (a.ov<=b.ov)) (λa b c h1 h2=>?_) (λa b=>?_) l).imp λh=>of_decide_eq_true h
 . simp only[decide_eq_true_eq]at h1 h2 ⊢;omega
 . simp only[Bool.or_eq_true,decide_eq_true_eq];omega
noncomputable def GS.gX (S:GS)(f:Fm)(k:Int):GS:=eD f (AY (S.at_ k).over) (S.at_ k)
theorem zQ{ys:List Tk}{k:Int}(ok:S.Ok f)(h:ys.Perm (S.at_ k).over):x9 f (S.at_ k) ys (eD f ys (S.at_ k)):=
 EL ys { ok with } (λT hT=>(cH.mp (h.mem_iff.mp hT)).1) ((h.map _).nodup_iff.mpr (i8 ok.d6))
theorem Qz{ys:List Tk}{k:Int}(ok:S.Ok f)(ok':S'.Ok f)(h:bw S S')(p1:ys.Perm (S'.at_ k).over)(p2:ys.Pairwise λa b=>a.ov<=b.ov):bw (S.gX f k) (eD f ys (S'.at_ k)):=by
 have h1:bw (S.at_ k) (S'.at_ k):={ h with nw:=by show S'.now+k=S.now+k;rw[h.nw] }
 have eo:(S'.at_ k).over=(S.at_ k).over:=by unfold GS.over;rw[h1.tl,h1.nw]
 exact QD h1 (zQ ok dZ) (zQ ok' p1) (dZ.trans (eo ▸ p1.symm)) Ub p2
end
section
variable {e:Env}{n:Nat}{M M' M0:RM}{Q:aj}{f f1 f2:Fm}{S S' S1 S2 T1 T2:GS}{A B A1 B1 A2 B2 i:bc}{c:Nat}{k m p far:Int}{v:RV}{ad ad' ad1 ad2:cX}{g1 g2:Addr}
structure Gd(f:Fm)(A B:bc)(c:Nat)(S:GS):Prop where
 ok:S.Ok f
 nt:Nt S
 tl:∀T∈S.tl,T.i=A∨T.i=B
 s1:S.ns.length<=c
 s2:S.lb.length<=c
 s3:S.ds.length<=c
 s4:S.un.length<=2*c
 nr:∀x∈S.ns,f.low<=x.2/\x.2<=f.high
theorem QZ{α β:Type}{g:α->β}{a b:β}:∀{l:List α},(l.map g).Nodup->(∀x∈l,g x=a∨g x=b)->l.length<=2
 | [],_,_=>by simp
 | [_],_,_=>by simp
 | [_,_],_,_=>by simp
 |x::y::z::l,nd,h=>by
  simp only[bT,gU,cj,not_or]at nd;have h1:=h x (by simp)
  have h2:=h y (by simp)
  have h3:=h z (by simp)
  obtain⟨⟨n1,n2,_⟩,⟨n3,_⟩,_⟩:=nd;rcases h1 with h1|h1<;>rcases h2 with h2|h2<;>rcases h3 with h3|h3<;>first|exact absurd (h1.trans h2.symm) n1|exact absurd (h1.trans h3.symm) n2|exact absurd (h2.trans h3.symm) n3
theorem Gd.two(h:Gd f A B c S):S.tl.length<=2:=QZ h.ok.d1 λT hT=>by
 rcases h.tl T hT with z|z
 . exact .inl (congrArg bc.k z)
 . exact .inr (congrArg bc.k z)
theorem oJ(h:Gd f A B c S):Gd f A B (c+1) (S.wrote v):=⟨Ok.wrote h.ok,h.nt,h.tl,qZ h.s1,qZ h.s2,by show(S.ds++ [v]).length<=c+1;rw[dH];exact Nat.succ_le_succ h.s3,by have:=h.s4;show S.un.length<=_;omega,h.nr⟩
theorem Hv{j:Nat}(h:Gd f A B c S):Gd f A B c (S.fq f j):=⟨Ok.fq h.ok,Nt.fq h.nt,λT hT=>by
 obtain⟨U,hU,rfl⟩:=bu.mp hT;show(if U.id=j then _ else U:Tk).i=A∨(if U.id=j then _ else U:Tk).i=B
 split<;>exact h.tl U hU,h.s1,h.s2,h.s3,h.s4,h.nr⟩
theorem Ak(h:Gd f A B c S)(okf:f.Ok)(hc:c<800)(hk:i.kind= "note")(hi:i=A∨i=B):Gd f A B (c+1) ((S.ba f i).1.wrote v):=by
 have t2:=h.two;have:=h.s1;have:=h.s2;have:=h.s3;have:=h.s4;have tls:∀T:Tk,T.i=i->∀U∈S.tl++ [T],U.i=A∨U.i=B:=λT z U hU=>by
  rcases eZ.mp hU with q|q
  . exact h.tl U q
  . cases fH.mp q;rw[z];exact hi
 unfold GS.ba;cases ef:S.tl.find? λT=>decide (T.i.k=i.k)with
 |some T=>exact oJ (Hv h)
 |none=>
  have hn:i.k∉S.tl.map λT=>T.i.k:=λz=>by
   obtain⟨T,hT,e1⟩:=bu.mp z;rw[List.find?_eq_none]at ef;exact ef T hT (by simpa using e1)
  cases em:lk S.ns (bx f i)with
  |some m=>
   refine⟨Ok.wrote (Ok.begun h.ok hn em (by omega)),Nt.snoc h.nt ⟨hk,rfl⟩,tls _ rfl,by show S.ns.length<=c+1;omega,by show S.lb.length<=c+1;omega,by show(S.ds++ [v]).length<=c+1;rw[dH];show S.ds.length+1<=c+1;omega,by show S.un.length<=2*(c+1);omega,h.nr⟩
  |none=>
   by_cases hm:f.most<=((iR (fB S.ns) i.house).length:Int)
   . simp only[if_pos hm];exact oJ h
   . simp only[if_neg hm]
     cases ep:(cN f S).pick (f.pick== "keep") i.door S.now with
     |none=>exact oJ h
     |some m=>
      obtain⟨q1,q2,q3⟩:=zr (zi ep);refine⟨Ok.wrote (Ok.fN h.ok okf hk hn em q2 q3 q1 ⟨by omega,by omega,by omega⟩),Nt.snoc h.nt ⟨hk,rfl⟩,tls _ rfl,by show(S.ns++ [_]).length<=c+1;rw[dH];show S.ns.length+1<=c+1;omega,by show(S.lb++ [_]).length<=c+1;rw[dH];show S.lb.length+1<=c+1;omega,by show(S.ds++ [v]).length<=c+1;rw[dH];show S.ds.length+1<=c+1;omega,?_,λx hx=>?_⟩
      . show(dr S.un m).length<=2*(c+1)
        have:(dr S.un m).length<=S.un.length:=gY _ _;omega
      . rcases eZ.mp hx with q|q
        . exact h.nr x q
        . cases fH.mp q;exact⟨q2,q3⟩
theorem Hf(h:Gd f A B c S):Gd f A B (c+1) ((S.bO f m p far).wrote v):=by
 unfold GS.bO;split
 . split
   . exact oJ (Hv h)
   . exact oJ h
 . exact oJ h
theorem E1:∀{l:List Tk} {S:GS},S.Ok f->(eD f l S).Ok f
 | [],_,h=>h
 |T::l,_,h=>E1 (l:=l) (Ok.ended h)
theorem ET:∀{l:List Tk} {S:GS},(eD f l S).un.length<=S.un.length+l.length
 | [],_=>aU _
 |T::l,S=>by
  have:=ET (l:=l) (S:=S.ended f T T.ov);have:=Ga (S:=S) (f:=f) (T:=T) (mo:=T.ov);show(eD f l _).un.length<=_;rw[eG];omega
theorem He{ys:List Tk}(h:Gd f A B c S)(hp:ys.Perm (S.at_ k).over):Gd f A B (c+1) ((eD f ys (S.at_ k)).wrote v):=by
 have F:=zQ h.ok hp;have sub:∀U∈(eD f ys (S.at_ k)).tl,U∈S.tl:=λU hU=>by rw[F.tl]at hU;exact(cH.mp hU).1
 have h0:Gd f A B c (eD f ys (S.at_ k))->Gd f A B (c+1) ((eD f ys (S.at_ k)).wrote v):=oJ;have hy:ys.length<=2:=by rw[hp.length_eq];exact dJ (gY _ _) h.two
 have hu:=ET (f:=f) (l:=ys) (S:=S.at_ k);have hu:(eD f ys (S.at_ k)).un.length<=S.un.length+ys.length:=hu;have e1:(eD f ys (S.at_ k)).ns.length<=S.ns.length:=by rw[F.ns];exact gY _ _
 have e2:(eD f ys (S.at_ k)).lb.length<=S.lb.length:=by rw[F.lb];exact gY _ _
 have e3:(eD f ys (S.at_ k)).ds=S.ds:=F.ds;have:=h.s1;have:=h.s2;have:=h.s3;have:=h.s4;refine⟨Ok.wrote (E1 (S:=S.at_ k) { h.ok with }),λU hU=>h.nt U (sub U hU),λU hU=>h.tl U (sub U hU),by show(eD f ys (S.at_ k)).ns.length<=_;omega,by show(eD f ys (S.at_ k)).lb.length<=_;omega,by show((eD f ys (S.at_ k)).ds++ [v]).length<=_;rw[dH,e3];show S.ds.length+1<=c+1;omega,by show(eD f ys (S.at_ k)).un.length<=_;omega,λx hx=>h.nr x (by have hx:x∈(eD f ys (S.at_ k)).ns:=hx;rw[F.ns]at hx;exact(cH.mp hx).1)⟩
def gx(e:Env)(ad:cX)(f:Fm)(S:GS)(a:Addr):Prop:=∃r o,ct e ad f S r=some o/\ad r=a
structure Rn(e:Env)(M0 M:RM)(g1 g2:Addr)(f1:Fm)(A1 B1:bc)(f2:Fm)(A2 B2:bc)(c:Nat)(S1 S2:GS):Prop where
 ex:∃(ad1 ad2:cX) (T1 T2:GS),(cQ e M ad1 f1 T1/\ad1 .g=g1/\bw S1 T1/\Gd f1 A1 B1 c T1)/\(cQ e M ad2 f2 T2/\ad2 .g=g2/\bw S2 T2/\Gd f2 A2 B2 c T2)/\(∀a,gx e ad1 f1 T1 a->gx e ad2 f2 T2 a->False)/\
  ∀a o,M0 a=some o->M a=some o/\¬gx e ad1 f1 T1 a/\¬gx e ad2 f2 T2 a
 k1:Gd f1 A1 B1 c S1
 k2:Gd f2 A2 B2 c S2
theorem Rn.symm(h:Rn e M0 M g1 g2 f1 A1 B1 f2 A2 B2 c S1 S2):Rn e M0 M g2 g1 f2 A2 B2 f1 A1 B1 c S2 S1:=by
 obtain⟨⟨ad1,ad2,T1,T2,h1,h2,h3,h4⟩,k1,k2⟩:=h;exact⟨⟨ad2,ad1,T2,T1,h2,h1,λa x y=>h3 a y x,λa o z=>⟨(h4 a o z).1,(h4 a o z).2.2,(h4 a o z).2.1⟩⟩,k2,k1⟩
theorem Gd.more(h:Gd f A B c S):Gd f A B (c+1) S:=⟨h.ok,h.nt,h.tl,qZ h.s1,qZ h.s2,qZ h.s3,by have:=h.s4;omega,h.nr⟩
theorem zJ{T1':GS}{ad1':cX}(h1:cQ e M ad1 f1 T1/\ad1 .g=g1/\bw S1 T1/\Gd f1 A1 B1 c T1)(h2:cQ e M ad2 f2 T2/\ad2 .g=g2/\bw S2 T2/\Gd f2 A2 B2 c T2)(h3:∀a,gx e ad1 f1 T1 a->gx e ad2 f2 T2 a->False)
 (h4:∀a o,M0 a=some o->M a=some o/\¬gx e ad1 f1 T1 a/\¬gx e ad2 f2 T2 a) (st:cK e M ad1 f1 T1 M' ad1' T1') (l:bw S' T1') (gd:Gd f1 A1 B1 (c+1) T1') (gs:Gd f1 A1 B1 (c+1) S') (k2:Gd f2 A2 B2 c S2):Rn e M0 M' g1 g2 f1 A1 B1 f2 A2 B2 (c+1) S' S2:=by
 have back:∀a,gx e ad1' f1 T1' a->gx e ad1 f1 T1 a∨M a=none:=λa ⟨r,o,hr,z⟩=>by
  subst z;rcases st.2.1.new r o hr with⟨r',o',a1,a2⟩|a1
  . exact .inl ⟨r',o',a1,a2⟩
  . exact .inr a1
 have has:∀a,gx e ad2 f2 T2 a->∃o,M a=some o:=λa ⟨r,o,hr,z⟩=>⟨o,z ▸ h2.1.at_ r o hr⟩
 refine⟨⟨ad1',ad2,T1',T2,⟨st.1,st.2.2.1.trans h1.2.1,l,gd⟩,⟨⟨λr o hr=>st.2.1.keep _ _ (h2.1.at_ r o hr) λr' u hr' z=>h3 _ ⟨r',u,hr',z⟩ ⟨r,o,hr,rfl⟩,h2.1.inj⟩,h2.2.1,h2.2.2.1,h2.2.2.2.more⟩,λa x y=>?_,λa o z=>?_⟩,gs,k2.more⟩
 . rcases back a x with q|q
   . exact h3 a q y
   . obtain⟨o,ho⟩:=has a y
     rw[ho]at q;cases q
 . obtain⟨q1,q2,q3⟩:=h4 a o z
   refine⟨st.2.1.keep a o q1 λr u hr y=>q2 ⟨r,u,hr,y⟩,λx=>?_,q3⟩
   rcases back a x with q|q
   . exact q2 q
   . rw[q1]at q;cases q
theorem Rn.out(h:Rn e M0 M g1 g2 f1 A1 B1 f2 A2 B2 c S1 S2)(tb:Tb e)(okf:f1.Ok)(oki:i.Ok)(hi:i=A1∨i=B1)(hc:c<800)(hq:∀M',Rn e M0 M' g1 g2 f1 A1 B1 f2 A2 B2 (c+1) ((S1.ba f1 i).1.wrote (.tup [i.deed,(S1.ba f1 i).2])) S2->Q (S1.ba f1 i).2 M'):
 aw (P e) (n+10) 75 [.ref g1,.str "note",.int i.house,.int i.door,.int i.place,.int i.far,.str "say",.str ""] M Q:=by
 obtain⟨⟨ad1,ad2,T1,T2,h1,h2,h3,h4⟩,k1,k2⟩:=h;obtain⟨G,rfl,l,gd⟩:=id h1;obtain⟨e1,e2⟩:=RB (f:=f1) (i:=i) l;refine Jb okf G gd.ok tb oki gd.nt (iU gd.s3 (by omega)) λM' ad' st=>?_
 rw[e1]at st ⊢;exact hq M' (zJ h1 h2 h3 h4 st (y8 e2) (Ak gd okf hc oki.kind hi) (Ak k1 okf hc oki.kind hi) k2)
theorem Rn.come(h:Rn e M0 M g1 g2 f1 A1 B1 f2 A2 B2 c S1 S2)(tb:Tb e)(okf:f1.Ok)(m1:f1.low<=m)(m2:m<=f1.high)(hp:1<=p/\p<=1000000)(hf:1<=far/\far<=9999)(hc:c<800)(hq:∀M',Rn e M0 M' g1 g2 f1 A1 B1 f2 A2 B2 (c+1) ((S1.bO f1 m p far).wrote (.tup [AJ p far m,S1.bH f1 m p far])) S2->Q (S1.bH f1 m p far) M'):
 aw (P e) (n+7) 74 [.ref g1,.str "note",.int p,.int far,.int m,.str "say",.str ""] M Q:=by
 obtain⟨⟨ad1,ad2,T1,T2,h1,h2,h3,h4⟩,k1,k2⟩:=h;obtain⟨G,rfl,l,gd⟩:=id h1;obtain⟨e1,e2⟩:=QE (f:=f1) (m:=m) (p:=p) (far:=far) l;refine UM G gd.ok tb okf gd.nt m1 m2 hp hf (iU gd.s3 (by omega)) λM' st=>?_
 rw[e1]at st ⊢;exact hq M' (zJ h1 h2 h3 h4 st (y8 e2) (Hf gd) (Hf k1) k2)
theorem Rn.wait(h:Rn e M0 M g1 g2 f1 A1 B1 f2 A2 B2 c S1 S2)(tb:Tb e)(htb:M0 e.lP=some (bK e))(t1:0<=k)(t2:k<=1000000)(hc:c<400)(hq:∀M',Rn e M0 M' g1 g2 f1 A1 B1 f2 A2 B2 (c+1) ((S1.gX f1 k).wrote (xu k)) S2->Q .ak M'):
 aw (P e) (n+7) 40 [.ref g1,.int k] M Q:=by
 obtain⟨⟨ad1,ad2,T1,T2,h1,h2,h3,h4⟩,k1,k2⟩:=h;obtain⟨G,rfl,l,gd⟩:=id h1;have z1:=gd.two;have z2:=gd.s4;refine UJ G gd.ok tb (h4 _ _ htb).1 t1 t2 (by omega) (by omega) (iU gd.s3 (by omega)) λys M' p1 p2 st=>?_
 exact hq M' (zJ h1 h2 h3 h4 st (y8 (Qz k1.ok gd.ok l p1 p2)) (He gd p1) (He k1 dZ) k2)
theorem Rn.other{a:Addr}{o o':RO}(h:Rn e M0 M g1 g2 f1 A1 B1 f2 A2 B2 c S1 S2)(ha:M0 a=some o):Rn e (put M0 a o') (put M a o') g1 g2 f1 A1 B1 f2 A2 B2 c S1 S2:=by
 obtain⟨⟨ad1,ad2,T1,T2,h1,h2,h3,h4⟩,k1,k2⟩:=h;obtain⟨q1,q2,q3⟩:=h4 a o ha;refine⟨⟨ad1,ad2,T1,T2,⟨⟨λr u hr=>(ai (λ(z:ad1 r=a)=>q2 ⟨r,u,hr,z⟩)).trans (h1.1.at_ r u hr),h1.1.inj⟩,h1.2⟩,⟨⟨λr u hr=>(ai (λ(z:ad2 r=a)=>q3 ⟨r,u,hr,z⟩)).trans (h2.1.at_ r u hr),h2.1.inj⟩,h2.2⟩,h3,λb u hb=>?_⟩,k1,k2⟩
 by_cases z:b=a
 . subst z;rw[aa]at hb;cases hb;exact⟨aa,q2,q3⟩
 . rw[ai z]at hb;rw[ai z];exact h4 b u hb
theorem Rn.at_{a:Addr}{o:RO}(h:Rn e M0 M g1 g2 f1 A1 B1 f2 A2 B2 c S1 S2)(ha:M0 a=some o):M a=some o:=by
 obtain⟨⟨ad1,ad2,T1,T2,h1,h2,h3,h4⟩,k1,k2⟩:=h;exact(h4 a o ha).1
theorem Rn.gate(h:Rn e M0 M g1 g2 f1 A1 B1 f2 A2 B2 c S1 S2):∃rt rs rd,M g1=some (bD e f1.r rt rs rd .ak):=by
 obtain⟨⟨ad1,ad2,T1,T2,⟨G,e1,_⟩,h2,h3,h4⟩,k1,k2⟩:=h;exact⟨_,_,_,e1 ▸ G.at_ .g _ rfl⟩
end
section
variable {e:Env}{n:Nat}{M:RM}{Q:aj}{f:Fm}{S:GS}{d p fo:Int}{A B i:bc}{c:Nat}
def iH(d:Int):bc:=⟨"note",0,d,3,1⟩
def iP(d p fo:Int):bc:=⟨"note",0,d,p,fo⟩
def m0(f:Fm)(d:Int):Int:=if(f.pick== "keep" &&(decide (f.low<=d)&&decide (d<=f.high)))=true then d else f.low
theorem Jm(okf:f.Ok):f.low<=m0 f d/\m0 f d<=f.high:=by
 unfold m0;have:=okf.le;split
 . rename_i z;simp only[bj,decide_eq_true_eq]at z;exact z.2
 . omega
theorem Jy(x:LR){i:Int}:(cN f { S0 f with ds:=x }).free i 0=(decide (f.low<=i)&&decide (i<=f.high)):=by
 unfold ao.free ao.has cN S0;simp[lk]
theorem Qy(okf:f.Ok){p:ao}(hl:p.low=f.low)(hh:p.high=f.high)(hm:f.low<=p.mark)(h2:p.mark<=f.high):∃r,p.line=p.mark::r:=by
 unfold ao.line;obtain⟨k,hk⟩:∃k,(p.high+1-p.mark).toNat=k+1:=⟨(p.high-p.mark).toNat,by omega⟩
 rw[hk,yl,bT,List.cons_append,show p.mark+((0:Nat):Int)=p.mark by simp]
 exact⟨_,rfl⟩
theorem W3(okf:f.Ok)(x:LR):(cN f { S0 f with ds:=x }).pick (f.pick== "keep") d 0=some (m0 f d):=by
 unfold ao.pick m0;rw[Jy];split
 . rfl
 . obtain⟨r,hr⟩:=Qy okf (p:=cN f { S0 f with ds:=x }) rfl rfl (Int.le_refl _) okf.le
   rw[hr,List.find?_cons_of_pos]
   . rfl
   . rw[Jy]
     have:=okf.le;show(decide (f.low<=f.low)&&decide (f.low<=f.high))=true;simp[this]
theorem xj(okf:f.Ok):(S0 f).ba f (iH d)=((S0 f).fN f (iH d) (m0 f d),led (m0 f d)):=by
 unfold GS.ba;rw[show(S0 f).tl= []from rfl,List.find?_nil]
 rw[show(S0 f).ns= []from rfl]
 show(if f.most<=((iR [] 0).length:Int)then _ else _)=_
 have:=okf.most.1;rw[if_neg (by show ¬f.most<=((0:Nat):Int);omega)]
 show(match(cN f (S0 f)).pick (f.pick== "keep") d 0 with|none=>_|some m=>_)=_
 rw[show(cN f (S0 f)).pick (f.pick== "keep") d 0=some (m0 f d)from W3 okf []]
def SH(f:Fm)(d:Int):GS:=((S0 f).fN f (iH d) (m0 f d)).wrote (.tup [(iH d).deed,led (m0 f d)])
theorem uq(okf:f.Ok):Gd f A B 0 (S0 f):=⟨Jq okf,gZ _,gZ _,aU _,aU _,aU _,aU _,gZ _⟩
theorem xB(okf:f.Ok):Gd f (iH d) B 1 (SH f d):=by
 have:=Ak (v:=.tup [(iH d).deed,led (m0 f d)]) (i:=iH d) (uq (A:=iH d) (B:=B) okf) okf (by decide) rfl (.inl rfl)
 rw[xj okf]at this;exact this
theorem AD(hd:1<=d/\d<=9999):(iH d).Ok:=⟨rfl,⟨by show(0:Int)<=0;omega,by show(0:Int)<=99;omega⟩,hd,⟨by show(1:Int)<=3;omega,by show(3:Int)<=1000000;omega⟩,⟨by show(1:Int)<=1;omega,by show(1:Int)<=9999;omega⟩⟩
theorem Jg(hd:1<=d/\d<=9999)(hp:1<=p/\p<=2)(hf:1<=fo/\fo<=9999):(iP d p fo).Ok:=⟨rfl,⟨by show(0:Int)<=0;omega,by show(0:Int)<=99;omega⟩,hd,⟨by show 1<=p;omega,by show p<=1000000;omega⟩,hf⟩
theorem EY(h:Gd f A B c S):(∃m,(S.ba f i).2=led m/\f.low<=m/\m<=f.high)∨∃w,(S.ba f i).2=kept w:=by
 unfold GS.ba;cases ef:S.tl.find? λT=>decide (T.i.k=i.k)with
 |some T=>exact .inl ⟨T.m,rfl,h.nr _ (fx (h.ok.tn T (List.mem_of_find?_eq_some ef)))⟩
 |none=>
  cases em:lk S.ns (bx f i)with
  |some m=>exact .inl ⟨m,rfl,h.nr _ (fx em)⟩
  |none=>
   by_cases hm:f.most<=((iR (fB S.ns) i.house).length:Int)
   . simp only[if_pos hm];exact .inr ⟨_,rfl⟩
   . simp only[if_neg hm]
     cases ep:(cN f S).pick (f.pick== "keep") i.door S.now with
     |none=>exact .inr ⟨_,rfl⟩
     |some m=>exact .inl ⟨m,rfl,(zr (zi ep)).2⟩
def pV:RV->Option Int
 | .tup [_,.int m]=>some m
 |_=>none
def aO(f1:Fm)(d1:Int)(f2:Fm)(d2 p2:Int)(S1:GS):RV:=(S1.ba f1 (iP d1 p2 (m0 f2 d2))).2
def sO(f1:Fm)(d1:Int)(f2:Fm)(d2 p2:Int)(S1:GS):GS:=(S1.ba f1 (iP d1 p2 (m0 f2 d2))).1.wrote (.tup [(iP d1 p2 (m0 f2 d2)).deed,aO f1 d1 f2 d2 p2 S1])
def aC(f1:Fm)(d1 p1:Int)(f2:Fm)(d2 p2:Int)(S1 S2:GS):RV:=match pV (aO f1 d1 f2 d2 p2 S1)with
 |some m=>S2.bH f2 (m0 f2 d2) p1 m
 |none=>.ak
def sC(f1:Fm)(d1 p1:Int)(f2:Fm)(d2 p2:Int)(S1 S2:GS):GS:=match pV (aO f1 d1 f2 d2 p2 S1)with
 |some m=>(S2.bO f2 (m0 f2 d2) p1 m).wrote (.tup [AJ p1 m (m0 f2 d2),S2.bH f2 (m0 f2 d2) p1 m])
 |none=>S2
variable {M0 M':RM}{g1 g2 s1 s2:Addr}{f1 f2:Fm}{d1 d2 p1 p2:Int}{A1 B1 A2 B2:bc}{S1 S2:GS}
theorem Rn.more(h:Rn e M0 M g1 g2 f1 A1 B1 f2 A2 B2 c S1 S2):Rn e M0 M g1 g2 f1 A1 B1 f2 A2 B2 (c+1) S1 S2:=by
 obtain⟨⟨ad1,ad2,T1,T2,⟨a1,a2,a3,a4⟩,⟨b1,b2,b3,b4⟩,h3,h4⟩,k1,k2⟩:=h;exact⟨⟨ad1,ad2,T1,T2,⟨a1,a2,a3,a4.more⟩,⟨b1,b2,b3,b4.more⟩,h3,h4⟩,k1.more,k2.more⟩
theorem GA{w:Str}:(kept w:RV)= .tup [.str "kept",.str w]:=rfl
theorem EF(tb:Tb e)(ok1:f1.Ok)(ok2:f2.Ok)(hp1:1<=p1/\p1<=2)(hp2:1<=p2/\p2<=2)(hd1:1<=d1/\d1<=9999)(hc:c<700)(h1:M0 s1=some (eX e (.ref g1) (.int p1) (.int d1) (.int (m0 f1 d1))))(h2:M0 s2=some (eX e (.ref g2) (.int p2) (.int d2) (.int (m0 f2 d2))))
 (h:Rn e M0 M g1 g2 f1 (iH d1) (iP d1 p2 (m0 f2 d2)) f2 A2 B2 c S1 S2) (hq:∀M',Rn e M0 M' g1 g2 f1 (iH d1) (iP d1 p2 (m0 f2 d2)) f2 A2 B2 (c+2) (sO f1 d1 f2 d2 p2 S1) (sC f1 d1 p1 f2 d2 p2 S1 S2)->Q (.tup [aO f1 d1 f2 d2 p2 S1,aC f1 d1 p1 f2 d2 p2 S1 S2]) M'):aw (P e) (n+12) 43 [.ref s1,.ref s2] M Q:=by
 have m2:=Jm (d:=d2) ok2;have a1:=ok2.lo;have a2:=ok2.hi;have b1:=ok1.lo;have b2:=ok1.hi;obtain⟨rt,rs,rd,hg⟩:=h.gate;rw[us (i:=43) (d:=wd) rfl];simp only[wd];walk_at "ev";rw[h.at_ h1];walk_at "ev";rw[h.at_ h2];walk_at "ev";rw[h.at_ h2];walk_at "ev";rw[us (i:=62) (d:=oF) rfl];simp only[oF];walk_at "ev";rw[h.at_ h1];walk_at "ev";rw[hg];walk_at "ev";rw[h.at_ h1];walk_at "ev";refine h.out (n:=n) (i:=iP d1 p2 (m0 f2 d2)) tb ok1 (Jg hd1 hp2 ⟨by omega,by omega⟩) (.inr rfl) (by omega) λM1 h'=>?_
 have kd:∀w:Str,(S1.ba f1 (iP d1 p2 (m0 f2 d2))).2=kept w->(if(!(("kept":Str)==("led":Str)))=true then Q (.tup [kept w,.ak]) M1 else False):=λw ew=>by
  have ea:pV (aO f1 d1 f2 d2 p2 S1)=none:=by unfold aO;rw[ew];rfl
  have:=hq M1 (by unfold sC;rw[ea];exact h'.more)
  unfold aC at this;rw[ea]at this;unfold aO at this;rw[ew]at this;exact(if_pos (by decide)).mpr this
 rcases EY (i:=iP d1 p2 (m0 f2 d2)) h.k1 with⟨m,e1,r1,r2⟩|⟨w,e1⟩
 . have ea:pV (aO f1 d1 f2 d2 p2 S1)=some m:=by unfold aO;rw[e1];rfl
   obtain⟨rt',rs',rd',hg2⟩:=h'.symm.gate;rw[e1];unfold led;walk_at "ev";rw[h'.at_ h2];walk_at "ev";rw[hg2];walk_at "ev";rw[h'.at_ h1];walk_at "ev";rw[h'.at_ h2];walk_at "ev";refine h'.symm.come (n:=n+4) (p:=p1) (far:=m) (m:=m0 f2 d2) tb ok2 m2.1 m2.2 ⟨by omega,by omega⟩ ⟨by omega,by omega⟩ (by omega) λM2 h2'=>?_
   have:=hq M2 (by unfold sC;rw[ea];exact h2'.symm)
   unfold aC at this;rw[ea]at this;unfold aO at this;rw[e1]at this;exact this
 . have:=kd _ e1
   rw[e1,GA];walk_at "ev";exact this
end
section
variable {e:Env}{n:Nat}{M M0 M':RM}{Q:aj}{f f1 f2:Fm}{d d1 d2 p:Int}{s s1 s2 g1 g2:Addr}{S1 S2:GS}{c:Nat}
inductive St where
 |w (b:Bool)
 |t (k:Int)
def uG(b:Bool):Str:=if b=true then "one" else "other"
def St.r:St->RV
 | .w b=>.str (uG b)
 | .t k=>.int k
def St.Ok:St->Prop
 | .w _=>True
 | .t k=>0<=k/\k<=1000000
theorem VM:fJ "isinstance" [.ls xs,.ty "list"] M Q=Q (.bl true) M:=rfl
theorem Qm{a b:Int}(ha:1<=a/\a<=9999)(hb:1<=b/\b<=9999):aw (P e) (n+4) 19 [.tup [.int a,.int b]] M Q=Q (.bl true) M:=by
 rw[us (i:=19) (d:=wt) rfl];simp only[wt];walk_at "ev";rw[qd,gK ha.1 ha.2];walk_at "ev";rw[qd,gK hb.1 hb.2]
theorem Ig{b:Bool}:inR (.str (uG b)) [.str "one",.str "other"]=true:=by cases b<;>decide+kernel
theorem Hm{k:Int}:inR (.int k) [.str "one",.str "other"]=false:=by rfl
theorem Py{bs:List St}(hl:bs.length<=100)(ok:∀b∈bs,b.Ok)(hq:Q (.bl true) M):aw (P e) (n+4) 20 [.ls (bs.map St.r)] M Q:=by
 rw[us (i:=20) (d:=wm) rfl];simp only[wm];walk_at "ev";rw[VM];walk_at "ev";rw[br];rw[if_neg (by simp;omega)]
 refine⟨iU hl (by decide),jd (bd:=gP false 1) (λ_=>true) (λ_=>.bl true) dh _ _ (λx hx=>?_) ?_⟩
 . obtain⟨b,hb,rfl⟩:=bu.mp hx
   refine⟨[b.r],rfl,λK hK=>hK,λ_ K hK=>?_⟩
   show(tr ((P e).Gn (n+3)) _).E [some b.r] _ K;cases b with
   |w b=>
    unfold St.r;walk_at "ev";rw[Ig];walk_at "ev";exact⟨by rw[tX];trivial,hK⟩
   |t k=>
    obtain⟨k1,k2⟩:0<=k/\k<=1000000:=ok _ hb;unfold St.r;walk_at "ev";refine⟨rfl,?_⟩;rw[Hm,if_neg (by simp),EM]
    simp only[k1,k2,decide_true,Bool.and_true];exact hK
 . show fJ "all" [.ls ([]++((bs.map St.r).filter λ_=>true).map λ_=>RV.bl true)] M Q
   rw[mZ,pR.mpr (λ_ _=>rfl),show List.map (λ_=>RV.bl true) (bs.map St.r)=(bs.map λ_=>true).map RV.bl by rw[bV,bV];rfl,xl]
   have:(bs.map λ_=>true).all id=true:=by simp
   rw[this];exact hq
noncomputable def fQ (f1:Fm)(d1:Int)(f2:Fm)(d2:Int):List St->GS->GS->LR
 | [],_,_=>[]
 | .w true::r,S1,S2=>.tup [.str "one",aO f1 d1 f2 d2 2 S1,aC f1 d1 1 f2 d2 2 S1 S2]::fQ f1 d1 f2 d2 r (sO f1 d1 f2 d2 2 S1) (sC f1 d1 1 f2 d2 2 S1 S2)
 | .w false::r,S1,S2=>.tup [.str "other",aO f2 d2 f1 d1 1 S2,aC f2 d2 2 f1 d1 1 S2 S1]::fQ f1 d1 f2 d2 r (sC f2 d2 2 f1 d1 1 S2 S1) (sO f2 d2 f1 d1 1 S2)
 | .t k::r,S1,S2=>fQ f1 d1 f2 d2 r ((S1.gX f1 k).wrote (xu k)) ((S2.gX f2 k).wrote (xu k))
theorem qa{f1 f2:Fm}{d1 d2:Int}:∀{bs:List St} {S1 S2:GS},(fQ f1 d1 f2 d2 bs S1 S2).length<=bs.length
 | [],_,_=>aU _
 | .w true::r,_,_=>Nat.succ_le_succ qa
 | .w false::r,_,_=>Nat.succ_le_succ qa
 | .t k::r,S1,S2=>qZ (show(fQ f1 d1 f2 d2 r _ _).length<=r.length from qa)
noncomputable def o9:T:=(.se (.aX (.cm .Eq (.v 7) (.s "one")) (.se (.ex (.ap (.v 6) (.ec (.op .Add (.tu (.ec (.v 7) .e0)) (.ca 43 (.ec (.v 4) (.ec (.v 5) .e0)))) .e0))) .en) (.se (.aX (.cm .Eq (.v 7) (.s "other")) (.se (.ex (.ap (.v 6) (.ec (.op .Add (.tu (.ec (.v 7) .e0)) (.ca 43 (.ec (.v 5) (.ec (.v 4) .e0)))) .e0))) .en) (.se (.ex (.me 40 (.fl 5 "gate" (.v 4)) (.ec (.v 7) .e0))) (.se (.ex (.me 40 (.fl 5 "gate" (.v 5)) (.ec (.v 7) .e0))) .en))) .en)) .en)
theorem Io{k:Int}{s:Str}{K:aj}:dm .Eq (.int k) (.str s) M K=K (.bl false) M:=by
 show(aB 16 (.int k)=true/\aB 16 (.str s)=true/\K (.bl (bA (.int k) (.str s))) M)=_;rw[show aB 16 (.int k)=true from rfl,show aB 16 (.str s)=true from rfl,show bA (.int k) (.str s)=false from rfl]
 simp
theorem wc{p:Addr}{r3:RV}(tb:Tb e)(ok1:f1.Ok)(ok2:f2.Ok)(hd1:1<=d1/\d1<=9999)(hd2:1<=d2/\d2<=9999)(n1:s1≠p)(n2:s2≠p)(n3:e.lP≠p){D:RD}:∀(bs:List St) (acc:LR) (S1 S2:GS) (c:Nat) (M0 M:RM) (z:Option RV),(∀b∈bs,b.Ok)->
 Rn e M0 M g1 g2 f1 (iH d1) (iP d1 2 (m0 f2 d2)) f2 (iH d2) (iP d2 1 (m0 f1 d1)) c S1 S2->M0 s1=some (eX e (.ref g1) (.int 1) (.int d1) (.int (m0 f1 d1)))->M0 s2=some (eX e (.ref g2) (.int 2) (.int d2) (.int (m0 f2 d2)))->M0 e.lP=some (bK e)->M0 p=some (.lst acc)->c+2*bs.length<390->acc.length+bs.length<800->
 (∀M' z',(∀b o,b≠p->M0 b=some o->M' b=some o)->M' p=some (.lst (acc++fQ f1 d1 f2 d2 bs S1 S2))->D.nx [some f1.r,some f2.r,some (.tup [.int d1,.int d2]),some r3,some (.ref s1),some (.ref s2),some (.ref p),z'] M')->
 iQ (gQ 7) (tr ((P e).Gn (n+13)) o9).S D cV id (bs.map St.r) [some f1.r,some f2.r,some (.tup [.int d1,.int d2]),some r3,some (.ref s1),some (.ref s2),some (.ref p),z] M
 | [],acc,S1,S2,c,M0,M,z,ob,rn,a1,a2,a3,hp,l1,l2,hq=>⟨dh,hq M z (λb o _ hb=>rn.at_ hb) (by rw[rn.at_ hp];simp[fQ])⟩
 |b::bs,acc,S1,S2,c,M0,M,z,ob,rn,a1,a2,a3,hp,l1,l2,hq=>by
  rw[eG]at l1 l2;have ob':∀b∈bs,b.Ok:=λb hb=>ob b (.tail _ hb)
  refine⟨dh,?_⟩;cases b with
  |w b=>
   cases b with
   |true=>
    show(tr ((P e).Gn (n+13)) o9).S _ [some f1.r,some f2.r,some (.tup [.int d1,.int d2]),some r3,some (.ref s1),some (.ref s2),some (.ref p),some (.str "one")] M;unfold o9;walk_at "ev";rw[rn.at_ hp];walk_at "ev";refine EF (n:=n+1) tb ok1 ok2 ⟨by omega,by omega⟩ ⟨by omega,by omega⟩ hd1 (by omega) a1 a2 rn λM1 rn1=>?_
    rw[GQ];refine⟨(by decide:3<=sizeLine),acc,_,rfl,rn1.at_ hp,eF (show acc.length<800 by omega) (by decide),?_⟩
    refine wc tb ok1 ok2 hd1 hd2 n1 n2 n3 bs _ _ _ _ _ _ _ ob' (rn1.other hp) ((ai n1).trans a1) ((ai n2).trans a2) ((ai n3).trans a3) aa (by omega) (by rw[dH];show acc.length+1+bs.length<800;omega) λM' z' h1 h2=>?_
    refine hq M' z' (λb o nb hb=>h1 b o nb ((ai nb).trans hb)) ?_
    rw[h2,uN];rfl
   |false=>
    show(tr ((P e).Gn (n+13)) o9).S _ [some f1.r,some f2.r,some (.tup [.int d1,.int d2]),some r3,some (.ref s1),some (.ref s2),some (.ref p),some (.str "other")] M;unfold o9;walk_at "ev";rw[if_neg (by decide)]
    rw[rn.at_ hp];walk_at "ev";refine EF (n:=n+1) tb ok2 ok1 ⟨by omega,by omega⟩ ⟨by omega,by omega⟩ hd2 (by omega) a2 a1 rn.symm λM1 rn1=>?_
    rw[GQ];refine⟨(by decide:3<=sizeLine),acc,_,rfl,rn1.at_ hp,eF (show acc.length<800 by omega) (by decide),?_⟩
    refine wc tb ok1 ok2 hd1 hd2 n1 n2 n3 bs _ _ _ _ _ _ _ ob' (rn1.symm.other hp) ((ai n1).trans a1) ((ai n2).trans a2) ((ai n3).trans a3) aa (by omega) (by rw[dH];show acc.length+1+bs.length<800;omega) λM' z' h1 h2=>?_
    refine hq M' z' (λb o nb hb=>h1 b o nb ((ai nb).trans hb)) ?_
    rw[h2,uN];rfl
  |t k=>
   obtain⟨k1,k2⟩:0<=k/\k<=1000000:=ob _ (.head _);obtain⟨_,_,_,hg1⟩:=rn.gate;show(tr ((P e).Gn (n+13)) o9).S _ [some f1.r,some f2.r,some (.tup [.int d1,.int d2]),some r3,some (.ref s1),some (.ref s2),some (.ref p),some (.int k)] M;unfold o9;walk_at "ev";rw[Io];walk_at "ev";rw[Io];walk_at "ev";rw[rn.at_ a1];walk_at "ev";rw[hg1];walk_at "ev";refine rn.wait (n:=n+6) tb a3 k1 k2 (by omega) λM1 rn1=>?_
   obtain⟨_,_,_,hg2⟩:=rn1.symm.gate;rw[rn1.at_ a2];walk_at "ev";rw[hg2];walk_at "ev";refine rn1.symm.wait (n:=n+6) tb a3 k1 k2 (by omega) λM2 rn2=>?_
   exact wc tb ok1 ok2 hd1 hd2 n1 n2 n3 bs _ _ _ _ _ _ _ ob' rn2.symm a1 a2 a3 hp (by omega) (by omega) hq
theorem Eo(tb:Tb e)(okf:f.Ok)(hd:1<=d/\d<=9999)(hs:M s=none)(hq:∀M5 ad,M5 s=some (eX e (.ref (ad .g)) (.int p) (.int d) (.int (m0 f d)))->cQ e M5 ad f (SH f d)->¬gx e ad f (SH f d) s->(∀b o,M b=some o->M5 b=some o)->(∀a,gx e ad f (SH f d) a->M a=none)->Q .ak M5):aw (P e) (n+12) 67 [.ref s,f.r,.int p,.int d] (put M s (.ins (e.C 5) [])) Q:=by
 rw[us (i:=67) (d:=sR) rfl];simp only[sR];walk_at "ev";intro g hg;refine zZ (n:=n+4) okf hg λM1 ad eg G k1 k2 k3=>⟨rfl,?_⟩
 have gs:g≠s:=(aN hg).2;have ms:M1 s=some (.ins (e.C 5) []):=k1 s _ aa gs.symm;have ns:∀r o,ct e ad f (S0 f) r=some o->ad r≠s:=λr o h z=>by have:=k2 r o h;rw[z,aa]at this;cases this
 rw[ms];walk_at "ev";rw[HJ];refine⟨rfl,?_⟩;walk_at "ev"
 let M3:=put M1 s (.ins (e.C 5) [("gate",.ref g),("place",.int p),("door",.int d)])
 have G3:cQ e M3 ad f (S0 f):=⟨λr o h=>by show put M1 s _ _=_;rw[ai (ns r o h)];exact G.at_ r o h,G.inj⟩
 have hg3:M3 g=some (bD e f.r (.ref (ad .t)) (.ref (ad .st)) (.ref (ad .dn)) .ak):=by rw[<-eg];exact G3.at_ .g _ rfl
 have ms3:M3 s=some (.ins (e.C 5) [("gate",.ref g),("place",.int p),("door",.int d)]):=aa;show aw (P e) (n+11) 62 [.ref s,.int 3,.int 1] M3 _;rw[us (i:=62) (d:=oF) rfl];simp only[oF];walk_at "ev";rw[ms3,Al];rw[show List.lookup ("gate":Str) [(("gate":Str),RV.ref g),("place",.int p),("door",.int d)]=some (.ref g)from rfl];walk_at "ev"
 rw[hg3];walk_at "ev";rw[ms3,Al];rw[show List.lookup ("door":Str) [(("gate":Str),RV.ref g),("place",.int p),("door",.int d)]=some (.int d)from rfl];walk_at "ev"
 rw[<-eg];refine Jb (i:=iH d) (n:=n) okf G3 (Jq okf) tb (AD hd) (gZ _) (by show 0<900;decide) λM4 ad' st=>?_
 rw[xj okf]at st ⊢;have ms4:M4 s=some (.ins (e.C 5) [("gate",.ref g),("place",.int p),("door",.int d)]):=st.2.1.keep _ _ ms3 ns;show bz (.tup [.str "led",.int (m0 f d)]) (.int 1) M4 _;walk_at "ev";rw[ms4];walk_at "ev";have ns4:∀r o,ct e ad' f (SH f d) r=some o->ad' r≠s:=λr o h=>by
  rcases st.2.1.new r o h with⟨r',o',h1,h2⟩|h1
  . rw[<-h2];exact ns r' o' h1
  . intro z;rw[z,ms3]at h1;cases h1
 refine hq (put M4 s (eX e (.ref g) (.int p) (.int d) (.int (m0 f d)))) ad' (by rw[aa,st.2.2.1,eg]) ⟨λr o h=>by rw[ai (ns4 r o h)];exact st.1.at_ r o h,st.1.inj⟩ (λ⟨r,o,h,z⟩=>ns4 r o h z) (λb o hb=>?_) λa ha=>?_
 . have bs:b≠s:=bZ hs hb
   have b1:put M s (.ins (e.C 5) []) b=some o:=by rw[ai bs];exact hb
   have bg:b≠g:=bZ hg b1;have b3:M3 b=some o:=by show put M1 s _ b=_;rw[ai bs];exact k1 b o b1 bg
   rw[ai bs];refine st.2.1.keep b o b3 λr u hr z=>?_
   have:=k2 r u hr;rw[z,b1]at this;cases this
 . obtain⟨r,o,hr,rfl⟩:=ha
   rcases st.2.1.new r o hr with⟨r',o',h1,h2⟩|h1
   . rw[<-h2];exact(aN (k2 r' o' h1)).1
   . exact(aN (k3 _ (aN h1).1)).1
theorem Ff{bs:List St}(tb:Tb e)(htb:M e.lP=some (bK e))(ok1:f1.Ok)(ok2:f2.Ok)(hd1:1<=d1/\d1<=9999)(hd2:1<=d2/\d2<=9999)(hl:bs.length<=100)(ob:∀b∈bs,b.Ok)
 (hq:∀M' a,(∀b o,M b=some o->M' b=some o)->M a=none->M' a=some (.lst (fQ f1 d1 f2 d2 bs (SH f1 d1) (SH f2 d2)))->Q (.ref a) M'):aw (P e) (n+14) 68 [f1.r,f2.r,.tup [.int d1,.int d2],.ls (bs.map St.r)] M Q:=by
 rw[us (i:=68) (d:=wz) rfl];simp only[wz];walk_at "ev";refine zh (n:=n+8) ok1 ?_;walk_at "ev";refine zh (n:=n+8) ok2 ?_;walk_at "ev";rw[Qm (n:=n+9) hd1 hd2];walk_at "ev";refine Py (n:=n+9) hl ob ?_;walk_at "ev";intro s1 hs1;refine Eo (n:=n) tb ok1 hd1 hs1 λM1 ad1 t1 G1 q1 k1 o1=>⟨rfl,?_⟩
 intro s2 hs2;refine Eo (n:=n) tb ok2 hd2 hs2 λM2 ad2 t2 G2 q2 k2 o2=>⟨rfl,?_⟩
 intro p hp;have up:∀b o,M b=some o->M2 b=some o:=λb o h=>k2 _ _ (k1 _ _ h)
 have fr:∀{b},M2 b=none->M b=none:=λ{b} h=>by
  cases eb:M b with
  |none=>rfl
  |some o=>rw[up _ _ eb]at h;cases h
 have n1:s1≠p:=λz=>by have:=k2 _ _ t1;rw[z,hp]at this;cases this
 have n2:s2≠p:=λz=>by rw[z,hp]at t2;cases t2
 have n3:e.lP≠p:=λz=>by have:=up _ _ htb;rw[z,hp]at this;cases this
 have n4:s2≠s1:=λz=>by rw[z,t1]at hs2;cases hs2
 have w1:∀a,gx e ad1 f1 (SH f1 d1) a->∃o,M1 a=some o:=λa ⟨r,o,h,z⟩=>⟨o,z ▸ G1.at_ r o h⟩
 have w2:∀a,gx e ad2 f2 (SH f2 d2) a->∃o,M2 a=some o:=λa ⟨r,o,h,z⟩=>⟨o,z ▸ G2.at_ r o h⟩
 have w3:∀a o,M1 a=some o->¬gx e ad2 f2 (SH f2 d2) a:=λa o h z=>by rw[o2 a z]at h;cases h
 let M0:RM:=put (put (put M s1 (eX e (.ref (ad1 .g)) (.int 1) (.int d1) (.int (m0 f1 d1)))) s2 (eX e (.ref (ad2 .g)) (.int 2) (.int d2) (.int (m0 f2 d2)))) p (.lst [])
 have b1:M0 s1=some (eX e (.ref (ad1 .g)) (.int 1) (.int d1) (.int (m0 f1 d1))):=by show put _ p _ s1=_;rw[ai n1,ai (Ne.symm n4),aa]
 have b2:M0 s2=some (eX e (.ref (ad2 .g)) (.int 2) (.int d2) (.int (m0 f2 d2))):=by show put _ p _ s2=_;rw[ai n2,aa]
 have b0:∀a o,a≠p->M a=some o->M0 a=some o:=λa o np h=>by
  show put _ p _ a=_;rw[ai np,ai (bZ hs2 (k1 _ _ h)),ai (bZ hs1 h)];exact h
 have rn:Rn e M0 (put M2 p (.lst [])) (ad1 .g) (ad2 .g) f1 (iH d1) (iP d1 2 (m0 f2 d2)) f2 (iH d2) (iP d2 1 (m0 f1 d1)) 1 (SH f1 d1) (SH f2 d2):=by
  refine⟨⟨ad1,ad2,_,_,⟨⟨λr o h=>?_,G1.inj⟩,rfl,bw.refl,xB ok1⟩,⟨⟨λr o h=>?_,G2.inj⟩,rfl,bw.refl,xB ok2⟩,λa x y=>?_,λa o h=>?_⟩,xB ok1,xB ok2⟩
  . have:=k2 _ _ (G1.at_ r o h)
    exact(ai (λz=>by rw[z,hp]at this;cases this)).trans this
  . have:=G2.at_ r o h
    exact(ai (λz=>by rw[z,hp]at this;cases this)).trans this
  . obtain⟨o,h⟩:=w1 a x
    exact w3 a o h y
  . by_cases z:a=p
    . subst z
      have h:put (put (put M s1 _) s2 _) a (.lst []) a=some o:=h;rw[aa]at h;cases h;refine⟨aa,λx=>?_,λx=>?_⟩
      . obtain⟨o,h⟩:=w1 a x;rw[k2 _ _ h]at hp;cases hp
      . obtain⟨o,h⟩:=w2 a x;rw[h]at hp;cases hp
    . rw[ai z]
      have h:put (put (put M s1 _) s2 _) p (.lst []) a=some o:=h;rw[ai z]at h
      by_cases z2:a=s2
      . subst z2
        rw[aa]at h;cases h;exact⟨t2,(λx=>by obtain⟨o,h⟩:=w1 a x;rw[h]at hs2;cases hs2),q2⟩
      . rw[ai z2]at h
        by_cases z1:a=s1
        . subst z1
          rw[aa]at h;cases h;exact⟨k2 _ _ t1,q1,w3 _ _ t1⟩
        . rw[ai z1]at h
          exact⟨up _ _ h,(λx=>by have:=o1 a x;rw[h]at this;cases this),w3 _ _ (k1 _ _ h)⟩
 refine wc (g1:=ad1 .g) (g2:=ad2 .g) tb ok1 ok2 hd1 hd2 n1 n2 n3 bs [] _ _ 1 M0 _ none ob rn b1 b2 (b0 _ _ n3 htb) aa (by omega) (by show 0+bs.length<800;omega) λM' z' h1 h2=>?_
 walk_at "ev";exact hq M' p (λb o hb=>h1 b o (λz=>by rw[z,fr hp]at hb;cases hb) (b0 b o (λz=>by rw[z,fr hp]at hb;cases hb) hb)) (fr hp) h2
end
section
variable {e:Env}{n:Nat}{M:RM}{Q:aj}
theorem Qh{xs:List Int}{k:Nat}:aw (P e) (n+1) 44 [.ls (xs.map RV.int),.int k] M Q=Q (.int (xs.getD k 0)) M:=by
 rw[us (i:=44) (d:=vJ) rfl];simp only[vJ];walk_at "ev";rw[br]
 by_cases h:k<xs.length
 . rw[if_pos (by simpa using h),ju (v:=RV.int (xs.getD k 0)) (by simp[h])]
   rfl
 . rw[if_neg (by simpa using h)]
   simp[Nat.le_of_not_lt h]
structure c0 where
 a:Int
 b:Int
 c:Int
def c0.l(g:c0):RO:=.lst [.int g.a,.int g.b,.int g.c]
structure c0.Ok(g:c0):Prop where
 a:0<=g.a
 b:0<=g.b/\g.b<2305843009213693951
 c:0<=g.c/\g.c<1000000
theorem Pu{x:Addr}{g:c0}{m:Int}(hx:M x=some g.l)(ha:0<g.a)(hm:0<m)(hm2:m<1073741824)(hq:Q (.int (g.a % m)) (put M x (c0.l ⟨g.a / m,g.b,g.c⟩))):aw (P e) (n+1) 46 [.ref x,.int m] M Q:=by
 unfold c0.l at hx;rw[us (i:=46) (d:=qe) rfl];simp only[qe];walk_at "evs";exact hq
def uA:Int:=2305843009213693951
def X7(b c:Int):Int:=((((b+1000003*c) % uA)*((b+1000003*c) % uA)+7919*c ^ 2+5) % uA) ^ 3 % uA / 13
theorem AG{i j:Int}(h1:-(2 ^ 64)<i)(h2:i<2 ^ 64):hB i j:=.inl ⟨h1,h2⟩
theorem OQ{x:Addr}{g:c0}{m:Int}(hx:M x=some g.l)(ok:g.Ok)(ha:¬0<g.a)(hm:0<m)(hq:Q (.int (X7 g.b (g.c+1) % m)) (put M x (c0.l ⟨g.a,g.b,g.c+1⟩))):aw (P e) (n+1) 46 [.ref x,.int m] M Q:=by
 obtain⟨_,⟨b1,b2⟩,c1,c2⟩:=ok;unfold c0.l at hx;rw[us (i:=46) (d:=qe) rfl];simp only[qe];walk_at "evs";have e1:=Int.emod_nonneg (g.b+1000003*(g.c+1)) (b:=2305843009213693951) (by decide)
 have e2:=Int.emod_lt_of_pos (g.b+1000003*(g.c+1)) (b:=2305843009213693951) (by decide)
 have e3:∀z:Int,(z % 2305843009213693951).natAbs<2 ^ 64:=λz=>by
  have h1:=Int.emod_nonneg z (b:=2305843009213693951) (by decide)
  have h2:=Int.emod_lt_of_pos z (b:=2305843009213693951) (by decide)
  omega
 exact⟨AG (by decide) (by decide),AG (by omega) (by omega),by omega,AG (by decide) (by decide),e3 _,hq⟩
def qH(cell turn:Int):c0:=⟨if 10 ^ 18<=cell then cell-10 ^ 18 else 0,cell % uA,turn⟩
theorem W0:(10:Int) ^ Int.toNat 18=10 ^ 18:=rfl
theorem Us{c t:Int}(hq:∀p,M p=none->Q (.ref p) (put M p (qH c t).l)):aw (P e) (n+1) 45 [.int c,.int t] M Q:=by
 rw[us (i:=45) (d:=vH) rfl];simp only[vH];walk_at "ev";refine⟨by decide,?_⟩
 rw[W0];unfold qH c0.l at hq
 by_cases h:(10:Int) ^ 18<=c
 . rw[if_pos (by simpa using h)]
   simp only[if_pos h]at hq;exact⟨by decide,hq⟩
 . rw[if_neg (by simpa using h)]
   simp only[if_neg h]at hq;exact hq
structure c0.In(g:c0)(k:Int):Prop where
 a:0<=g.a
 b:0<=g.b/\g.b<2305843009213693951
 c:0<=g.c/\g.c<=k
theorem tW{a m:Int}(hm:0<m):0<=a % m/\a % m<m:=⟨Int.emod_nonneg _ (by omega),Int.emod_lt_of_pos _ hm⟩
theorem eW{x:Addr}{g:c0}{m k:Int}(hx:M x=some g.l)(ok:g.In k)(hk:k<999999)(hm:0<m)(hm2:m<1073741824)(hq:∀v g',0<=v->v<m->c0.In g' (k+1)->Q (.int v) (put M x g'.l)):aw (P e) (n+1) 46 [.ref x,.int m] M Q:=by
 obtain⟨o1,o2,o3,o4⟩:=ok
 by_cases h:0<g.a
 . exact Pu hx h hm hm2 (hq _ _ (tW hm).1 (tW hm).2 ⟨Int.ediv_nonneg o1 (by omega),o2,o3,by show g.c<=k+1;omega⟩)
 . exact OQ hx ⟨o1,o2,o3,by omega⟩ h hm (hq _ _ (tW hm).1 (tW hm).2 ⟨o1,o2,by show 0<=g.c+1;omega,by show g.c+1<=k+1;omega⟩)
theorem Ay{xs:LR}{v:Int}(h0:0<=v)(h1:v<xs.length):∃y∈xs,∀{M:RM} {Q:aj},bz (.ls xs) (.int v) M Q=Q y M:=by
 obtain⟨j,rfl⟩:∃j:Nat,v=j:=⟨v.toNat,by omega⟩
 have hj:j<xs.length:=by omega
 refine⟨xs[j],List.getElem_mem _,λ{M Q}=>?_⟩
 rw[T4,ju (v:=xs[j]) (by simp[hj])];rfl
theorem WQ{a:Int}:0<=a % 2305843009213693951/\a % 2305843009213693951<2305843009213693951:=tW (by decide)
theorem Ta{c:Int}:(qH c 0).In 0:=⟨by unfold qH;dsimp only;split<;>omega,WQ,⟨Int.le_refl _,Int.le_refl _⟩⟩
theorem tN{bd:RV->Option (LR)}{md:Bool}{ok:RM->Prop}{un:RM->RM}{te:ar}{tt:dW}{base:List (Option RV)}(I:LR->RM->Prop)(ht:∀σ M (K:Bool->RM->Prop),K true M->tt σ M K)(av:∀acc M,I acc M->ok M):∀(xs acc:LR) (M:RM),I acc M->
 (∀x∈xs,∀acc2 M,acc2.length<acc.length+xs.length->I acc2 M->∃bs,bd x=some bs/\∀K:aj,(∀v M',I (acc2++ [v]) M'->K v M')->te (bs.map some++base) M K)->
 (∀acc' M',acc'.length=acc.length+xs.length->I acc' M'->jA md acc' (un M') Q)->gq bd md ok un tt te base xs acc M Q
 | [],acc,M,h,_,hq=>⟨av _ _ h,hq acc M rfl h⟩
 |x::xs,acc,M,h,hs,hq=>by
  obtain⟨bs,h1,h2⟩:=hs x (.head _) acc M (by rw[eG];omega) h
  refine⟨av _ _ h,?_⟩;rw[h1];refine ht _ _ _ ⟨λ_=>h2 _ λv M' h'=>tN I ht av xs _ M' h' (λy hy acc2 M2 hlt=>hs y (.tail _ hy) acc2 M2 (by rw[dH]at hlt;rw[eG];have:acc2.length<acc.length+1+xs.length:=hlt;omega)) λacc' M'' hl h''=>hq acc' M'' ?_ h'',λz=>by cases z⟩
  rw[hl,dH];show acc.length+1+xs.length=acc.length+(xs.length+1);omega
theorem xE{xs:LR}{v:Int}(h0:0<=v)(h1:v<xs.length)(p:RV->Prop)(hp:∀y∈xs,p y):∃y,p y/\∀{M:RM} {Q:aj},bz (.ls xs) (.int v) M Q=Q y M:=by
 obtain⟨y,h1,h2⟩:=Ay h0 h1;exact⟨y,hp y h1,h2⟩
def mQ(lo hi:Int):LR->Prop
 | []=>lo<=lo
 | .int n::xs=>(lo<=n/\n<=hi)/\mQ lo hi xs
 |_=>False
theorem uB(lo hi:Int){v:Int}:∀{xs:LR},0<=v->v<xs.length->mQ lo hi xs->∃m:Int,(lo<=m/\m<=hi)/\∀{M:RM} {Q:aj},bz (.ls xs) (.int v) M Q=Q (.int m) M:=λ{xs} h0 h1 h=>by
 obtain⟨y,hy,ey⟩:=Ay h0 h1;have:∀{xs:LR},mQ lo hi xs->∀y∈xs,∃m:Int,y= .int m/\lo<=m/\m<=hi:=λ{xs}=>by
  induction xs with
  |nil=>intro _ y hy;cases hy
  |cons x xs ih=>
   intro h y hy;cases x with
   |int n=>
    cases hy with
    |head=>exact⟨n,rfl,h.1⟩
    |tail _ hy=>exact ih h.2 y hy
   |_=>exact h.elim
 obtain⟨m,rfl,h1⟩:=this h y hy;exact⟨m,h1,ey⟩
theorem A0(l:az){v:Int}(h0:0<=v)(h1:v<l.length):∃m∈l,∀{M:RM} {Q:aj},bz (.ls (l.map RV.str)) (.int v) M Q=Q (.str m) M:=by
 obtain⟨y,hy,ey⟩:=Ay (xs:=l.map RV.str) h0 (by rw[br];exact h1)
 obtain⟨m,hm,rfl⟩:=bu.mp hy;exact⟨m,hm,ey⟩
theorem R1{x:Addr}{g:c0}{k:Int}(hx:M x=some g.l)(ok:g.In k)(hk:k<900000)(hq:∀f g',Fm.Ok f->c0.In g' (k+18)->Q f.r (put M x g'.l)):aw (P e) (n+2) 21 [.ref x] M Q:=by
 rw[us (i:=21) (d:=vU) rfl];simp only[vU];walk_at "ev";unfold Ec;walk_at "ev";refine eW hx ok (by omega) (by decide) (by decide) λv1 g1 a1 b1 ok1=>?_
 walk_at "ev";refine eW aa ok1 (by omega) (by decide) (by decide) λv2 g2 a2 b2 ok2=>?_
 obtain⟨many,⟨m1,m2⟩,ey⟩:=uB 1 200 (xs:=[.int 1,.int 2,.int 3,.int (1+v1),.int 200]) a2 b2 (by simp only[mQ];omega)
 rw[ey];walk_at "ev";unfold Eb;walk_at "ev";refine eW aa ok2 (by omega) (by omega) (by omega) λv3 g3 a3 b3 ok3=>?_
 walk_at "ev";refine eW aa ok3 (by omega) (by decide) (by decide) λv4 g4 a4 b4 ok4=>?_
 obtain⟨low,⟨w1,w2⟩,ey⟩:=uB 1 (10000-many) (xs:=[.int 1,.int (10000-many),.int (1+v3)]) a4 b4 (by simp only[mQ];omega)
 rw[ey];walk_at "ev";unfold Ea;walk_at "ev";refine eW aa ok4 (by omega) (by decide) (by decide) λv5 g5 a5 b5 ok5=>?_
 obtain⟨le,hle,ey⟩:=A0 ["door","place","talk"] a5 b5
 change ∀{M:RM} {Q:aj},bz (.ls [.str "door",.str "place",.str "talk"]) _ M Q=_ at ey
 rw[ey];walk_at "ev";unfold D9;walk_at "ev";refine eW aa ok5 (by omega) (by decide) (by decide) λv6 g6 a6 b6 ok6=>?_
 obtain⟨si,hsi,ey⟩:=A0 ["all","place","talk"] a6 b6
 change ∀{M:RM} {Q:aj},bz (.ls [.str "all",.str "place",.str "talk"]) _ M Q=_ at ey
 rw[ey];walk_at "ev";unfold D8;walk_at "ev";refine eW aa ok6 (by omega) (by decide) (by decide) λv7 g7 a7 b7 ok7=>?_
 obtain⟨pk,hpk,ey⟩:=A0 ["next","keep"] a7 b7
 change ∀{M:RM} {Q:aj},bz (.ls [.str "next",.str "keep"]) _ M Q=_ at ey
 rw[ey];walk_at "ev";unfold D7;walk_at "ev";refine eW aa ok7 (by omega) (by decide) (by decide) λv8 g8 a8 b8 ok8=>?_
 walk_at "ev";refine eW aa ok8 (by omega) (by decide) (by decide) λv9 g9 a9 b9 ok9=>?_
 obtain⟨most,⟨u1,u2⟩,ey⟩:=uB 1 200 (xs:=[.int 1,.int 2,.int 200,.int (1+v8)]) a9 b9 (by simp only[mQ];omega)
 rw[ey];walk_at "ev";unfold D6;walk_at "ev";refine eW aa ok9 (by omega) (by decide) (by decide) λv10 g10 a10 Bp ok10=>?_
 walk_at "ev";unfold D5;walk_at "ev";refine eW aa ok10 (by omega) (by decide) (by decide) λv11 g11 a11 yB ok11=>?_
 obtain⟨far,⟨z1,z2⟩,ey⟩:=uB 1 1000000 (xs:=[.int 4,.int 12,.int 1000000]) a11 yB (by simp only[mQ];omega)
 rw[ey];walk_at "ev";unfold D4;walk_at "ev";refine⟨by decide,by decide,by decide,?_⟩
 refine tN (λacc M'=>∃(ts:List Int) (g':c0),acc=ts.map RV.int/\(∀t∈ts,1<=t/\t<=far)/\M'=put M x g'.l/\g'.In (k+11+acc.length)) (λσ M K h=>h) (λ_ _ _=>dh) _ _ _ ⟨[],g11,rfl,gZ _,rfl,by show g11.In (k+11+0);refine⟨ok11.a,ok11.b,ok11.c.1,by have:=ok11.c.2;omega⟩⟩ (λy hy acc M' hlt h=>?_) λacc' M' hl h=>?_
 . obtain⟨ts,g',rfl,h2,rfl,h3⟩:=h
   rw[br]at h3;refine⟨[y],rfl,λK hK=>?_⟩
   show(tr ((P e).Gn (n+1)) _).E [some y,some (.ref x),some (.int far)] _ K;walk_at "ev";have hts:ts.length<3:=by rw[br]at hlt;exact hlt
   refine eW aa h3 (by omega) (by omega) (by omega) λv g2 a b o=>?_
   walk_at "ev";refine hK _ _ ⟨ts++ [1+v],g2,by rw[fe];rfl,λt ht=>?_,rfl,⟨o.a,o.b,o.c.1,by have:=o.c.2;rw[dH,br];show g2.c<=k+11+((ts.length+1:Nat):Int);omega⟩⟩
   rcases eZ.mp ht with h|h
   . exact h2 t h
   . cases fH.mp h;omega
 . obtain⟨ts,g',rfl,h2,rfl,h3⟩:=h
   rw[br]at h3;have hl:ts.length=3:=by rw[br]at hl;exact hl
   match ts,hl with
   | [t0,t1,t2],_=>
   have q0:=h2 t0 (by simp)
   have q1:=h2 t1 (by simp)
   have q2:=h2 t2 (by simp)
   have h3:g'.In (k+11+3):=h3;rw[mD];show nk "tuple" [.ls [.int t0,.int t1,.int t2]] (put M x g'.l) _;rw[show ∀(xs:LR) (M:RM) (Q:aj),nk "tuple" [.ls xs] M Q=Q (.tup xs) M fromλ_ _ _=>rfl]
   unfold D3;walk_at "ev";refine eW aa h3 (by omega) (by decide) (by decide) λv12 g12 a12 b12 ok12=>?_
   refine eW aa ok12 (by omega) (by decide) (by decide) λBb g13 a13 b13 ok13=>?_
   refine eW aa ok13 (by omega) (by decide) (by decide) λLj g14 a14 b14 ok14=>?_
   obtain⟨rest,⟨y1,y2⟩,ey⟩:=uB 0 1000000 (xs:=[.int 0,.int v12,.int Bb,.int 1000000]) a14 b14 (by simp only[mQ];omega)
   rw[ey];walk_at "ev";unfold Jx;walk_at "ev";have:=hq ⟨low,low+many-1,le,si,pk,most,v10==1,t0,t1,t2,rest⟩ g14 ⟨by dsimp only;omega,by dsimp only;omega,by dsimp only;omega,by dsimp only;omega,by simpa using hle,by simpa using hsi,by simpa using hpk,⟨u1,u2⟩,by dsimp only;omega,by dsimp only;omega,by dsimp only;omega,⟨y1,y2⟩⟩ ⟨ok14.a,ok14.b,ok14.c.1,by have:=ok14.c.2;omega⟩
   exact this
end
section
variable {e:Env}{n:Nat}{M M0 M':RM}{Q:aj}{f f1 f2:Fm}{d d1 d2 p:Int}{s s1 s2 g1 g2:Addr}{S1 S2:GS}{c:Nat}
theorem Pw{x:Addr}{g:c0}{k:Int}(hx:M x=some g.l)(ok:g.In k)(hk:k<900000)(hq:∀(s:St) g',s.Ok->c0.In g' (k+4)->Q s.r (put M x g'.l)):aw (P e) (n+2) 22 [.ref x] M Q:=by
 rw[us (i:=22) (d:=vI) rfl];simp only[vI];walk_at "ev";refine eW hx ok (by omega) (by decide) (by decide) λv1 g1 a1 b1 ok1=>?_
 refine eW aa ok1 (by omega) (by decide) (by decide) λv2 g2 a2 b2 ok2=>?_
 refine eW aa ok2 (by omega) (by decide) (by decide) λv3 g3 a3 b3 ok3=>?_
 obtain⟨y,⟨t,rfl,t1,t2⟩,ey⟩:=xE (xs:=[.int 1,.int v1,.int v2]) a3 b3 (λy=>∃m:Int,y= .int m/\0<=m/\m<=1000000) (by
  intro y hy;simp only[cj,iV,or_false]at hy;rcases hy with rfl|rfl|rfl
  . exact⟨_,rfl,by decide,by decide⟩
  . exact⟨_,rfl,by omega,by omega⟩
  . exact⟨_,rfl,by omega,by omega⟩)
 rw[ey];walk_at "ev";refine eW aa ok3 (by omega) (by decide) (by decide) λv4 g4 a4 b4 ok4=>?_
 obtain⟨y,⟨s,rfl,hs⟩,ey⟩:=xE (xs:=[.str "one",.str "other",.str "one",.str "other",.str "one",.str "other",.int t]) a4 b4 (λy=>∃s:St,y=s.r/\s.Ok) (by
  intro y hy;simp only[cj,iV,or_false]at hy;rcases hy with rfl|rfl|rfl|rfl|rfl|rfl|rfl
  . exact⟨.w true,rfl,trivial⟩
  . exact⟨.w false,rfl,trivial⟩
  . exact⟨.w true,rfl,trivial⟩
  . exact⟨.w false,rfl,trivial⟩
  . exact⟨.w true,rfl,trivial⟩
  . exact⟨.w false,rfl,trivial⟩
  . exact⟨.t t,rfl,t1,t2⟩)
 rw[ey];have e1:k+1+1+1+1=k+4:=by omega
 have ok5:g4.In (k+4):=by rw[<-e1];exact ok4
 first|exact hq s g4 hs ok5|(simp only[ij];exact hq s g4 hs ok5)
theorem Dq{b:Bool}{K:aj}:dm .In (.str (uG b)) (.tup [.str "one",.str "other"]) M K=K (.bl true) M:=by
 show(aB 15 (.str (uG b))=true/\[RV.str "one",.str "other"].all (aB 15)=true/\K (.bl (inR (.str (uG b)) [.str "one",.str "other"])) M)=_;rw[Ig,tX,show [RV.str "one",.str "other"].all (aB 15)=true from rfl];simp
theorem U2{k:Int}{K:aj}:dm .In (.int k) (.tup [.str "one",.str "other"]) M K=K (.bl false) M:=by
 show(aB 15 (.int k)=true/\[RV.str "one",.str "other"].all (aB 15)=true/\K (.bl (inR (.int k) [.str "one",.str "other"])) M)=_;rw[Hm,show aB 15 (.int k)=true from rfl,show [RV.str "one",.str "other"].all (aB 15)=true from rfl];simp
theorem U1{K:aj}:dm .In (.str "one") (.tup [.str "one",.str "other"]) M K=K (.bl true) M:=Dq (b:=true)
theorem RJ{K:aj}:dm .In (.str "other") (.tup [.str "one",.str "other"]) M K=K (.bl true) M:=Dq (b:=false)
theorem DJ{x:RV}{a0 a1 a2 a3 a4 a5 a6 a7 a8 a9 a10 a11:Option RV}{K:List (Option RV)->RM->Prop}:gQ 11 x [a0,a1,a2,a3,a4,a5,a6,a7,a8,a9,a10,a11] M K=K [a0,a1,a2,a3,a4,a5,a6,a7,a8,a9,a10,some x] M:=rfl
noncomputable def AK:T:=.se (.set 9 (.me 75 (.ix (.v 4) (.v 8)) (.ec (.s "note") (.ec (.i 0) (.ec (.ix (.v 2) (.v 8)) (.ec (.op .Sub (.i 2) (.v 8)) (.ec (.ix (.v 5) (.op .Sub (.i 1) (.v 8))) (.ec (.s "say") (.ec (.s "") .e0))))))))) (.se (.set 10 .n) (.se (.aX (.cm .Eq (.ix (.v 9) (.i 0)) (.s "led")) (.se (.set 10 (.me 74 (.ix (.v 4) (.op .Sub (.i 1) (.v 8))) (.ec (.s "note") (.ec (.op .Add (.i 1) (.v 8)) (.ec (.ix (.v 9) (.i 1)) (.ec (.ix (.v 5) (.op .Sub (.i 1) (.v 8))) (.ec (.s "say") (.ec (.s "") .e0)))))))) .en) .en) (.se (.ex (.ap (.v 6) (.ec (.tu (.ec (.v 7) (.ec (.v 9) (.ec (.v 10) .e0)))) .e0))) .en)))
def pd:T:=(.se (.aX (.cm .In (.v 7) (.tu (.ec (.s "one") (.ec (.s "other") .e0)))) (.se (.set 8 (.bt "int" (.ec (.cm .Eq (.v 7) (.s "other")) .e0))) AK) (.se (.fo false [11] (.is (.v 4)) (.se (.ex (.me 40 (.v 11) (.ec (.v 7) .e0))) .en)) .en)) .en)
theorem JA{p ga gb:Addr}{sx:Str}{w pa pb da db:Int}{fa fb:Fm}{Sa Sb:GS}{c:Nat}{M0:RM}{acc:LR}{r0 r1 rd r3 rg rm:RV}{z9 z10 z11:Option RV}{D:RD}(tb:Tb e)(oka:fa.Ok)(okb:fb.Ok)(hda:1<=da/\da<=9999)(hpa:1<=pa/\pa<=2)(hpb:1<=pb/\pb<=2)
 (e2:2-w=pb) (e3:1+w=pa) (hG:∀{M K},bz rg (.int w) M K=K (.ref ga) M) (hH:∀{M K},bz rg (.int (1-w)) M K=K (.ref gb) M) (hD:∀{M K},bz rd (.int w) M K=K (.int da) M) (hM:∀{M K},bz rm (.int (1-w)) M K=K (.int (m0 fb db)) M)
 (rn:Rn e M0 M ga gb fa (iH da) (iP da pb (m0 fb db)) fb (iH db) (iP db pa (m0 fa da)) c Sa Sb) (hp:M0 p=some (.lst acc)) (l1:c<390) (l2:acc.length<800)
 (fin:∀(M2:RM) (v10:Option RV),Rn e M0 M2 ga gb fa (iH da) (iP da pb (m0 fb db)) fb (iH db) (iP db pa (m0 fa da)) (c+2) (sO fa da fb db pb Sa) (sC fa da pa fb db pb Sa Sb)->D.nx [some r0,some r1,some rd,some r3,some rg,some rm,some (.ref p),some (.str sx),some (.int w),some (aO fa da fb db pb Sa),v10,z11] (put M2 p (.lst (acc++ [.tup [.str sx,aO fa da fb db pb Sa,aC fa da pa fb db pb Sa Sb]])))):
 (tr ((P e).Gn (n+13)) AK).S D [some r0,some r1,some rd,some r3,some rg,some rm,some (.ref p),some (.str sx),some (.int w),z9,z10,z11] M:=by
 have m2:=Jm (d:=db) okb;have:=oka.lo;have:=oka.hi;have:=okb.lo;have:=okb.hi;obtain⟨_,_,_,hg1⟩:=rn.gate;unfold AK;walk_at "ev";rw[hG];walk_at "ev";rw[hg1];walk_at "ev";rw[hD,hM,e2];refine rn.out (n:=n+3) (i:=iP da pb (m0 fb db)) tb oka (Jg hda hpb ⟨by omega,by omega⟩) (.inr rfl) (by omega) λM1 rn1=>?_
 rcases EY (i:=iP da pb (m0 fb db)) rn.k1 with⟨m,e1,r1,r2⟩|⟨y,e1⟩
 . have ea:pV (aO fa da fb db pb Sa)=some m:=by unfold aO;rw[e1];rfl
   obtain⟨_,_,_,hgb⟩:=rn1.symm.gate;rw[e1];unfold led;walk_at "ev";rw[hH];walk_at "ev";rw[hgb];walk_at "ev";rw[hM,e3];refine rn1.symm.come (n:=n+6) (p:=pa) (far:=m) (m:=m0 fb db) tb okb m2.1 m2.2 ⟨by omega,by omega⟩ ⟨by omega,by omega⟩ (by omega) λM2 rn2=>?_
   have:=fin M2 (some (aC fa da pa fb db pb Sa Sb)) (by unfold sC;rw[ea];exact rn2.symm)
   unfold aC at this;rw[ea]at this;unfold aO at this;rw[e1]at this;rw[rn2.at_ hp];walk_at "ev";exact⟨acc,_,rfl,rn2.at_ hp,eF l2 (by decide),this⟩
 . have ea:pV (aO fa da fb db pb Sa)=none:=by unfold aO;rw[e1];rfl
   rw[e1,GA];walk_at "ev";rw[if_neg (by decide)]
   have:=fin M1 (some .ak) (by unfold sC;rw[ea];exact rn1.more)
   unfold aC at this;rw[ea]at this;unfold aO at this;rw[e1]at this;rw[rn1.at_ hp];walk_at "ev";exact⟨acc,_,rfl,rn1.at_ hp,eF l2 (by decide),this⟩
theorem wU{p:Addr}{r3:RV}(tb:Tb e)(ok1:f1.Ok)(ok2:f2.Ok)(hd1:1<=d1/\d1<=9999)(hd2:1<=d2/\d2<=9999)(n3:e.lP≠p){D:RD}:∀(bs:List St) (acc:LR) (S1 S2:GS) (c:Nat) (M0 M:RM) (z7 z8 z9 z10 z11:Option RV),(∀b∈bs,b.Ok)->
 Rn e M0 M g1 g2 f1 (iH d1) (iP d1 2 (m0 f2 d2)) f2 (iH d2) (iP d2 1 (m0 f1 d1)) c S1 S2->M0 e.lP=some (bK e)->M0 p=some (.lst acc)->c+2*bs.length<390->acc.length+bs.length<800->
 (∀M' z7 z8 z9 z10 z11,(∀b o,b≠p->M0 b=some o->M' b=some o)->M' p=some (.lst (acc++fQ f1 d1 f2 d2 bs S1 S2))->D.nx [some f1.r,some f2.r,some (.tup [.int d1,.int d2]),some r3,some (.ls [.ref g1,.ref g2]),some (.ls [.int (m0 f1 d1),.int (m0 f2 d2)]),some (.ref p),z7,z8,z9,z10,z11] M')->
 iQ (gQ 7) (tr ((P e).Gn (n+13)) pd).S D cV id (bs.map St.r) [some f1.r,some f2.r,some (.tup [.int d1,.int d2]),some r3,some (.ls [.ref g1,.ref g2]),some (.ls [.int (m0 f1 d1),.int (m0 f2 d2)]),some (.ref p),z7,z8,z9,z10,z11] M
 | [],acc,S1,S2,c,M0,M,z7,z8,z9,z10,z11,ob,rn,a3,hp,l1,l2,hq=>⟨dh,hq M z7 z8 z9 z10 z11 (λb o _ hb=>rn.at_ hb) (by rw[rn.at_ hp];simp[fQ])⟩
 |b::bs,acc,S1,S2,c,M0,M,z7,z8,z9,z10,z11,ob,rn,a3,hp,l1,l2,hq=>by
  rw[eG]at l1 l2;have ob':∀b∈bs,b.Ok:=λb hb=>ob b (.tail _ hb)
  obtain⟨_,_,_,hg1⟩:=rn.gate;refine⟨dh,?_⟩;cases b with
  |w b=>
   cases b with
   |true=>
    show(tr ((P e).Gn (n+13)) pd).S _ [some f1.r,some f2.r,some (.tup [.int d1,.int d2]),some r3,some (.ls [.ref g1,.ref g2]),some (.ls [.int (m0 f1 d1),.int (m0 f2 d2)]),some (.ref p),some (.str "one"),z8,z9,z10,z11] M;unfold pd;walk_at "ev";rw[U1];walk_at "ev";refine JA (w:=0) tb ok1 ok2 hd1 ⟨by decide,by decide⟩ ⟨by decide,by decide⟩ rfl rfl rfl rfl rfl rfl rn hp (by omega) (by omega) λM2 v10 rn2=>?_
    refine wU tb ok1 ok2 hd1 hd2 n3 bs _ _ _ _ _ _ _ _ _ _ _ ob' (rn2.other hp) ((ai n3).trans a3) aa (by omega) (by rw[dH];show acc.length+1+bs.length<800;omega) λM' z7 z8 z9 z10 z11 h1 h2=>?_
    refine hq M' z7 z8 z9 z10 z11 (λb o nb hb=>h1 b o nb ((ai nb).trans hb)) ?_
    rw[h2,uN];rfl
   |false=>
    show(tr ((P e).Gn (n+13)) pd).S _ [some f1.r,some f2.r,some (.tup [.int d1,.int d2]),some r3,some (.ls [.ref g1,.ref g2]),some (.ls [.int (m0 f1 d1),.int (m0 f2 d2)]),some (.ref p),some (.str "other"),z8,z9,z10,z11] M;unfold pd;walk_at "ev";rw[RJ];walk_at "ev";refine JA (w:=1) tb ok2 ok1 hd2 ⟨by decide,by decide⟩ ⟨by decide,by decide⟩ rfl rfl rfl rfl rfl rfl rn.symm hp (by omega) (by omega) λM2 v10 rn2=>?_
    refine wU tb ok1 ok2 hd1 hd2 n3 bs _ _ _ _ _ _ _ _ _ _ _ ob' (rn2.symm.other hp) ((ai n3).trans a3) aa (by omega) (by rw[dH];show acc.length+1+bs.length<800;omega) λM' z7 z8 z9 z10 z11 h1 h2=>?_
    refine hq M' z7 z8 z9 z10 z11 (λb o nb hb=>h1 b o nb ((ai nb).trans hb)) ?_
    rw[h2,uN];rfl
  |t k=>
   obtain⟨k1,k2⟩:0<=k/\k<=1000000:=ob _ (.head _);show(tr ((P e).Gn (n+13)) pd).S _ [some f1.r,some f2.r,some (.tup [.int d1,.int d2]),some r3,some (.ls [.ref g1,.ref g2]),some (.ls [.int (m0 f1 d1),.int (m0 f2 d2)]),some (.ref p),some (.int k),z8,z9,z10,z11] M;unfold pd;walk_at "ev";rw[U2];walk_at "ev";refine⟨dh,?_⟩;rw[DJ];walk_at "ev";rw[hg1];walk_at "ev";refine rn.wait (n:=n+6) tb a3 k1 k2 (by omega) λM1 rn1=>?_
   refine⟨dh,?_⟩;rw[DJ];walk_at "ev";obtain⟨_,_,_,hg2⟩:=rn1.symm.gate;rw[hg2];walk_at "ev";refine rn1.symm.wait (n:=n+6) tb a3 k1 k2 (by omega) λM2 rn2=>?_
   refine⟨dh,?_⟩;walk_at "ev";exact wU tb ok1 ok2 hd1 hd2 n3 bs _ _ _ _ _ _ _ _ _ _ _ ob' rn2.symm a3 hp (by omega) (by omega) hq
end
section
variable {e:Env}{n:Nat}{M M0 M':RM}{Q:aj}{f f1 f2:Fm}{d d1 d2 p:Int}{s s1 s2 g1 g2:Addr}{S1 S2:GS}{c:Nat}
theorem Rn.new{A1 B1 A2 B2:bc}{a:Addr}{o':RO}(h:Rn e M0 M g1 g2 f1 A1 B1 f2 A2 B2 c S1 S2)(ha:M a=none):Rn e (put M0 a o') (put M a o') g1 g2 f1 A1 B1 f2 A2 B2 c S1 S2:=by
 obtain⟨⟨ad1,ad2,T1,T2,h1,h2,h3,h4⟩,k1,k2⟩:=h;have q1:∀r u,ct e ad1 f1 T1 r=some u->ad1 r≠a:=λr u hr z=>by have:=h1.1.at_ r u hr;rw[z,ha]at this;cases this
 have q2:∀r u,ct e ad2 f2 T2 r=some u->ad2 r≠a:=λr u hr z=>by have:=h2.1.at_ r u hr;rw[z,ha]at this;cases this
 refine⟨⟨ad1,ad2,T1,T2,⟨⟨λr u hr=>(ai (q1 r u hr)).trans (h1.1.at_ r u hr),h1.1.inj⟩,h1.2⟩,⟨⟨λr u hr=>(ai (q2 r u hr)).trans (h2.1.at_ r u hr),h2.1.inj⟩,h2.2⟩,h3,λb u hb=>?_⟩,k1,k2⟩
 by_cases z:b=a
 . subst z
   rw[aa]at hb;exact⟨aa.trans hb,λ⟨r,u,hr,z⟩=>q1 r u hr z,λ⟨r,u,hr,z⟩=>q2 r u hr z⟩
 . rw[ai z]at hb ⊢
   exact h4 b u hb
theorem Xs{bs:List St}(tb:Tb e)(htb:M e.lP=some (bK e))(ok1:f1.Ok)(ok2:f2.Ok)(hd1:1<=d1/\d1<=9999)(hd2:1<=d2/\d2<=9999)(hl:bs.length<=100)(ob:∀b∈bs,b.Ok)
 (hq:∀M' a,(∀b o,M b=some o->M' b=some o)->M a=none->M' a=some (.lst (fQ f1 d1 f2 d2 bs (SH f1 d1) (SH f2 d2)))->Q (.ref a) M'):aw (P e) (n+14) 70 [f1.r,f2.r,.tup [.int d1,.int d2],.ls (bs.map St.r)] M Q:=by
 rw[us (i:=70) (d:=wx) rfl];simp only[wx];walk_at "ev";intro g1 hg1;refine zZ (n:=n+6) ok1 hg1 λM1 ad1 eg1 G1 k1 k2 k3=>⟨rfl,?_⟩
 intro g2 hg2;refine zZ (n:=n+6) ok2 hg2 λM2 ad2 eg2 G2 j1 j2 j3=>⟨rfl,?_⟩
 refine⟨by decide,by decide,by decide,?_⟩
 have nG1:∀r o,ct e ad1 f1 (S0 f1) r=some o->M (ad1 r)=none:=k2;have up1:∀b o,M b=some o->M1 b=some o:=λb o h=>k1 b o h (bZ hg1 h)
 have up2:∀b o,M1 b=some o->M2 b=some o:=λb o h=>j1 b o h (bZ hg2 h)
 have rn:Rn e M M2 g1 g2 f1 (iH d1) (iP d1 2 (m0 f2 d2)) f2 (iH d2) (iP d2 1 (m0 f1 d1)) 0 (S0 f1) (S0 f2):=by
  refine⟨⟨ad1,ad2,_,_,⟨⟨λr o h=>up2 _ _ (G1.at_ r o h),G1.inj⟩,eg1,bw.refl,uq ok1⟩,⟨G2,eg2,bw.refl,uq ok2⟩,λa x y=>?_,λa o h=>⟨up2 _ _ (up1 _ _ h),λ⟨r,u,hr,z⟩=>?_,λ⟨r,u,hr,z⟩=>?_⟩⟩,uq ok1,uq ok2⟩
  . obtain⟨r,o,hr,rfl⟩:=x
    obtain⟨r',o',hr',z⟩:=y;have:=j2 r' o' hr';rw[z,G1.at_ r o hr]at this;cases this
  . have:=k2 r u hr
    rw[z,h]at this;cases this
  . have:=j2 r u hr
    rw[z,up1 _ _ h]at this;cases this
 obtain⟨_,_,_,ha⟩:=rn.gate;refine⟨dh,?_⟩;show(tr ((P e).Gn (n+13)) (T.b true)).T [some (.int 0),some (.tup [.int d1,.int d2]),some (.ls [.ref g1,.ref g2])] _ _;walk_at "ev";refine⟨λ_=>?_,λz=>by cases z⟩
 rw[ha];walk_at "ev";refine rn.out (n:=n+3) (i:=iH d1) tb ok1 (AD hd1) (.inl rfl) (by omega) λM3 rn3=>?_
 rw[xj ok1]at rn3 ⊢;obtain⟨_,_,_,hb⟩:=rn3.symm.gate;show bz (.tup [.str "led",.int (m0 f1 d1)]) (.int 1) M3 _;walk_at "ev";refine⟨dh,?_⟩;show(tr ((P e).Gn (n+13)) (T.b true)).T [some (.int 1),some (.tup [.int d1,.int d2]),some (.ls [.ref g1,.ref g2])] _ _;walk_at "ev";refine⟨λ_=>?_,λz=>by cases z⟩
 rw[hb];walk_at "ev";refine rn3.symm.out (n:=n+3) (i:=iH d2) tb ok2 (AD hd2) (.inl rfl) (by omega) λM4 rn4=>?_
 rw[xj ok2]at rn4 ⊢;show bz (.tup [.str "led",.int (m0 f2 d2)]) (.int 1) M4 _;walk_at "ev";refine⟨dh,?_⟩;intro p (hp:M4 p=none);have n0:M p=none:=by
  cases eb:M p with
  |none=>rfl
  |some o=>rw[rn4.at_ eb]at hp;cases hp
 have n3:e.lP≠p:=λz=>by rw[z,n0]at htb;cases htb
 refine wU tb ok1 ok2 hd1 hd2 n3 bs [] (SH f1 d1) (SH f2 d2) 2 (put M p (.lst [])) _ none none none none none ob (rn4.symm.new hp) ((ai n3).trans htb) aa (by omega) (by show 0+bs.length<800;omega) λM' z7 z8 z9 z10 z11 h1 h2=>?_
 walk_at "ev";exact hq M' p (λb o hb=>h1 b o (bZ n0 hb) ((ai (bZ n0 hb)).trans hb)) n0 h2
end
section
variable {e:Env}{n:Nat}{M:RM}{Q:aj}{f f1 f2:Fm}{d1 d2 p1 p2:Int}{bs:List St}{a:Addr}{S S1 S2:GS}{i:bc}
def yK:RV->Bool
 | .tup [_,_,.tup (.str s::_)]=>s== "in"
 |_=>false
def A5:RV->RV
 | .tup (x::_)=>x
 |_=>.ak
def jy(rs:LR):LR:=(rs.filter yK).map A5
def um(x:RV):Prop:=∃(s:Str) (b:RV) (w:Str) (c:RV),x= .tup [.str s,.tup [.str w,b],c]/\(c= .ak∨∃(w:Str) (r:LR),c= .tup (.str w::r))
def xY(rs:LR):Bool:=inR (.str "one") (jy rs)&&inR (.str "other") (jy rs)
theorem zD{rs:LR}(hr:∀x∈rs,um x):(jy rs).all (aB 15)=true:=gB.mpr λy hy=>by
 obtain⟨z,hz,rfl⟩:=bu.mp hy;obtain⟨s,b,w,c,rfl,hc⟩:=hr z (cH.mp hz).1;rfl
theorem S4(tb:Tb e)(htb:M e.lP=some (bK e))(ok1:f1.Ok)(ok2:f2.Ok)(hd1:1<=d1/\d1<=9999)(hd2:1<=d2/\d2<=9999)(hl:bs.length<=100)(ob:∀b∈bs,b.Ok)(hr:∀x∈fQ f1 d1 f2 d2 bs (SH f1 d1) (SH f2 d2),um x)
 (hq:∀M',(∀b o,M b=some o->M' b=some o)->Q (.bl (xY (fQ f1 d1 f2 d2 bs (SH f1 d1) (SH f2 d2)))) M'):aw (P e) (n+15) 69 [f1.r,f2.r,.tup [.int d1,.int d2],.ls (bs.map St.r)] M Q:=by
 rw[us (i:=69) (d:=wY) rfl];simp only[wY];walk_at "ev";refine Ff tb htb ok1 ok2 hd1 hd2 hl ob λM' a k1 k2 h=>?_
 have hlen:(fQ f1 d1 f2 d2 bs (SH f1 d1) (SH f2 d2)).length<=100:=dJ qa hl;unfold xY at hq;revert h hr hq hlen;generalize fQ f1 d1 f2 d2 bs (SH f1 d1) (SH f2 d2)=rs;intro hr hq h hlen;unfold kS;simp only[h];refine⟨iU hlen (by decide),jd yK A5 h _ _ (λx hx=>?_) ?_⟩
 . obtain⟨s,b,w,c,rfl,hc⟩:=hr x hx
   refine⟨[.str s,.tup [.str w,b],c],rfl,λK hK=>?_,λ_ K hK=>?_⟩
   . show(tr ((P e).Gn (n+14)) _).T [some (.str s),some (.tup [.str w,b]),some c] M' K
     rcases hc with rfl|⟨w',r,rfl⟩
     . walk_at "ev"
       exact hK
     . walk_at "ev"
       exact hK
   . show(tr ((P e).Gn (n+14)) _).E [some (.str s),some (.tup [.str w,b]),some c] M' K
     walk_at "ev";exact hK
 . rw[mD,mZ]
   show gq _ _ _ _ _ _ [some (.ls (jy rs))] _ _ M' _;refine jd (bd:=gP false 1) (λ_=>true) (λx=>.bl (inR x (jy rs))) dh _ _ (λx hx=>?_) ?_
   . refine⟨[x],rfl,λK hK=>hK,λ_ K hK=>?_⟩
     show(tr ((P e).Gn (n+14)) _).E [some x,some (.ls (jy rs))] M' K;walk_at "ev";have hx1:aB 15 x=true:=by
      simp only[cj,iV,or_false]at hx;rcases hx with rfl|rfl<;>rfl
     exact⟨hx1,zD hr,hK⟩
   . rw[mD]
     exact(xl (bs:=[inR (.str "one") (jy rs),inR (.str "other") (jy rs)])).mpr (by simpa using hq M' k1)
theorem Xq{rs:LR}(h:M a=some (.lst rs))(hl:rs.length<=100)(hr:∀x∈rs,um x)(hq:Q (.bl (xY rs)) M):aw (P e) (n+1) 23 [.ref a] M Q:=by
 rw[us (i:=23) (d:=wu) rfl];simp only[wu];walk_at "ev";unfold kS;simp only[h];refine⟨iU hl (by decide),jd yK A5 h _ _ (λx hx=>?_) ?_⟩
 . obtain⟨s,b,w,c,rfl,hc⟩:=hr x hx
   refine⟨[.tup [.str s,.tup [.str w,b],c]],rfl,λK hK=>?_,λ_ K hK=>?_⟩
   . show(tr ((P e).Gn n) _).T [some (.tup [.str s,.tup [.str w,b],c])] M K
     rcases hc with rfl|⟨w',r,rfl⟩
     . walk_at "ev"
       exact hK
     . walk_at "ev"
       exact hK
   . show(tr ((P e).Gn n) _).E [some (.tup [.str s,.tup [.str w,b],c])] M K
     walk_at "ev";exact hK
 . rw[mD,mZ]
   show dm .In (.str "one") (.ls (jy rs)) M _;refine⟨rfl,zD hr,?_⟩;unfold xY at hq;cases em:inR (.str "one") (jy rs)with
   |false=>rw[em]at hq;exact hq
   |true=>rw[em]at hq;exact⟨rfl,zD hr,hq⟩
theorem QQ:∃(w:Str) (b:RV),(S.ba f i).2= .tup [.str w,b]/\aB 13 b=true:=by
 unfold GS.ba;split
 . exact⟨_,_,rfl,rfl⟩
 . split
   . exact⟨_,_,rfl,rfl⟩
   . split
     . exact⟨_,_,rfl,rfl⟩
     . split
       . exact⟨_,_,rfl,rfl⟩
       . exact⟨_,_,rfl,rfl⟩
def Bn(c:RV):Prop:=(c= .ak∨∃(w:Str) (r:LR),c= .tup (.str w::r))/\aB 14 c=true
theorem Qn{m p far:Int}:Bn (S.bH f m p far):=by
 unfold GS.bH;split
 . exact⟨.inr ⟨_,_,rfl⟩,rfl⟩
 . split
   . exact⟨.inr ⟨_,_,rfl⟩,rfl⟩
   . split
     . unfold yI
       split
       . exact⟨.inr ⟨_,_,rfl⟩,rfl⟩
       . exact⟨.inl rfl,rfl⟩
     . exact⟨.inr ⟨_,_,rfl⟩,rfl⟩
theorem Ii{st:Str}:um (.tup [.str st,aO f1 d1 f2 d2 p2 S1,aC f1 d1 p1 f2 d2 p2 S1 S2])/\aB 15 (.tup [.str st,aO f1 d1 f2 d2 p2 S1,aC f1 d1 p1 f2 d2 p2 S1 S2])=true:=by
 have hc:Bn (aC f1 d1 p1 f2 d2 p2 S1 S2):=by
  unfold aC;split
  . exact Qn
  . exact⟨.inl rfl,rfl⟩
 obtain⟨w,b,e1,kb⟩:=QQ (S:=S1) (f:=f1) (i:=iP d1 p2 (m0 f2 d2));have e1:aO f1 d1 f2 d2 p2 S1= .tup [.str w,b]:=e1;rw[e1];refine⟨⟨_,_,_,_,rfl,hc.1⟩,?_⟩;show([RV.str st,.tup [.str w,b],aC f1 d1 p1 f2 d2 p2 S1 S2].all (aB 14))=true;rw[ff,ff,ff,hc.2,show aB 14 (.tup [.str w,b])= [RV.str w,b].all (aB 13)from rfl,ff,ff,kb]
 rfl
theorem qg:∀{bs:List St} {S1 S2:GS},∀x∈fQ f1 d1 f2 d2 bs S1 S2,um x/\aB 15 x=true
 | [],_,_,x,h=>by cases h
 | .w true::r,_,_,x,h=>by
  rcases cj.mp h with rfl|h
  . exact Ii
  . exact qg x h
 | .w false::r,_,_,x,h=>by
  rcases cj.mp h with rfl|h
  . exact Ii
  . exact qg x h
 | .t k::r,_,_,x,h=>qg (bs:=r) x h
end
theorem N4:fj.body=AV:=rfl
theorem Ic{α:Type}{l:List α}(h:l.length=2):∃a b,l= [a,b]:=⟨l[0],l[1],List.ext_getElem h fun|0,_,_=>rfl|1,_,_=>rfl|_+2,_,z=>absurd z (by simp)⟩
section
variable {e:Env}{n:Nat}{M:RM}{Q:aj}{D:RD}
theorem xm{g:c0}{k k':Int}(h:g.In k)(hk:k<=k'):g.In k':=⟨h.a,h.b,h.c.1,Int.le_trans h.c.2 hk⟩
variable {sc:RV}{c:Int}{x:Addr}{f1 f2:Fm}{d1 d2:Int}{bs:List St}{z2 z3 z4 z5 z6 z7 z8 z9 z10:Option RV}{g1 g2 g4:c0}
theorem XR(b2:g2.In 40)(hq:∀(bs:List St) (g4:c0),bs.length<=100->(∀b∈bs,b.Ok)->(tr ((P e).Gn (n+15)) xn).S D [some sc,some (.int c),some (.ref x),some (.ls [f1.r,f2.r]),some (.tup [.int d1,.int d2]),some (.ls (bs.map St.r)),z6,z7,z8,z9,z10] (put M x g4.l)):(tr ((P e).Gn (n+15)) xo).S D [some sc,some (.int c),some (.ref x),some (.ls [f1.r,f2.r]),some (.tup [.int d1,.int d2]),z5,z6,z7,z8,z9,z10] (put M x g2.l):=by
 unfold xo;rw[JJ,Ma];dsimp only[List.set_cons_zero,List.set_cons_succ];walk_at "ev";refine eW (n:=n+14) aa b2 (by omega) (by decide) (by decide) λv1 g3 a1 c1 b3=>?_
 rw[ij];refine eW (n:=n+14) aa b3 (by omega) (by decide) (by decide) λv2 g5 a2 c2 b5=>?_
 rw[ij];refine eW (n:=n+14) aa b5 (by omega) (by decide) (by decide) λv3 g6 a3 c3 b6=>?_
 rw[ij];obtain⟨y,⟨j,rfl,hj⟩,ey⟩:=xE (xs:=[.int v1,.int v2]) a3 c3 (λy=>∃j:Nat,y= .int j/\j<=100) (by
  intro y hy;simp only[cj,iV,or_false]at hy;rcases hy with rfl|rfl
  . exact⟨v1.toNat,by rw[Int.toNat_of_nonneg a1],by omega⟩
  . exact⟨v2.toNat,by rw[Int.toNat_of_nonneg a2],by omega⟩)
 rw[ey];walk_at "ev";refine⟨by omega,by omega,by rw[tq];exact eF (show(j:Int).toNat<101 by omega) (by decide),?_⟩
 refine tN (λacc M'=>∃(bs:List St) (g':c0),acc=bs.map St.r/\(∀b∈bs,b.Ok)/\M'=put M x g'.l/\g'.In (43+4*acc.length)) (λσ M K h=>h) (λ_ _ _=>dh) _ _ _ ⟨[],g6,rfl,gZ _,rfl,xm b6 (by decide)⟩ (λy hy acc M' hlt h=>?_) λacc' M' hl h=>?_
 . obtain⟨bs,g',rfl,h2,rfl,h3⟩:=h
   have hlt:(bs.map St.r).length<0+(nums (Int.toNat j)).length:=hlt;rw[br]at h3 hlt;rw[tq]at hlt;refine⟨[y],rfl,λK hK=>?_⟩
   show(tr ((P e).Gn (n+15)) _).E [some y,some (.ref x)] _ K;walk_at "ev";refine Pw (n:=n+13) aa h3 (by omega) λs g2 hs o=>?_
   rw[ij];refine hK _ _ ⟨bs++ [s],g2,by rw[fe];rfl,λt ht=>?_,rfl,xm o (by rw[dH,br];show 43+4*(bs.length:Int)+4<=43+4*((bs.length+1:Nat):Int);omega)⟩
   rcases eZ.mp ht with h|h
   . exact h2 t h
   . cases fH.mp h;exact hs
 obtain⟨bs,g4,rfl,h2,rfl,b4⟩:=h;have hl:(bs.map St.r).length=0+(nums (Int.toNat j)).length:=hl;rw[br,tq]at hl;rw[mD];exact hq bs g4 (by omega) h2
theorem VD{f:Fm}(ok:f.Ok):1<=f.low/\f.low<=9999:=⟨ok.lo,Int.le_trans ok.le ok.hi⟩
theorem XS(ok1:f1.Ok)(ok2:f2.Ok)(b1:g1.In 36)(hq:∀(d1 d2:Int) (g2:c0),(1<=d1/\d1<=9999)->(1<=d2/\d2<=9999)->g2.In 40->(tr ((P e).Gn (n+15)) xo).S D [some sc,some (.int c),some (.ref x),some (.ls [f1.r,f2.r]),some (.tup [.int d1,.int d2]),z5,z6,z7,z8,z9,z10] (put M x g2.l)):(tr ((P e).Gn (n+15)) xp).S D [some sc,some (.int c),some (.ref x),some (.ls [f1.r,f2.r]),z4,z5,z6,z7,z8,z9,z10] (put M x g1.l):=by
 unfold xp;walk_at "ev";refine tN (λacc M'=>∃(ds:List Int) (g':c0),acc=ds.map RV.int/\(∀d∈ds,1<=d/\d<=9999)/\M'=put M x g'.l/\g'.In (36+2*acc.length)) (λσ M K h=>h) (λ_ _ _=>dh) _ _ _ ⟨[],g1,rfl,by simp,rfl,by exact b1⟩ (λy hy acc M' hlt h=>?_) λacc' M' hl h=>?_
 . obtain⟨ds,g',rfl,h2,rfl,h3⟩:=h
   have hlt:(ds.map RV.int).length<2:=hlt;rw[br]at h3 hlt;obtain⟨f,rfl,okf⟩:∃f:Fm,y=f.r/\f.Ok:=by
    simp only[cj,iV,or_false]at hy;rcases hy with rfl|rfl
    . exact⟨_,rfl,ok1⟩
    . exact⟨_,rfl,ok2⟩
   refine⟨[f.r],rfl,λK hK=>?_⟩
   show(tr ((P e).Gn (n+15)) _).E [some f.r,some (.ref x)] _ K;walk_at "ev";refine eW (n:=n+14) aa h3 (by omega) (by decide) (by decide) λv g2 a b o=>?_
   walk_at "ev";rw[Bs];refine eW (n:=n+14) aa o (by omega) (by decide) (by decide) λv2 g3 a3 b3 o3=>?_
   obtain⟨y,⟨t,rfl,ht⟩,ey⟩:=xE (xs:=[.int (1+v),.int f.low]) a3 b3 (λy=>∃t:Int,y= .int t/\1<=t/\t<=9999) (by
    intro y hy;simp only[cj,iV,or_false]at hy;rcases hy with rfl|rfl
    . exact⟨_,rfl,by omega,by omega⟩
    . exact⟨_,rfl,VD okf⟩)
   rw[ey,ij];refine hK _ _ ⟨ds++ [t],g3,by rw[fe];rfl,λu hu=>?_,rfl,xm o3 (by rw[dH,br];show 36+2*(ds.length:Int)+1+1<=36+2*((ds.length+1:Nat):Int);omega)⟩
   rcases eZ.mp hu with h|h
   . exact h2 u h
   . cases fH.mp h;exact ht
 obtain⟨ds,g2,rfl,hds,rfl,b2⟩:=h;have hl:(ds.map RV.int).length=2:=hl;rw[br]at hl;obtain⟨d1,d2,rfl⟩:=Ic hl;have hd1:=hds d1 (by simp)
 have hd2:=hds d2 (by simp)
 have b2:g2.In 40:=b2;rw[mD];exact hq d1 d2 g2 hd1 hd2 b2
theorem XT(hq:∀(x:Addr) (f1 f2:Fm) (g1:c0),M x=none->f1.Ok->f2.Ok->g1.In 36->(tr ((P e).Gn (n+15)) xp).S D [some sc,some (.int c),some (.ref x),some (.ls [f1.r,f2.r]),z4,z5,z6,z7,z8,z9,z10] (put M x g1.l)):(tr ((P e).Gn (n+15)) qv).S D [some sc,some (.int c),z2,z3,z4,z5,z6,z7,z8,z9,z10] M:=by
 unfold qv;walk_at "ev";refine Us (n:=n+14) λx hx=>?_
 have b0:(qH c 0).In 0:=Ta;generalize qH c 0=g0 at b0;unfold Ir;walk_at "ev";refine⟨by decide,by decide,by decide,?_⟩
 refine tN (λacc M'=>∃(fs:List Fm) (g':c0),acc=fs.map Fm.r/\(∀f∈fs,f.Ok)/\M'=put M x g'.l/\g'.In (18*acc.length)) (λσ M K h=>h) (λ_ _ _=>dh) _ _ _ ⟨[],g0,rfl,by simp,rfl,by exact b0⟩ (λy hy acc M' hlt h=>?_) λacc' M' hl h=>?_
 . obtain⟨fs,g',rfl,h2,rfl,h3⟩:=h
   have hlt:(fs.map Fm.r).length<2:=hlt;rw[br]at h3 hlt;refine⟨[y],rfl,λK hK=>?_⟩
   show(tr ((P e).Gn (n+15)) _).E [some y,some (.ref x)] _ K;walk_at "ev";refine R1 (n:=n+13) aa h3 (by omega) λf g2 okf o=>?_
   rw[ij];refine hK _ _ ⟨fs++ [f],g2,by rw[fe];rfl,λt ht=>?_,rfl,xm o (by rw[dH,br];show 18*(fs.length:Int)+18<=18*((fs.length+1:Nat):Int);omega)⟩
   rcases eZ.mp ht with h|h
   . exact h2 t h
   . cases fH.mp h;exact okf
 obtain⟨fs,g1,rfl,av,rfl,b1⟩:=h;have hl:(fs.map Fm.r).length=2:=hl;rw[br]at hl;obtain⟨f1,f2,rfl⟩:=Ic hl;have ok1:=av f1 (by simp)
 have ok2:=av f2 (by simp)
 have b1:g1.In 36:=b1;rw[mD];exact hq x f1 f2 g1 hx ok1 ok2 b1
end
section
variable {e:Env}{n:Nat}{M:RM}{Q:aj}{D:RD}{sc:RV}{c:Int}{x da:Addr}{f1 f2:Fm}{d1 d2:Int}{bs:List St}{z2 z3 z4 z5 z6 z7 z8 z9 z10:Option RV}
theorem TN{rs:LR}(h:∀x∈rs,aB 15 x=true):aB 16 (.ls rs)=true:=gB.mpr h
theorem FF{a:Addr}{xs:LR}(h:M a=some (.lst xs)):de M (.ref a)= .ls xs:=by unfold de;simp only[h]
theorem GU{u v:RV}{xs:LR}{K:aj}(h1:de M u= .ls xs)(h2:de M v= .ls xs)(hx:∀x∈xs,aB 15 x=true)(hK:K (.bl false) M):dm .NotEq u v M K:=by
 have o:aB 16 (.ls xs)=true:=TN hx;show aB 16 (de M u)=true/\aB 16 (de M v)=true/\K (.bl (!bA (de M u) (de M v))) M;rw[h1,h2,tL _ ⟨16,o⟩];exact⟨o,o,hK⟩
theorem Xg{b:Bool}{K:aj}(hK:K (.bl false) M):dm .NotEq (.bl b) (.bl b) M K:=by
 have o:aB 16 (.bl b)=true:=rfl;show aB 16 (.bl b)=true/\aB 16 (.bl b)=true/\K (.bl (!bA (.bl b) (.bl b))) M;rw[tL _ ⟨16,o⟩];exact⟨o,o,hK⟩
theorem Wm{y:RV}(h:y∈bs.map St.r):aB 15 y=true:=by
 obtain⟨b,_,rfl⟩:=bu.mp h;cases b<;>rfl
theorem Vj{a:Addr}{xs:LR}{K:aj}(h:M a=some (.lst xs))(hK:K (.bl true) M):fJ "isinstance" [.ref a,.ty "list"] M K:=by
 show uz [.ref a,.ty "list"] M K;unfold uz;simp only[h];exact hK
theorem HN{z8:Option RV}(tb:Tb e)(htb:M e.lP=some (bK e))(ok1:f1.Ok)(ok2:f2.Ok)(hd1:1<=d1/\d1<=9999)(hd2:1<=d2/\d2<=9999)(hl:bs.length<=100)(ob:∀b∈bs,b.Ok)(hda:M da=some (.lst (fQ f1 d1 f2 d2 bs (SH f1 d1) (SH f2 d2))))
 (hq:∀(M':RM) z10,(∀b o,M b=some o->M' b=some o)->D.nx [some sc,some (.int c),some (.ref x),some (.ls [f1.r,f2.r]),some (.tup [.int d1,.int d2]),some (.ls (bs.map St.r)),some (.ls (bs.map St.r)),some (.ref da),z8,z9,z10] M'):(tr ((P e).Gn (n+15)) zw).S D [some sc,some (.int c),some (.ref x),some (.ls [f1.r,f2.r]),some (.tup [.int d1,.int d2]),some (.ls (bs.map St.r)),some (.ls (bs.map St.r)),some (.ref da),z8,z9,z10] M:=by
 unfold zw;walk_at "ev";refine Ff (n:=n+1) tb htb ok1 ok2 hd1 hd2 hl ob λM1 ra k1 ra0 hra=>?_
 unfold Gi Gh;walk_at "ev";refine Vj hra ?_;walk_at "ev";refine GU (FF hra) (FF (k1 _ _ hda)) (λx hx=>(qg x hx).2) ?_
 walk_at "ev";refine GU rfl rfl (λx hx=>Wm hx) ?_
 walk_at "ev";rw[hra];walk_at "ev";refine⟨_,_,rfl,hra,iU (dJ qa hl) (by decide),?_⟩
 exact hq _ _ λb o hb=>(ai (bZ ra0 hb)).trans (k1 b o hb)
theorem Lb{x:RV}{a0 a1 a2 a3 a4 a5 a6 a7 a8 a9 a10:Option RV}{K:List (Option RV)->RM->Prop}:gQ 8 x [a0,a1,a2,a3,a4,a5,a6,a7,a8,a9,a10] M K=K [a0,a1,a2,a3,a4,a5,a6,a7,some x,a9,a10] M:=rfl
theorem xb{xs:LR}{K:aj}:nk "list" [.ls xs] M K=K (.ls xs) M:=rfl
theorem WW(tb:Tb e)(htb:M e.lP=some (bK e))(ok1:f1.Ok)(ok2:f2.Ok)(hd1:1<=d1/\d1<=9999)(hd2:1<=d2/\d2<=9999)(hl:bs.length<=100)(ob:∀b∈bs,b.Ok)(hda:M da=some (.lst (fQ f1 d1 f2 d2 bs (SH f1 d1) (SH f2 d2))))
 (hq:∀(M':RM) z9,(∀b o,M b=some o->M' b=some o)->D.nx [some sc,some (.int c),some (.ref x),some (.ls [f1.r,f2.r]),some (.tup [.int d1,.int d2]),some (.ls (bs.map St.r)),some (.ls (bs.map St.r)),some (.ref da),z8,z9,z10] M'):(tr ((P e).Gn (n+15)) Af).S D [some sc,some (.int c),some (.ref x),some (.ls [f1.r,f2.r]),some (.tup [.int d1,.int d2]),some (.ls (bs.map St.r)),some (.ls (bs.map St.r)),some (.ref da),z8,z9,z10] M:=by
 unfold Af;walk_at "ev";refine S4 (n:=n) tb htb ok1 ok2 hd1 hd2 hl ob (λx hx=>(qg x hx).1) λM1 k1=>?_
 unfold Iq;walk_at "ev";refine Xq (n:=n+14) (k1 _ _ hda) (dJ qa hl) (λx hx=>(qg x hx).1) ?_
 refine Xg ?_;walk_at "ev";exact hq M1 _ k1
theorem WX(tb:Tb e)(htb:M e.lP=some (bK e))(ok1:f1.Ok)(ok2:f2.Ok)(hd1:1<=d1/\d1<=9999)(hd2:1<=d2/\d2<=9999)(hl:bs.length<=100)(ob:∀b∈bs,b.Ok)(hda:M da=some (.lst (fQ f1 d1 f2 d2 bs (SH f1 d1) (SH f2 d2))))(hq:∀(M':RM) (σ':List (Option RV)),σ'.length=9->(∀b o,M b=some o->M' b=some o)->D.nx ([some sc,some (.int c)]++σ') M'):(tr ((P e).Gn (n+15)) Ag).S D [some sc,some (.int c),some (.ref x),some (.ls [f1.r,f2.r]),some (.tup [.int d1,.int d2]),some (.ls (bs.map St.r)),some (.ls (bs.map St.r)),some (.ref da),z8,z9,z10] M:=by
 unfold Ag;walk_at "ev";rw[show nums (Int.toNat 2)= [.int 0,.int 1]from rfl]
 refine⟨by decide,by decide,dh,?_⟩
 rw[Lb];refine HN tb htb ok1 ok2 hd1 hd2 hl ob hda λM2 y10 k2=>?_
 refine⟨dh,?_⟩;rw[Lb];refine HN tb (k2 _ _ htb) ok1 ok2 hd1 hd2 hl ob (k2 _ _ hda) λM3 y10 k3=>?_
 refine⟨dh,?_⟩;dsimp only[id];refine WW (n:=n) tb (k3 _ _ (k2 _ _ htb)) ok1 ok2 hd1 hd2 hl ob (k3 _ _ (k2 _ _ hda)) λM4 z9 k4=>?_
 exact hq M4 _ rfl λb o hb=>k4 _ _ (k3 _ _ (k2 _ _ hb))
theorem XO(tb:Tb e)(htb:M e.lP=some (bK e))(ok1:f1.Ok)(ok2:f2.Ok)(hd1:1<=d1/\d1<=9999)(hd2:1<=d2/\d2<=9999)(hl:bs.length<=100)(ob:∀b∈bs,b.Ok)(hq:∀(M':RM) (σ':List (Option RV)),σ'.length=9->(∀b o,M b=some o->M' b=some o)->D.nx ([some sc,some (.int c)]++σ') M'):(tr ((P e).Gn (n+15)) Ah).S D [some sc,some (.int c),some (.ref x),some (.ls [f1.r,f2.r]),some (.tup [.int d1,.int d2]),some (.ls (bs.map St.r)),some (.ls (bs.map St.r)),z7,z8,z9,z10] M:=by
 unfold Ah;walk_at "ev";refine Xs (n:=n+1) tb htb ok1 ok2 hd1 hd2 hl ob λM1 da k1 da0 hda=>?_
 exact WX tb (k1 _ _ htb) ok1 ok2 hd1 hd2 hl ob hda λM' σ' h k=>hq M' σ' h λb o hb=>k _ _ (k1 _ _ hb)
theorem XQ(tb:Tb e)(htb:M e.lP=some (bK e))(ok1:f1.Ok)(ok2:f2.Ok)(hd1:1<=d1/\d1<=9999)(hd2:1<=d2/\d2<=9999)(hl:bs.length<=100)(ob:∀b∈bs,b.Ok)(hq:∀(M':RM) (σ':List (Option RV)),σ'.length=9->(∀b o,M b=some o->M' b=some o)->D.nx ([some sc,some (.int c)]++σ') M'):(tr ((P e).Gn (n+15)) xn).S D [some sc,some (.int c),some (.ref x),some (.ls [f1.r,f2.r]),some (.tup [.int d1,.int d2]),some (.ls (bs.map St.r)),z6,z7,z8,z9,z10] M:=by
 unfold xn;rw[JJ,UK,L9,L7,Yo];show vw (some (some (RV.ls (bs.map St.r)))) _;rw[O8,L8,xb];dsimp only[List.set_cons_zero,List.set_cons_succ];exact XO (n:=n) tb htb ok1 ok2 hd1 hd2 hl ob hq
theorem RC(tb:Tb e)(htb:M e.lP=some (bK e))(hq:∀(σ':List (Option RV)) (M':RM),σ'.length=9->M' e.lP=some (bK e)->D.nx ([some sc,some (.int c)]++σ') M'):(tr ((P e).Gn (n+15)) qv).S D [some sc,some (.int c),z2,z3,z4,z5,z6,z7,z8,z9,z10] M:=
 XT λx f1 f2 g1 hx ok1 ok2 b1=>XS ok1 ok2 b1 λd1 d2 g2 hd1 hd2 b2=>XR b2 λbs g4 hbs ob=>XQ tb ((ai (bZ hx htb)).trans htb) ok1 ok2 hd1 hd2 hbs ob λM' σ' hs k=>hq σ' M' hs (k _ _ ((ai (bZ hx htb)).trans htb))
theorem FH(tb:Tb e){xs:List Int}:∀(cs:List Int) (M:RM) (σ9:List (Option RV)),M e.lP=some (bK e)->σ9.length=10->(∀M' σ',M' e.lP=some (bK e)->D.nx (some (.ls (xs.map RV.int))::σ') M')->iQ (gQ 1) (tr ((P e).Gn (n+15)) qv).S D cV id (cs.map RV.int) (some (.ls (xs.map RV.int))::σ9) M
 | [],M,σ9,ht,hs,hq=>⟨dh,hq M σ9 ht⟩
 |c::cs,M,[_,z2,z3,z4,z5,z6,z7,z8,z9,z10],ht,_,hq=>by
  refine⟨dh,?_⟩;show(tr ((P e).Gn (n+15)) qv).S _ [some (.ls (xs.map RV.int)),some (.int c),z2,z3,z4,z5,z6,z7,z8,z9,z10] M;exact RC tb ht λσ' M' h ht'=>FH tb cs M' (some (.int c)::σ') ht' (by rw[eG,h]) hq
theorem Xr(tb:Tb e)(htb:M e.lP=some (bK e)){xs:List Int}(hq:∀M',M' e.lP=some (bK e)->Q (.bl true) M'):aw (P e) (n+16) 24 [.ls (xs.map RV.int)] M Q:=by
 rw[us (i:=24) (d:=fj) rfl];refine⟨rfl,?_⟩;rw[N4];unfold AV;simp only[fj];walk_at "ev";refine(Qh (n:=n+14) (xs:=xs) (k:=0)).mpr ?_;have e1:gG (xs.map RV.int) (some 1) (some 6)=((xs.drop (HT.aQ xs.length 0 (some 1))).take (HT.aQ xs.length xs.length (some 6)-HT.aQ xs.length 0 (some 1))).map RV.int:=by unfold gG;rw[br,List.map_take,List.map_drop]
 have e2:HT.aQ xs.length xs.length (some 6)<=6:=by rw[show(6:Int)=((6:Nat):Int)from rfl,HT.lM];omega
 rw[e1];refine⟨?_,FH tb (xs.getD 0 0::_) M [none,none,none,none,none,none,none,none,none,none] htb rfl λM' σ' ht=>?_⟩
 . rw[br,List.length_take]
   exact dJ (show 1+min (HT.aQ xs.length xs.length (some 6)-HT.aQ xs.length 0 (some 1)) _<=7 by omega) (by decide)
 . unfold CP;walk_at "ev"
   exact hq M' ht
end
def Cx:Nat->Addr:=λi=>([350,423,444,564,774,815]:List Addr).getD i 0
def GB:List (Str×Addr):=[("out",113),("come",120),("lost",127),("wait",134),("rule",141),("unrule",148)]
def EV:List (Str×Int):=[("note",0),("asked",1),("called",1),("up",2),("near",2),("far",2)]
def eE:Env:=⟨λx=>if x= "DEEDS" then vA GB else if x= "TIME_AT" then vB EV else [],Cx,[(113,9),(120,10),(134,11)],558⟩
noncomputable def G0:List (FD×FA):=[(wg,fD H35.vb),(wq,fD H35.ve),(wG,fD H35.vf),(wo,fD H35.vg),(vE,fD H35.vh),(wk,fD H35.vi),(wD,fD H35.vj),(Fi,fD H35.vm),(wB,⟨"is_text","is_text",Qc,99,98,.str "lentgate.ends" 194⟩),(tK,fD H35.jI),(tH,fD H35.jJ),(tG,fD H35.jK)]
noncomputable def G1:List (FD×FA):=[(wy,fD H35.jL),(ml,fD H35.jM),(wj,⟨"is_times","is_times",P2,240,239,.str "lentgate.forms" 491⟩),(wF,fD H35.jO),(sP,fD H35.jT),(sm,fD H35.jX),(su,fD H35.j8),(wt,fD H35.kH),(wm,⟨"is_steps","is_steps",P4,791,790,.str "lentgate.meetings" 1442⟩),(vU,⟨"_law_a_form","_law_a_form",Ou,864,863,.str "law_lentgate_k35_meetings_by_two_gates" 1545⟩),(vI,fD H35.kQ),(wu,⟨"_law_met","_law_met",Pq,881,880,.str "law_lentgate_k35_meetings_by_two_gates" 1545⟩)]
noncomputable def G2:List (FD×FA):=[(fj,⟨"law","law",Jc,886,885,.str "law_lentgate_k35_meetings_by_two_gates" 1545⟩)]
noncomputable def G3:List (FD×FA):=[(wA,fD H35.vk),(wC,fD H35.jN),(vG,fD H35.jP),(vV,fD H35.jQ),(vM,fD H35.jR),(sH,fD H35.jV),(sS,fD H35.jZ),(sM,fD H35.j5),(sh,fD H35.j6),(rZ,fD H35.j9),(r8,fD H35.ka),(sN,⟨"held","Talks.held",OP,514,513,.str "lentgate.talks" 910⟩)]
noncomputable def G4:List (FD×FA):=[(aE,⟨"pass_by","Talks.pass_by",Od,561,560,.str "lentgate.talks" 910⟩),(sY,fD H35.kj),(k8,fD H35.kl),(sW,fD H35.kq),(sX,fD H35.ku),(sg,fD H35.kC),(wd,fD H35.kK),(vJ,fD H35.kM),(vH,fD H35.kN),(qe,fD H35.kO)]
noncomputable def G5:List (FD×FA):=[(vF,fD H35.vd),(vS,fD H35.jH),(sT,fD H35.jU),(sv,fD H35.jW),(sV,fD H35.j0),(sr,⟨"is_with","Talks.is_with",Oe,481,480,.str "lentgate.talks" 910⟩),(sJ,fD H35.kc),(sL,fD H35.kg),(sj,fD H35.ke),(oC,fD H35.kh),(la,fD H35.kr),(oH,fD H35.ky)]
noncomputable def G6:List (FD×FA):=[(i9,fD H35.kA),(sA,fD H35.kE),(sE,fD H35.kG),(oF,fD H35.kJ)]
noncomputable def G7:List (FD×FA):=[(vN,fD H35.jS),(rX,fD H35.jY),(oE,fD H35.kf),(rY,fD H35.kF),(sR,fD H35.kI),(wz,fD H35.kL),(wY,⟨"meets","meets",SK,838,837,.str "lentgate.meetings" 1442⟩),(wx,⟨"_law_due","_law_due",Pr,876,875,.str "law_lentgate_k35_meetings_by_two_gates" 1545⟩)]
noncomputable def G8:List (FD×FA):=[(sQ,fD H35.j4),(oG,fD H35.j7)]
noncomputable def G9:List (FD×FA):=[(sD,fD H35.kD)]
noncomputable def uP:List (FD×FA):=[(sZ,fD H35.kn)]
noncomputable def uQ:List (FD×FA):=[(sI,fD H35.km)]
section
variable(Pm:Params)
theorem b0:iw (H35.K0 Pm) S Cx 558 1 G0=true:=by kernel_rfl
theorem l0:ia (H35.K0 Pm) G0:=by kernel_rfl
theorem u0:uT G0 1:=il (n:=1) λ_=>by show _=_;kernel_rfl
theorem b1:iw (H35.K0 Pm) S Cx 558 1 G1=true:=by kernel_rfl
theorem l1:ia (H35.K0 Pm) G1:=by kernel_rfl
theorem u1:uT G1 1:=il (n:=1) λ_=>by show _=_;kernel_rfl
theorem b2:iw (H35.K0 Pm) S Cx 558 1 G2=true:=by kernel_rfl
theorem l2:ia (H35.K0 Pm) G2:=by kernel_rfl
theorem u2:uT G2 1:=il (n:=1) λ_=>by show _=_;kernel_rfl
theorem b3:iw (H35.K0 Pm) S Cx 558 2 G3=true:=by kernel_rfl
theorem l3:ia (H35.K0 Pm) G3:=by kernel_rfl
theorem u3:uT G3 2:=il (n:=2) λ_ _=>by show _=_;kernel_rfl
theorem b4:iw (H35.K0 Pm) S Cx 558 2 G4=true:=by kernel_rfl
theorem l4:ia (H35.K0 Pm) G4:=by kernel_rfl
theorem u4:uT G4 2:=il (n:=2) λ_ _=>by show _=_;kernel_rfl
theorem b5:iw (H35.K0 Pm) S Cx 558 3 G5=true:=by kernel_rfl
theorem l5:ia (H35.K0 Pm) G5:=by kernel_rfl
theorem u5:uT G5 3:=il (n:=3) λ_ _ _=>by show _=_;kernel_rfl
theorem b6:iw (H35.K0 Pm) S Cx 558 3 G6=true:=by kernel_rfl
theorem l6:ia (H35.K0 Pm) G6:=by kernel_rfl
theorem u6:uT G6 3:=il (n:=3) λ_ _ _=>by show _=_;kernel_rfl
theorem b7:iw (H35.K0 Pm) S Cx 558 4 G7=true:=by kernel_rfl
theorem l7:ia (H35.K0 Pm) G7:=by kernel_rfl
theorem u7:uT G7 4:=il (n:=4) λ_ _ _ _=>by show _=_;kernel_rfl
theorem b8:iw (H35.K0 Pm) S Cx 558 5 G8=true:=by kernel_rfl
theorem l8:ia (H35.K0 Pm) G8:=by kernel_rfl
theorem u8:uT G8 5:=il (n:=5) λ_ _ _ _ _=>by show _=_;kernel_rfl
theorem b9:iw (H35.K0 Pm) S Cx 558 6 G9=true:=by kernel_rfl
theorem l9:ia (H35.K0 Pm) G9:=by kernel_rfl
theorem u9:uT G9 6:=il (n:=6) λ_ _ _ _ _ _=>by show _=_;kernel_rfl
theorem Bp:iw (H35.K0 Pm) S Cx 558 7 uP=true:=by kernel_rfl
theorem Ly:ia (H35.K0 Pm) uP:=by kernel_rfl
theorem Yr:uT uP 7:=il (n:=7) λ_ _ _ _ _ _ _=>by show _=_;kernel_rfl
theorem yB:iw (H35.K0 Pm) S Cx 558 8 uQ=true:=by kernel_rfl
theorem Lz:ia (H35.K0 Pm) uQ:=by kernel_rfl
theorem Ys:uT uQ 8:=il (n:=8) λ_ _ _ _ _ _ _ _=>by show _=_;kernel_rfl
theorem N2:(S.bl.all λx=>qJ (PySem.W.nsIn (H35.K0 Pm) mainGlobals x))=true:=by kernel_rfl
theorem Nh:(S.gi.all λx=>xZ x.2 (PySem.W.nsIn (H35.K0 Pm) mainGlobals x.1))=true:=by kernel_rfl
theorem Ng:(S.gt.all λx=>xU (H35.K0 Pm) x.2 (PySem.W.nsIn (H35.K0 Pm) mainGlobals x.1))=true:=by kernel_rfl
theorem NY:(S.cl.zipIdx.all λx=>pF (H35.K0 Pm) (Cx x.2)&&mJ (Cx x.2) (PySem.W.nsIn (H35.K0 Pm) mainGlobals x.1))=true:=by kernel_rfl
theorem NX:(S.fs.all λx=>pF (H35.K0 Pm) (Cx x.1)&&qJ (PySem.W.findIn (H35.K0 Pm) (.ref (Cx x.1)) x.2))=true:=by kernel_rfl
theorem N0:yD (H35.K0 Pm) 558=true:=by kernel_rfl
theorem NZ:xa (H35.K0 Pm) 560 558=true:=by kernel_rfl
theorem Dw:(H35.K0 Pm).lookup 558=none:=by kernel_rfl
end
section
variable {w:World}{h:Heap}{mg:bq}(X:(H35.K0 w.2).In h)(G:h.Ns mainGlobals mg)
include X G
theorem CN:∀x∈(G0++(G1++(G2++(G3++(G4++(G5++(G6++(G7++(G8++(G9++(uP++uQ))))))))))),jo (H35.K0 w.2) mg S Cx 558 x.1 x.2.g (fdOf x.2):=(jb (iI X G (b0 _) (l0 _) u0) (jb (iI X G (b1 _) (l1 _) u1) (jb (iI X G (b2 _) (l2 _) u2) (jb (iI X G (b3 _) (l3 _) u3) (jb (iI X G (b4 _) (l4 _) u4) (jb (iI X G (b5 _) (l5 _) u5) (jb (iI X G (b6 _) (l6 _) u6) (jb (iI X G (b7 _) (l7 _) u7) (jb (iI X G (b8 _) (l8 _) u8) (jb (iI X G (b9 _) (l9 _) u9) (jb (iI X G (Bp _) (Ly _) Yr) (iI X G (yB _) (Lz _) Ys))))))))))))
theorem TB:∀d∈S.fd,∃g fd,jo (H35.K0 w.2) mg S Cx 558 d g fd:=VP (by rfl) (CN X G)
theorem U6:Hd PySem.Challenge.pw_lentgate_k35_meetings_by_two_gates w (H35.K0 w.2) mg (P eE):=by
 refine XY X G (N2 _) (Nh _) (Ng _) (NY _) (NX _) ?_ (λx l hx=>by cases hx) (TB X G) (λ_ _ _ _=>⟨by decide,λh X2=>XJ X G (N0 _) X2⟩) ?_
 . show ∀x∈[("DEEDS":Str),("TIME_AT":Str)],_
   refine uI.mpr ⟨show KTab _ _ _ _ _ (vA GB)from RI (mW X G (n:="DEEDS") (v:=.ref 149) (by kernel_rfl)) (show(H35.K0 w.2).lookup 149=some (H35.pM w.2) by kernel_rfl) (by decide) ⟨⟨_,rfl⟩,rfl,rfl,⟨_,rfl⟩,rfl,rfl,⟨_,rfl⟩,rfl,rfl,⟨_,rfl⟩,rfl,rfl,⟨_,rfl⟩,rfl,rfl,⟨_,rfl⟩,rfl,rfl,trivial⟩ (by decide+kernel),?_⟩
   refine uI.mpr ⟨show KTab _ _ _ _ _ (vB EV)from RH (mW X G (n:="TIME_AT") (v:=.ref 228) (by kernel_rfl)) (show(H35.K0 w.2).lookup 228=some (H35.pN w.2) by kernel_rfl) (by decide) ⟨⟨_,rfl⟩,rfl,⟨_,rfl⟩,⟨_,rfl⟩,rfl,⟨_,rfl⟩,⟨_,rfl⟩,rfl,⟨_,rfl⟩,⟨_,rfl⟩,rfl,⟨_,rfl⟩,⟨_,rfl⟩,rfl,⟨_,rfl⟩,⟨_,rfl⟩,rfl,⟨_,rfl⟩,trivial⟩ (by decide+kernel),?_⟩
   exact gZ _
 . show ∀q∈[((113:Addr),(9:Nat)),((120:Addr),(10:Nat)),((134:Addr),(11:Nat))],_
   refine uI.mpr ⟨⟨tK,rfl,rfl,by kernel_rfl⟩,?_⟩
   refine uI.mpr ⟨⟨tH,rfl,rfl,by kernel_rfl⟩,?_⟩
   refine uI.mpr ⟨⟨tG,rfl,rfl,by kernel_rfl⟩,?_⟩
   exact gZ _
end
def aL:FA:=⟨"law","law",Jc,886,885,.str "law_lentgate_k35_meetings_by_two_gates" 1545⟩
theorem Yp:Tb eE:=⟨⟨_,by rfl,.head _⟩,⟨_,by rfl,.tail _ (.head _)⟩,⟨_,by rfl,.tail _ (.tail _ (.head _))⟩,by rfl⟩
theorem RE(ns:List Int):aw (P eE) 16 24 [.ls (ns.map RV.int)] (qF 558 S.lp S.lq) (λv M2=>v= .bl true/\M2 558=some (.tb 558 S.lp S.lq)):=Xr Yp FW λ_ h=>⟨rfl,h⟩
theorem kW{p:Params}{h:Heap}(X:(H35.K p).In h):(H35.K0 p).In h/\h.get? 558=some (PySem.W.tabObj #[]):=
 ⟨λa o e=>X a o (by show List.lookup a (H35.K0 p++_)=_;rw[List.lookup_append,e];rfl),X 558 _ (by show List.lookup _ (H35.K0 p++_)=_;rw[List.lookup_append,Dw];rfl)⟩
theorem walk{l:PySem.W.OpenLaw}{q:Program}{loose:az}{XP:(bq)->Heap->Prop}{YP:World->Heap->Prop}{d:DefRec}(hn:l.most=some 63)(hp:l.prog=PySem.Challenge.pw_lentgate_k35_meetings_by_two_gates)(hdn:d.name= "law")(hdf:d.params.defaults= [])
 (hY:∀(w:World) (h:Heap),YP w h->(H35.K0 w.2).In h/\h.get? 558=some (PySem.W.tabObj #[])):PySem.W.WalkO q loose XP YP l.row.toRowW d [] (λf vs=>PySem.call f vs):=by
 refine R.jn (n:=63) (k:=16+1) (x:="script") (K:=H35.K0) (sp:=aw (P eE) 16 24) (T:=558) (c:=560) (pos:=S.lp) (lq:=S.lq) hn (by decide) hdf ⟨rfl,by decide,by decide⟩ hY Dw (λp h X=>Fp (NZ p) X) (λw mg fa h X G hm=>?_) λns _=>RE ns
 have hl:=CN X G (fj,aL) (eZ.mpr (.inr (eZ.mpr (.inr (eZ.mpr (.inl (.head _)))))));have hf:=hl.k0 rfl;rw[hdn]at hm;have:fa=aL.g:=by have:=hm.symm.trans hf;injection this with this;injection this
 subst this;rw[hp];exact⟨fdOf aL,λs u=>.of_eq (by kernel_rfl),λbase kb _=>(yP (U6 X G) kb 16 24 fj aL.g (fdOf aL) rfl hl).1⟩
end K35
open PySem PySem.W PyProof.Rows
theorem K35.wa:looksOpen PySem.Challenge.pw_lentgate_k35_meetings_by_two_gates=true:=by kernel_rfl
theorem K35.wb:(PySem.Challenge.rw_lentgate_k35_meetings_by_two_gates).row.wellSaid=true:=by
 delta OpenRow.wellSaid OpenRow.partSaid
 rw[show looksOpen (PySem.Challenge.rw_lentgate_k35_meetings_by_two_gates).row.prog=true from K35.wa];kernel_rfl
theorem K35.ws:PySem.Challenge.rw_lentgate_k35_meetings_by_two_gates.wellSaid=true:=by
 delta OpenLaw.wellSaid
 rw[K35.wb];kernel_rfl
theorem PySem.Challenge.cw_lentgate_k35_meetings_by_two_gates_holds : PySem.Challenge.rw_lentgate_k35_meetings_by_two_gates.Holds := by
 w_on;refine PySem.W.holds_law K35.ws λsaid=>?_
 refine PySem.W.holds_open (r:=(PySem.Challenge.rw_lentgate_k35_meetings_by_two_gates).row) (q:=H35.q) (loose:=H35.loose) (Xt:=H35.Xt) (XP:=PySem.W.XL H35.q [])
  (Yf:=(PySem.W.kHook H35.K H35.ks H35.gI).obs) (Ya:=(PySem.W.kHook H35.K H35.ks H35.gI).val) (YP:=(PySem.W.kHook H35.K H35.ks H35.gI).says) (N:=H35.NN)
  H35.left (PySem.W.Hook.of _) (PySem.W.Hook.keeps _) (λs e=>PySem.W.xl_of s (Bool.and_eq_true_iff.mp e).1) PySem.W.XL.keeps (by rfl) (by rfl) (by rfl)
  (λs e=>PySem.W.recFacts_of (Bool.and_eq_true_iff.mp e).2) (by rfl) (by assumption) (by decide+kernel) ⟨rfl,rfl,rfl,rfl,rfl,by decide+kernel⟩ ?hw ?hc
 (case hw=>w_witness2)
 k_fill
 exact K35.walk (l:=PySem.Challenge.rw_lentgate_k35_meetings_by_two_gates) rfl rfl rfl rfl (λw h Y=>K35.kW (PySem.W.kIn_of Y))
