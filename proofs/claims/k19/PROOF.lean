import PyProof.Rows.All
import Wide.All
import OpenK.AllK
import Wide.FinOn
import Lean
import PyProof.EqAt
import PyProof.EqKinds
import PyProof.TupleCall
import PyProof.NeKinds
import PyProof.ZipIter
import KE.KSortTup
import KE.KDictSum
import PyProof.FString5
import KE.KSortedM
import KE.KEqDict
import PyProof.DictWalks
import KE.KDictList
import PyProof.Conv_int_bool
import KE.KSortKey
import KE.KLam
import KE.KIntText
import PySem.Challenge.RW_lentgate_k19_whole_as_with_an_address_ea
set_option Elab.async false
set_option linter.all false
set_option maxRecDepth 100000
set_option genInjectivity false
set_option genSizeOfSpec false
set_option genSizeOf false
set_option bootstrap.genMatcherCode false
set_option maxHeartbeats 0
set_option autoImplicit true
local macro_rules|`(∅)=>`(by omega)
local macro_rules|`(⋯)=>`(by decide)
abbrev ae:=PySem.W.Frag
local macro_rules | `(tactic| walk_at "w9") => `(tactic| (rw [PySem.W.Fast.te10110043849684766642, PySem.W.Fast.te14364793385576792824]; kernel_rfl))
def ai:=@PySem.wpAny_bind
def aU:=@Bool.and_eq_true
def bT:=@PySem.Heap.get?_push_of_some
def bw:=@List.length_map
def aW:=@List.mem_map
def aJ:=@PySem.wpAny_pure
def aS:=@Nat.le_refl
def ag:=@if_neg
def cN:=@List.length_append
def ar:=@if_pos
def bE:=@PySem.Heap.lt_size
def c7:=@List.size_toArray
def bG:=@Nat.le_trans
def eJ:=@PySem.Heap.get?_push_size
def cj:=@List.map_cons
def eR:=@Nat.lt_of_lt_of_le
def cx:=@List.mem_cons
def dJ:=@List.mem_filter
def dM:=@List.mem_append
def dP:=@Option.some.inj
def cE:=@List.map_map
def fI:=@List.forall_mem_nil
def mx:=@PySem.W.Fast.te10295753902157049106
def gk:=@List.mem_cons_of_mem
def cS:=@Nat.ne_of_lt
def eQ:=@List.map_append
def eI:=@decide_eq_true
def eY:=@List.append_nil
def eC:=@List.all_cons
def iz:=@List.mem_append_right
def fG:=@List.all_eq_true
def d8:=@Nat.lt_trans
def gj:=@List.getElem?_map
def fU:=@List.filter_cons
def jE:=@List.getElem?_eq_some_iff
def fH:=@decide_eq_false
def gL:=@Bool.false_ne_true
def fV:=@List.nodup_cons
def iA:=@List.mem_cons_self
def iB:=@decide_eq_true_eq
def jF:=@List.length_filter_le
def jl:=@Bool.false_eq_true
def iT:=@List.mem_singleton
def bC:=@Ne.symm
def bp:=@absurd
def jG:=@List.mem_of_getElem?
def iC:=@List.not_mem_nil
def jm:=@Nat.lt_of_le_of_lt
def mw:=@List.filterMap_append
def jH:=@List.filterMap_cons
def qi:=@List.getElem?_append_left
def eX:=@beq_iff_eq
def mq:=@beq_eq_false_iff_ne
def jB:=@PySem.wpAny_truthy_bool
def jC:=@PySem.wpAny_newObj_type
def jD:=@Bool.not_eq_true'
def nI:=@List.forall_mem_cons
def jk:=@List.find?_cons
def nJ:=@List.replicate_succ
def mv:=@PySem.W.emptyDict
def iy:=@Nat.zero_add
def mB:=@of_decide_eq_true
def jo:=@List.mem_range
def vE:=@PyProof.Rows.callWith_type1
def mC:=@PySem.wpAny_call_entry
def zj:=@PyProof.Rows.slot_tuple_getitem
def nK:=@Option.some.injEq
def jI:=@List.nodup_nil
def qm:=@List.mem_filterMap
def gq:=@PySem.wpAny_mono
def nM:=@List.lookup_cons
def fW:=@LawfulBEq.eq_of_beq
def mD:=@PySem.W.mg_of
def qo:=@Option.isSome_map
def nN:=@PySem.W.instObj
def rZ:=@List.filter_eq_self
def mE:=@Nat.lt_irrefl
def zk:=@Option.isSome_iff_exists
def r8:=@List.flatten_cons
def qp:=@PySem.W.kia_one
def zl:=@List.length_filterMap_le
def nO:=@List.any_cons
def zm:=@Nat.add_sub_cancel_left
def vF:=@List.map_congr_left
def nQ:=@PySem.wpAny_holding
def zo:=@List.length_replicate
def qq:=@List.map_nil
def rY:=@List.forIn_cons
def mz:=@Int.le_refl
def vo:=@List.append_assoc
def vq:=@List.filter_congr
def vw:=@PySem.wpAny_dictEntries
def y9:=@List.mem_append_left
def za:=@List.pairwise_append
def vA:=@PySem.W.plainGet
def vB:=@List.length_take
def vC:=@List.length_drop
def vD:=@decide_eq_decide
def zb:=@List.mem_map_of_mem
def zc:=@PySem.W.callWith_K
def zd:=@List.pairwise_cons
def ze:=@List.find?_eq_none
def zf:=@PySem.W.hasDictIn
def qj:=@Nat.zero_le
def zg:=@List.length_range
def zh:=@Nat.le_succ_of_le
def zi:=@Nat.lt_succ_of_le
noncomputable section
abbrev aG:=List (PySem.Addr×PySem.Obj)
abbrev aP:=PySem.Value->PySem.Shared->Prop
abbrev bj:=PySem.Str->Option PySem.Value
abbrev aq:=List PySem.Value
abbrev aX:=List PySem.Expr
abbrev az:=List PySem.Str
abbrev cI:=Option PySem.Value
namespace R
open PySem PySem.W PyProof.Rows
def pw{α:Type}(lt:Nat->Nat->Bool)(n:Nat):KasT α->(α->Prop)->Prop
 | .ret a,Q=>Q a
 | .ask i j k,Q=>i<n/\j<n/\pw lt n (k (lt i j)) Q
structure Ar(n:Nat)(p:Array Nat):Prop where
 sz:p.size=n
 pm:p.toList.Perm (List.range n)
section
variable {O:KeyOrd}{f:Nat->O.α}{n:Nat}{p:Array Nat}
end
end R
namespace L2
open PySem PySem.Spec PyProof.Rows
abbrev Key:=Sum Int Str
noncomputable def jv:Key->Value->Bool
 | .inl k,v=>Value.isInt k v
 | .inr x,v=>Value.isStrOf x v
noncomputable def Df (w:World):Key->Int
 | .inl k=>hashInt k
 | .inr x=>hashStr w x
theorem iJ:∀{k:Key} {v:Value},jv k v=true->(∃i t,k=Sum.inl i/\v=Value.int i t)∨(∃x t,k=Sum.inr x/\v=Value.str x t)
 | .inl i,v,h=>by
  obtain⟨t,e⟩:=Value.isInt_shape (k:=i) (v:=v) h;exact .inl ⟨i,t,rfl,e⟩
 | .inr x,v,h=>by
  obtain⟨t,e⟩:=Value.isStrOf_shape (x:=x) (v:=v) h;exact .inr ⟨x,t,rfl,e⟩
theorem SN(i:Int)(t:Tok):jv (.inl i) (.int i t)=true:=by simp[jv,Value.isInt]
theorem SM(x:Str)(t:Tok):jv (.inr x) (.str x t)=true:=by simp[jv,Value.isStrOf]
theorem Xq(a b:Int):decide ((Sum.inl a:Key)=Sum.inl b)=(a==b):=by
 by_cases e:a=b
 . subst e;simp
 . have h:¬(Sum.inl a:Key)=Sum.inl b:=λq=>e (Sum.inl.inj q)
   rw[fH h];exact(mq.mpr e).symm
theorem Xn(a b:Str):decide ((Sum.inr a:Key)=Sum.inr b)=decide (a=b):=by
 by_cases e:a=b
 . subst e;simp
 . have h:¬(Sum.inr a:Key)=Sum.inr b:=λq=>e (Sum.inr.inj q)
   rw[fH h,fH e]
theorem Xp(a:Int)(b:Str):decide ((Sum.inl a:Key)=Sum.inr b)=false:=fH (λq=>nomatch q)
theorem Xo(a:Str)(b:Int):decide ((Sum.inr a:Key)=Sum.inl b)=false:=fH (λq=>nomatch q)
noncomputable def dW (prog:Program)(w:World):PySem.KeyKind prog w Key where
 is:=jv
 hash:=Df w
 inj:=λv a b ha hb=>by
  rcases iJ ha with⟨i,t,rfl,rfl⟩|⟨x,t,rfl,rfl⟩
  . rcases iJ hb with⟨j,u,rfl,e⟩|⟨y,u,rfl,e⟩
    . injection e with e1 _;rw[e1]
    . exact nomatch e
  . rcases iJ hb with⟨j,u,rfl,e⟩|⟨y,u,rfl,e⟩
    . exact nomatch e
    . injection e with e1 _;rw[e1]
 byValue:=λk v h=>by
  rcases iJ h with⟨i,t,rfl,rfl⟩|⟨x,t,rfl,rfl⟩<;>rfl
 pyHash:=λhv h=>by
  rcases iJ hv with⟨i,t,rfl,rfl⟩|⟨x,t,rfl,rfl⟩
  . exact wpAny_pyHash_int h
  . exact wpAny_pyHash_str h
 eqBool:=λhu hv h=>by
  rcases iJ hu with⟨i,t,rfl,rfl⟩|⟨x,t,rfl,rfl⟩
  . rcases iJ hv with⟨j,u,rfl,rfl⟩|⟨y,u,rfl,rfl⟩
    . rw[Xq]at h;exact wpAny_eqBool_int h
    . rw[Xp]at h;exact SeqAt.EqAt.int_str i t y u _ _ _ _ h
  . rcases iJ hv with⟨j,u,rfl,rfl⟩|⟨y,u,rfl,rfl⟩
    . rw[Xo]at h;exact SeqAt.EqAt.str_int x t j u _ _ _ _ h
    . rw[Xn]at h;exact wpAny_eqBool_str h
 «strs»:=λk x t v h=>by
  rcases iJ h with⟨i,u,rfl,e⟩|⟨y,u,rfl,e⟩
  . exact nomatch e
  . injection e with e1 _
    subst e1;cases v<;>rfl
theorem QZ(prog:Program)(w:World)(i:Int)(t:Tok):(dW prog w).is (.inl i) (.int i t)=true:=SN i t
theorem Fo(prog:Program)(w:World)(x:Str)(t:Tok):(dW prog w).is (.inr x) (.str x t)=true:=SM x t
inductive V where
 |ao|bl (b:Bool)|int (i:Int)|str (x:Str)|vP (b:Array UInt8)|k9 (b:UInt64)|ref (a:Addr)|ty (n:String)
 deriving DecidableEq
abbrev LV:=List V
noncomputable def RelV:V->Value->Prop
 | .ao,u=>u=Value.none
 | .bl b,u=>u=Value.bool b
 | .int i,u=>∃t,u=Value.int i t
 | .str x,u=>∃t,u=Value.str x t
 | .vP b,u=>∃t,u=Value.bytes b t
 | .k9 b,u=>∃t,u=Value.float b t
 | .ref a,u=>u=Value.ref a
 | .ty n,u=>u=Value.type n
abbrev Vals:LV->aq->Prop:=Paired RelV
theorem Vals.length{xs:LV}{us:aq}(r:Vals xs us):xs.length=us.length:=Paired.length r
theorem Vals.get:∀{xs:LV} {us:aq} {i:Nat} {x:V},Vals xs us->xs[i]? =some x->∃u,us[i]? =some u/\RelV x u
 |_,_,_,_,.nil,e=>by simp at e
 |_,_,0,_,.cons r _,e=>by simp at e;subst e;exact⟨_,rfl,r⟩
 |_,_,i+1,x,.cons _ t,e=>by
  obtain⟨u,h1,h2⟩:=Vals.get (i:=i) (x:=x) t (by simpa using e)
  exact⟨u,by simpa using h1,h2⟩
theorem Vals.set{x:V}{u:Value}(r:RelV x u):∀{xs:LV} {us:aq} (i:Nat),Vals xs us->Vals (xs.set i x) (us.set i u)
 |_,_,_,.nil=>.nil
 |_,_,0,.cons _ t=>.cons r t
 |_,_,i+1,.cons q t=>.cons q (Vals.set r i t)
theorem Vals.append:∀{xs ys:LV} {us ws:aq},Vals xs us->Vals ys ws->Vals (xs++ys) (us++ws)
 |_,_,_,_,.nil,s=>s
 |_,_,_,_,.cons r t,s=>.cons r (Vals.append t s)
theorem Vals.take:∀{xs:LV} {us:aq} (n:Nat),Vals xs us->Vals (xs.take n) (us.take n)
 |_,_,0,_=>.nil
 |_,_,_+1,.nil=>.nil
 |_,_,n+1,.cons r t=>.cons r (Vals.take n t)
theorem Vals.drop:∀{xs:LV} {us:aq} (n:Nat),Vals xs us->Vals (xs.drop n) (us.drop n)
 |_,_,0,r=>r
 |_,_,_+1,.nil=>.nil
 |_,_,n+1,.cons _ t=>Vals.drop n t
def bK:Option V->cI->Prop
 |some v,some u=>RelV v u
 |none,none=>True
 |_,_=>False
def KV{κ:Type}:List (κ×V)->List (κ×Value)->Prop:=Paired λ(p:κ×V) (q:κ×Value)=>p.1=q.1/\RelV p.2 q.2
noncomputable def kV:Key->V
 | .inl i=>.int i
 | .inr x=>.str x
abbrev bJ:=Option Key
noncomputable def oV:bJ->V
 |none=>.ao
 |some k=>kV k
noncomputable def Bz:Option Key->Value->Bool
 |none,.none=>true
 |none,_=>false
 |some k,v=>jv k v
noncomputable def NQ (w:World):Option Key->Int
 |none=>0xFCA86420
 |some k=>Df w k
theorem lJ:∀{k:Option Key} {v:Value},Bz k v=true->(k=none/\v=Value.none)∨∃j,k=some j/\jv j v=true
 |none,v,h=>by cases v<;>first|exact .inl ⟨rfl,rfl⟩|(simp[Bz]at h)
 |some k,v,h=>.inr ⟨k,rfl,h⟩
theorem Fy{k:Key}:jv k Value.none=false:=by cases k<;>rfl
section
variable {prog:Program}{w:World}{A:Around}{E:aP}{s:Shared}
theorem Sw{Q:Int->Shared->Prop}(h:Q 0xFCA86420 { s with toks:=s.toks+1 }):wpAny (model prog w) A (PySem.pyHash .none) Q E s:=by
 have hT:s.TypeIs .none "NoneType":=rfl;unfold PySem.pyHash;have hv:[Value.none].any Value.onHeap=false:=rfl;refine ai ?_;rw[cRoomFor,ag (by rw[hv];exact gL)];refine aJ ?_
 refine ai (wpAny_specialOf hT F.slot_NoneType_hash.lookup ?_);show wpAny _ _ (if(some (Value.builtin "NoneType.__hash__")==some Value.none)=true then _ else _) Q E s
 rw[ag (by rw[beq_builtin_none];exact gL)]
 refine ai (wpAny_specialOf hT F.slot_NoneType_hash.lookup ?_);show wpAny _ _ (callSpecialIfBoundUnlessNone? .none "__hash__" _ >>= _) Q E s;refine ai (wpAny_callSpecialIfBoundUnlessNone?_slot hT F.slot_NoneType_hash
  (mC F.slot_NoneType_hash hT F.entry_NoneType_hash
   (show wpAny _ _ (do ret (<-mkInt 0xFCA86420)) _ _ s from wpAny_ret_mkInt ?_) (F.args_NoneType_hash_1 _)))
 show wpAny _ _ (if(decide (-(2:Int) ^ 63<=0xFCA86420)&&decide ((0xFCA86420:Int)<2 ^ 63))=true then _ else _) Q E _
 rw[ar ⋯]
 exact aJ h
end
noncomputable def optKind (prog:Program)(w:World):PySem.KeyKind prog w (Option Key) where
 is:=Bz
 hash:=NQ w
 inj:=λv a b ha hb=>by
  rcases lJ ha with⟨rfl,rfl⟩|⟨j,rfl,hj⟩
  . rcases lJ hb with⟨rfl,_⟩|⟨i,rfl,hi⟩
    . rfl
    . rw[Fy]at hi;cases hi
  . rcases lJ hb with⟨rfl,rfl⟩|⟨i,rfl,hi⟩
    . rw[Fy]at hj;cases hj
    . rw[(dW prog w).inj v j i hj hi]
 byValue:=λk v h=>by
  rcases lJ h with⟨rfl,rfl⟩|⟨j,rfl,hj⟩
  . rfl
  . exact(dW prog w).byValue j v hj
 pyHash:=λhv h=>by
  rcases lJ hv with⟨rfl,rfl⟩|⟨j,rfl,hj⟩
  . exact Sw h
  . exact(dW prog w).pyHash hj h
 eqBool:=λ{A E s a b u v Q} hu hv h=>by
  rcases lJ hu with⟨rfl,rfl⟩|⟨i,rfl,hi⟩
  . rcases lJ hv with⟨rfl,rfl⟩|⟨j,rfl,hj⟩
    . exact SeqAt.EqAt.same _ _ _ _ _ (by simpa using h)
    . have e:decide ((none:Option Key)=some j)=false:=fH (λq=>nomatch q)
      rw[e]at h;rcases iJ hj with⟨k,t,rfl,rfl⟩|⟨x,t,rfl,rfl⟩
      . exact SeqAt.EqAt.none_int k t _ _ _ _ h
      . exact SeqAt.EqAt.none_str x t _ _ _ _ h
  . rcases lJ hv with⟨rfl,rfl⟩|⟨j,rfl,hj⟩
    . have e:decide ((some i:Option Key)=none)=false:=fH (λq=>nomatch q)
      rw[e]at h;rcases iJ hi with⟨k,t,rfl,rfl⟩|⟨x,t,rfl,rfl⟩
      . exact SeqAt.EqAt.int_none k t _ _ _ _ h
      . exact SeqAt.EqAt.str_none x t _ _ _ _ h
    . have e:decide (some i=some j)=decide (i=j):=by
       by_cases q:i=j
       . subst q;simp
       . rw[fH q,fH λz=>q (dP z)]
      rw[e]at h;exact(dW prog w).eqBool hi hj h
 «strs»:=λk x t v h=>by
  rcases lJ h with⟨rfl,e⟩|⟨j,rfl,hj⟩
  . cases e
  . exact(dW prog w).strs j x t v hj
inductive HO where
 |lst (xs:LV)
 |tup (xs:LV)
 |dK (kvs:List (Key×V))|dT (kvs:List (List bJ×V))
 |set (S:Int->Bool) (n:Nat)
 |ins (C dx:Addr) (fs:List (Str×V))
 |own (x:Addr)
 |xd (fs:List (Str×V))
 |met (f x:Addr)
 |yW (lo hi:Int)
 |aV (o:Obj) (u:HO)
 |nG (ps:Array Value)
 |ext (φ:Heap->Prop)
abbrev Hp:=Addr->Option HO
noncomputable def upd (H:Hp)(a:Addr)(o:HO):Hp:=λb=>if b=a then some o else H b
theorem c0{H:Hp}{a:Addr}{o:HO}:upd H a o a=some o:=by unfold upd;rw[ar rfl]
theorem aD{H:Hp}{a b:Addr}{o:HO}(h:b≠a):upd H a o b=H b:=by unfold upd;rw[ag h]
theorem Uw{H:Hp}{a:Addr}{o u:HO}:upd (upd H a o) a u=upd H a u:=by
 funext b;unfold upd;split<;>rfl
theorem jb{H:Hp}{a b:Addr}{o u:HO}(h:H a=some o)(h':H b=some u)(d:o≠u):a≠b:=by
 intro e;subst e;rw[h]at h';exact d (dP h')
theorem fb{H:Hp}{a b:Addr}{o:HO}(h:H a=some o)(h':H b=none):a≠b:=by
 intro e;subst e;rw[h]at h';cases h'
section
variable(P:Program)(w:World)
noncomputable def aB (H:Hp)(h:Heap)(a:Addr):HO->Prop
 | .lst xs=>xs.length<=sizeLine/\∃(ab:aq) (n:Nat),Vals xs ab/\h.get? a=some { cls:=.type "list",data:=.seq ab.toArray n }
 | .tup xs=>xs.length<=sizeLine/\∃ab:aq,Vals xs ab/\IsTup h a ab.toArray
 | .dK kvs=>kvs.length<=sizeLine/\(a==sysModules)=false/\∃vs,KV kvs vs/\h.DictOf (dW P w) a vs
 | .dT kvs=>kvs.length<=sizeLine/\(a==sysModules)=false/\∃xs:List (List bJ×Addr×Value),
  Paired (λ(p:List bJ×V) (q:List bJ×Addr×Value)=>p.1=q.1/\H q.2.1=some (.tup (p.1.map oV))/\RelV p.2 q.2.2) kvs xs/\
  ∃o es ep,h.get? a=some o/\o.ExactDict/\o.data= .dict es ep/\es.toList=xs.map (entryOfKey (tupleKind (optKind P w)))/\(xs.map (·.1)).Nodup
 | .set S n=>h.SetOf (intKind P w) a S n
 | .ins C dx fs=>H dx=some (.own a)/\fs.length<=1000/\dx≠a/\h.get? a=some (nN C dx)/\
  ∃mA,h.Ns1 dx mA/\(∀f,bK (fs.lookup f) (mA f))/\PySem.Within mA (fs.map (·.1))
 | .own _=>∃o,h.get? a=some o
 | .xd fs=>∃mA,h.Ns1 a mA/\∀f,bK (fs.lookup f) (mA f)
 | .yW lo hi=>∃t u v,h.get? a=some { cls:=.type "range",data:=.fields #[.int lo t,.int hi u,.int 1 v] }
 | .aV o u=>h.get? a=some o/\aB H h a u
 | .nG ps=>h.get? a=some { cls:=.none,data:=.fields ps }
 | .met f x=>h.get? a=some (PySem.W.methodObj (.ref f) (.ref x))
 | .ext φ=>φ h/\(∃o,h.get? a=some o)/\∀h1 h2:Heap,φ h1->(∀o,h1.get? a=some o->h2.get? a=some o)->φ h2
def cz(H:Hp)(h:Heap):Prop:=∀a o,H a=some o->aB P w H h a o
end
section
variable {P:Program}{w:World}{H H':Hp}{h h':Heap}{a:Addr}{o:HO}
theorem aB.lt(x:aB P w H h a o):a<h.objs.size:=by
 cases o with
 |lst xs=>obtain⟨_,_,_,_,e⟩:=x;exact bE e
 |tup xs=>obtain⟨_,_,_,p⟩:=x;exact p.lt
 |dK kvs=>obtain⟨_,_,_,_,o,_,_,e,_⟩:=x;exact bE e
 |dT kvs=>obtain⟨_,_,_,_,o,_,_,e,_⟩:=x;exact bE e
 |set S n=>obtain⟨o,_,_,_,e,_⟩:=x;exact bE e
 |ins C dx fs=>obtain⟨_,_,_,e,_⟩:=x;exact bE e
 |own y=>obtain⟨_,e⟩:=x;exact bE e
 |xd fs=>obtain⟨_,⟨_,_,_,e,_⟩,_⟩:=x;exact bE e
 |yW lo hi=>obtain⟨_,_,_,e⟩:=x;exact bE e
 |aV ob u=>obtain⟨e,_⟩:=x;exact bE e
 |nG ps=>exact bE (show h.get? a=some _ from x)
 |met f y=>exact bE (show h.get? a=some _ from x)
 |ext φ=>obtain⟨_,⟨_,e⟩,_⟩:=x;exact bE e
theorem Paired.o8{α β:Type}{F G:α->β->Prop}:∀{l₁:List α} {l₂:List β},Paired F l₁ l₂->(∀a b,F a b->G a b)->Paired G l₁ l₂
 |_,_,.nil,_=>.nil
 |_,_,.cons r t,f=>.cons (f _ _ r) (Paired.o8 t f)
theorem aB.eG(x:aB P w H h a o)(k:∀b u,(b=a∨H b=some (.own a))->h.get? b=some u->h'.get? b=some u)
 (ho:∀b,H b=some (.own a)->H' b=some (.own a)) (ht:∀b xs,H b=some (.tup xs)->H' b=some (.tup xs)):aB P w H' h' a o:=by
 induction o with
 |lst xs=>obtain⟨z,ab,n,r,e⟩:=x;exact⟨z,ab,n,r,k _ _ (.inl rfl) e⟩
 |tup xs=>obtain⟨z,ab,r,ob,e,c⟩:=x;exact⟨z,ab,r,ob,k _ _ (.inl rfl) e,c⟩
 |dK kvs=>obtain⟨z,y,vs,r,ob,es,ep,e,c⟩:=x;exact⟨z,y,vs,r,ob,es,ep,k _ _ (.inl rfl) e,c⟩
 |dT kvs=>
  obtain⟨z,y,xs,r,ob,es,ep,e,c⟩:=x;exact⟨z,y,xs,Paired.o8 r λp q z=>⟨z.1,ht _ _ z.2.1,z.2.2⟩,ob,es,ep,k _ _ (.inl rfl) e,c⟩
 |set S n=>obtain⟨ob,es,ep,t,e,c⟩:=x;exact⟨ob,es,ep,t,k _ _ (.inl rfl) e,c⟩
 |ins C dx fs=>
  obtain⟨d,z,ne,e,mA,⟨od,es,ep,e2,c⟩,r⟩:=x;exact⟨ho _ d,z,ne,k _ _ (.inl rfl) e,mA,⟨od,es,ep,k _ _ (.inr d) e2,c⟩,r⟩
 |own y=>obtain⟨ob,e⟩:=x;exact⟨ob,k _ _ (.inl rfl) e⟩
 |xd fs=>obtain⟨mA,⟨od,es,ep,e,c⟩,r⟩:=x;exact⟨mA,⟨od,es,ep,k _ _ (.inl rfl) e,c⟩,r⟩
 |yW lo hi=>obtain⟨t,u,v,e⟩:=x;exact⟨t,u,v,k _ _ (.inl rfl) e⟩
 |aV ob u ih=>obtain⟨e,q⟩:=x;exact⟨k _ _ (.inl rfl) e,ih q⟩
 |nG ps=>
  have e:h.get? a=some { cls:=.none,data:=.fields ps }:=x;show h'.get? a=some { cls:=.none,data:=.fields ps };exact k a _ (.inl rfl) e
 |met f y=>
  have e:h.get? a=some (PySem.W.methodObj (.ref f) (.ref y)):=x;show h'.get? a=some (PySem.W.methodObj (.ref f) (.ref y));exact k a _ (.inl rfl) e
 |ext φ=>obtain⟨p,⟨o,e⟩,st⟩:=x;exact⟨st _ _ p λo q=>k _ _ (.inl rfl) q,⟨o,k _ _ (.inl rfl) e⟩,st⟩
theorem cz.lt(x:cz P w H h)(e:H a=some o):a<h.objs.size:=(x a o e).lt
theorem cz.fresh(x:cz P w H h)(e:h.objs.size<=a):H a=none:=by
 cases q:H a with
 |none=>rfl
 |some u=>exact bp (eR (x.lt q) e) (mE _)
theorem cz.kept(x:cz P w H h)(k:∀b u,h.get? b=some u->h'.get? b=some u):cz P w H h':=λa o e=>
 (x a o e).eG (λb u _ q=>k b u q) (λ_ q=>q) λ_ _ q=>q
theorem cz.laid(x:cz P w H h)(k:∀b u,h.get? b=some u->h'.get? b=some u)(hp:h.objs.size<=a)(new:aB P w (upd H a o) h' a o):cz P w (upd H a o) h':=λb u e=>by
 have hn:=x.fresh hp
 by_cases hb:b=a
 . subst hb;rw[c0]at e;cases e;exact new
 . rw[aD hb]at e
   exact(x b u e).eG (λc v _ q=>k c v q) (λc q=>by rw[aD (fb q hn)];exact q) λc xs q=>by rw[aD (fb q hn)];exact q
end
def Rd(H:Hp)(a:Addr)(u:HO):Prop:=H a=some u∨∃o,H a=some (.aV o u)
theorem Rd.ok{P:Program}{w:World}{H:Hp}{h:Heap}{a:Addr}{u:HO}(r:Rd H a u)(x:cz P w H h):aB P w H h a u:=by
 rcases r with r|⟨o,r⟩
 . exact x a u r
 . obtain⟨_,q⟩:=x a _ r
   exact q
noncomputable def sm:Option HO->Prop
 |some (.lst _)=>True
 |some (.dK _)=>True
 |some (.dT _)=>True
 |some (.set _ _)=>True
 |some (.ins _ _ _)=>True
 |some (.ext _)=>True
 |_=>False
section
variable {P:Program}{w:World}{H:Hp}{h h':Heap}{x e:Addr}{o':HO}
theorem cz.write(ok:cz P w H h)(mu:sm (H x))(he:e=x∨H e=some (.own x))(k:∀b u,b≠e->h.get? b=some u->h'.get? b=some u)(heo:∃u,h'.get? e=some u)
 (new:aB P w (upd H x o') h' x o'):cz P w (upd H x o') h':=λb u q=>by
 have nown:∀c y,H c=some (.own y)->c≠x:=λc y r z=>by subst z;rw[r]at mu;exact mu
 have ntup:∀c xs,H c=some (.tup xs)->c≠x:=λc xs r z=>by subst z;rw[r]at mu;exact mu
 by_cases hb:b=x
 . subst hb;rw[c0]at q;cases q;exact new
 . rw[aD hb]at q
   by_cases hbe:b=e
   . have q':H b=some (.own x):=by
      rcases he with z|z
      . exact bp (hbe.trans z) hb
      . rw[hbe];exact z
     rw[q]at q';cases q';obtain⟨v,hv⟩:=heo;exact⟨v,by rw[hbe];exact hv⟩
   . refine(ok b u q).eG (λc v hc r=>k c v ?_ r) (λc r=>by rw[aD (nown c b r)];exact r) λc xs r=>by rw[aD (ntup c xs r)];exact r
     rcases hc with rfl|hc
     . exact hbe
     . rintro rfl
       rcases he with z|z
       . exact nown c b hc z
       . rw[hc]at z;cases z;exact hb rfl
end
structure Un(fs ex:List Addr)(H H':Hp)(h h':Heap):Prop where
 keep:∀b o,h.get? b=some o->H b=none->b∉fs->b∉ex->h'.get? b=some o
 slot:∀b o,h.get? b=some o->H b=none->b∈fs->b∉ex->∃sl,h'.get? b=some { o with slots:=sl }
 free:∀b o,h.get? b=some o->H b=none->b∉ex->H' b=none
 there:∀b o,h.get? b=some o->b∉ex->∃o',h'.get? b=some o'
 bb:∀b xs,H b=some (.tup xs)->H' b=some (.tup xs)
 aI:∀b o u,H b=some (.aV o u)->H' b=some (.aV o u)
 d7:∀b ps,H b=some (.nG ps)->∃more,H' b=some (.nG (ps++more))
section
variable {fs fs' ex ex':List Addr}{H H1 H2:Hp}{h h1 h2 h':Heap}{a x e:Addr}{o:HO}
theorem Un.any(u:Un fs ex H H1 h h1){b:Addr}{ob:Obj}(q:h.get? b=some ob)(n:H b=none)(hx:b∉ex):∃sl,h1.get? b=some { ob with slots:=sl }:=by
 by_cases hb:b∈fs
 . exact u.slot b ob q n hb hx
 . exact⟨ob.slots,u.keep b ob q n hb hx⟩
theorem Un.kept(k:∀b u,h.get? b=some u->h'.get? b=some u):Un fs ex H H h h':=
 ⟨λb ob q _ _ _=>k b ob q,λb ob q _ _ _=>⟨ob.slots,k b ob q⟩,λ_ _ _ n _=>n,λb ob q _=>⟨ob,k b ob q⟩,λ_ _ q=>q,λ_ _ _ q=>q,λ_ ps q=>⟨#[],by rw[q];simp⟩⟩
theorem Un.refl:Un fs ex H H h h:=Un.kept λ_ _ q=>q
theorem Un.laid(k:∀b u,h.get? b=some u->h'.get? b=some u)(hp:h.objs.size<=a)(hn:H a=none):Un fs ex H (upd H a o) h h' where
 keep:=λb u q _ _ _=>k b u q
 slot:=λb u q _ _ _=>⟨u.slots,k b u q⟩
 free:=λb u q n _=>by rw[aD (cS (eR (bE q) hp))];exact n
 there:=λb u q _=>⟨u,k b u q⟩
 bb:=λb xs q=>by rw[aD (fb q hn)];exact q
 aI:=λb u xs q=>by rw[aD (fb q hn)];exact q
 d7:=λb ps q=>⟨#[],by rw[aD (fb q hn),q];simp⟩
theorem Un.write(mu:sm (H x))(he:e=x∨H e=some (.own x))(k:∀b u,b≠e->h.get? b=some u->h'.get? b=some u)(heo:∃u,h'.get? e=some u):Un fs ex H (upd H x o) h h':=by
 have hx:∀b,H b=none->b≠x:=λb n z=>by subst z;rw[n]at mu;exact mu
 have hb:∀b,H b=none->b≠e:=λb n z=>by
  subst z;rcases he with r|r
  . exact hx b n r
  . rw[n]at r;cases r
 have hm:∀b u,H b=some u->¬sm (some u)->b≠x:=λb u q nm z=>by subst z;rw[q]at mu;exact nm mu
 refine⟨λb u q n _ _=>k b u (hb b n) q,λb u q n _ _=>⟨u.slots,k b u (hb b n) q⟩,λb u q n _=>by rw[aD (hx b n)];exact n,λb u q _=>?_,
  λb xs q=>by rw[aD (hm b _ q λz=>z)];exact q,λb u xs q=>by rw[aD (hm b _ q λz=>z)];exact q,λb ps q=>⟨#[],by rw[aD (hm b _ q λz=>z),q];simp⟩⟩
 by_cases hbe:b=e
 . subst hbe;exact heo
 . exact⟨u,k b u hbe q⟩
end
noncomputable def yZ (h:Heap)(H:Hp):List Addr:=(List.range h.objs.size).filter λa=>(H a).isSome
noncomputable def ik (h:Heap)(H:Hp):Heap:=PySem.W.hideAll h (yZ h H)
theorem FL(h:Heap)(H:Hp):(ik h H).objs.size=h.objs.size:=PySem.W.hideAll_size _ _
theorem Ao{h:Heap}{H:Hp}{b:Addr}{o:Obj}(e:h.get? b=some o)(n:H b=none):(ik h H).get? b=some o:=
 PySem.W.hideAll_get _ e λhm=>by
  have q:(H b).isSome=true:=(dJ.mp hm).2;rw[n]at q;simp at q
theorem Hh{h:Heap}{H:Hp}{b:Addr}{o:Obj}(e:(ik h H).get? b=some o):h.get? b=some o/\H b=none:=by
 have e':h.get? b=some o:=PySem.W.of_hideAll (yZ h H) e;refine⟨e',?_⟩;cases q:H b with
 |none=>rfl
 |some x=>
  have hm:b∈yZ h H:=dJ.mpr ⟨jo.mpr (bE e'),by simp[q]⟩
  have z:(ik h H).get? b=none:=PySem.W.hideAll_none (yZ h H) hm;rw[z]at e;cases e
noncomputable def xE (g h:Heap)(L:Addr):aG:=(List.range h.objs.size).filterMap λa=>if a=L∨(g.get? a).isSome=true then none else(h.get? a).map λo=>(a,o)
theorem Q2{g h:Heap}{L a:Addr}{o:Obj}(h1:a≠L)(h2:g.get? a=none)(h3:h.get? a=some o):(a,o)∈xE g h L:=
 qm.mpr ⟨a,jo.mpr (bE h3),by simp[h1,h2,h3]⟩
theorem Qo{g h:Heap}{L:Addr}{p:Addr×Obj}(hp:p∈xE g h L):p.1≠L/\g.get? p.1=none/\h.get? p.1=some p.2:=by
 obtain⟨b,_,e⟩:=qm.mp hp;split at e
 . cases e
 . rename_i hn
   cases q:h.get? b with
   |none=>rw[q]at e;simp at e
   |some u=>
    rw[q]at e;simp only[Option.map_some,nK]at e;subst e;refine⟨λz=>hn (.inl z),?_,q⟩
    show g.get? b=none;cases r:g.get? b with
    |none=>rfl
    |some v=>exact(hn (.inr (by simp[r]))).elim
noncomputable def rest (g h:Heap)(L d:Addr):aG:=(xE g h L).filter λp=>decide (p.1≠d)
theorem GI{g h:Heap}{L d a:Addr}{o:Obj}(h1:a≠L)(h2:g.get? a=none)(h3:h.get? a=some o)(h4:a≠d):(a,o)∈rest g h L d:=
 dJ.mpr ⟨Q2 h1 h2 h3,eI h4⟩
theorem T8{g h:Heap}{L:Addr}:News g L h (xE g h L):=λp hp=>let⟨a,b,c⟩:=Qo hp;⟨c,a,b⟩
theorem Fd{g h h':Heap}{L d:Addr}{m:bj}(k:∀b o,g.get? b=some o->h.get? b=some o)(F:Fr g L h' m)(N:News g L h' (rest g h L d)):
 ∀b o,b≠L->b≠d->h.get? b=some o->h'.get? b=some o:=λb o h1 h2 e=>by
 cases q:g.get? b with
 |some u=>
  have:=k b u q;rw[e]at this;cases this;exact F.keep b _ q
 |none=>exact(N (b,o) (GI h1 q e h2)).1
structure Mod(K:ae)(mg:bj)(base:Heap):Prop where
 js:K.In base
 glob:base.Ns mainGlobals mg
 blt:∃mb,base.Ns builtinsNs mb/\∀x:Str,x≠"__name__"->mb x=bootBuiltins x
 nolimit:base.NoLimit
structure Cx where
 prog:Program
 w:World
 K:ae
 mg:bj
 base:Heap
 A:Around
 N:az
 s₀:Shared
 H₀:Hp
 env:Env
 outer:List Env
 stack:List Env
 ex:List Addr
 fn:Str->Bool
 calm:Bool
 pn:aG
 xe:aP
noncomputable def gX (l:List Env):List Addr:=l.filterMap (·.frame)
noncomputable abbrev Cx.fs (X:Cx):List Addr:=gX X.outer
def qx(sc:Scope)(x:Str):Prop:=sc.names.lookup x=some .local∨sc.names.lookup x=some .cell∨sc.names.lookup x=some .free
def Loc(sc:Scope)(x:Str):Prop:=sc.names.lookup x=some .local∨sc.names.lookup x=some .cell
def Look(env:Env)(h:Heap)(m:bj)(x:Str)(u:Value):Prop:=
 (env.kindOf x=some .local/\m x=some u)∨((env.kindOf x=some .cell∨env.kindOf x=some .free)/\∃c,env.cells.lookup x=some c/\h.IsCell c (some u))
structure Cx.Ok(X:Cx):Prop where
 mod:Mod X.K X.mg X.base
 kind:X.env.scope.kind= .function
 glob:X.env.globals=mainGlobals
 blt:X.env.builtins=builtinsNs
 above:X.s₀.heap.objs.size<=X.env.locals
 inj:∀x y c,X.env.cells.lookup x=some c->X.env.cells.lookup y=some c->x=y
 has:∀x,(X.env.kindOf x=some .cell∨X.env.kindOf x=some .free)->∃c,X.env.cells.lookup x=some c
 qz:∀x c,X.fn x=true->X.env.cells.lookup x=some c->X.s₀.heap.objs.size<=c
 hd:X.calm=true->X.A.handled=none
 frames:X.A.frames=some X.stack
 vm:X.stack=X.outer∨(X.stack=X.env::X.outer/\X.env.frame=some X.env.locals)
 sJ:∀b∈X.ex,b≠X.env.locals/\∀x c,X.env.cells.lookup x=some c->c≠b
 bs:∀b o,X.base.get? b=some o->X.s₀.heap.get? b=some o/\X.H₀ b=none
 iY:X.base.objs.size<=X.s₀.heap.objs.size
 g9:∀b o,X.base.get? b=some o->b∉X.ex
 gQ:∀b∈X.ex,b∉X.fs
 dh:X.s₀.heap.FunFrames X.base X.outer
 mK:∀b∈X.fs,X.H₀ b=none
structure Inv(X:Cx)(pins:aG)(σ:List (Option V))(H:Hp)(s:Shared):Prop where
 ok:X.Ok
 os:s.os=X.s₀.os
 bare:AllBare s.gens
 base:Un X.fs X.ex X.H₀ H X.s₀.heap s.heap
 loc:∃m,s.heap.Ns X.env.locals m/\∀(i:Nat) (x:Str) (v:V),X.N[i]? =some x->σ[i]? =some (some v)->qx X.env.scope x->∃u,RelV v u/\Look X.env s.heap m x u
 cell:∀x c,X.env.cells.lookup x=some c->∃v,s.heap.IsCell c v
 free:H X.env.locals=none
 bL:∀x c,X.env.cells.lookup x=some c->H c=none
 pin:∀p∈X.pn++pins,s.heap.get? p.1=some p.2/\H p.1=none/\p.1≠X.env.locals/\p.1∉X.fs/\∀v,p.2.data≠.cell v
 au:cz X.prog X.w H s.heap
 len:σ.length=X.N.length
section
variable {X:Cx}{pins:aG}{σ:List (Option V)}{H H':Hp}{s:Shared}{h':Heap}
theorem Cx.Ok.zR(ok:X.Ok){b:Addr}{o:Obj}(e:X.base.get? b=some o):b∉X.fs:=λhb=>by
 have:=(ok.dh.mem hb).1;rw[e]at this;cases this
theorem Inv.bs(I:Inv X pins σ H s):∀b o,X.base.get? b=some o->s.heap.get? b=some o/\H b=none:=λb o e=>
 ⟨I.base.keep b o (I.ok.bs b o e).1 (I.ok.bs b o e).2 (I.ok.zR e) (I.ok.g9 b o e),I.base.free b o (I.ok.bs b o e).1 (I.ok.bs b o e).2 (I.ok.g9 b o e)⟩
theorem Inv.bk(I:Inv X pins σ H s):∀b o,X.base.get? b=some o->s.heap.get? b=some o:=λb o e=>(I.bs b o e).1
theorem Inv.mod(I:Inv X pins σ H s):Mod X.K X.mg X.base:=I.ok.mod
theorem Inv.dj(I:Inv X pins σ H s):X.K.In s.heap:=I.ok.mod.js.keeps I.bk
theorem Inv.fr(I:Inv X pins σ H s):∃m,Fr X.base X.env.locals s.heap m:=
 let⟨m,hn,_⟩:=I.loc
 ⟨m,hn,I.bk,bG I.ok.iY I.ok.above⟩
theorem Inv.lt(I:Inv X pins σ H s):X.env.locals<s.heap.objs.size:=let⟨_,hn,_⟩:=I.loc;hn.lt
theorem Inv.sz(I:Inv X pins σ H s):X.s₀.heap.objs.size<=s.heap.objs.size:=bG I.ok.above (Nat.le_of_lt I.lt)
theorem Inv.sT(I:Inv X pins σ H s){a:Addr}(h:s.heap.objs.size<=a):a∉X.fs:=λhb=>by
 obtain⟨_,o,ho,_⟩:=I.ok.dh.mem hb;exact bp (eR (bE ho) (bG I.sz h)) (mE _)
theorem Inv.nY(I:Inv X pins σ H s):∀x c,X.env.cells.lookup x=some c->c≠X.env.locals:=λx c e z=>by
 obtain⟨v,o,ho,hd⟩:=I.cell x c e;obtain⟨m,⟨o',es,ep,ho',hd',_⟩,_⟩:=I.loc;rw[z,ho']at ho;cases ho;rw[hd']at hd;cases hd
theorem Inv.dh(I:Inv X pins σ H s):s.heap.FunFrames X.base X.outer:=by
 have all:∀(l:List Env),(∀b∈gX l,b∈X.fs)->X.s₀.heap.FunFrames X.base l->s.heap.FunFrames X.base l:=by
  intro l
  induction l with
  |nil=>intro _ _;trivial
  |cons env r ih=>
   intro hs hl;obtain⟨hk,⟨L,o,hf,hn,ho,hd⟩,hr⟩:=hl;have hL:L∈X.fs:=hs L (by unfold gX;rw[jH,hf];exact iA)
   obtain⟨sl,e⟩:=I.base.slot L o ho (I.ok.mK L hL) hL λz=>I.ok.gQ L z hL
   exact⟨hk,⟨L,_,hf,hn,e,hd⟩,ih (λb hb=>hs b (by unfold gX;rw[jH,hf];exact gk _ hb)) hr⟩
 exact all X.outer (λ_ hb=>hb) I.ok.dh
theorem Inv.stack(I:Inv X pins σ H s):s.heap.FunFrames X.base X.stack:=by
 rcases I.ok.vm with e|⟨e,hf⟩
 . rw[e];exact I.dh
 . rw[e]
   obtain⟨m,hn,_⟩:=I.loc;refine .cons (by rw[I.ok.kind];decide) hf hn ?_ I.dh
   exact Heap.get?_none_of_le (bG I.ok.iY I.ok.above)
theorem Inv.fu(I:Inv X pins σ H s):∀b∈gX X.stack,b∈X.env.locals::X.fs:=λb hb=>by
 rcases I.ok.vm with e|⟨e,hf⟩
 . rw[e]at hb;exact gk _ hb
 . rw[e]at hb
   unfold gX at hb;rw[jH,hf]at hb;exact hb
theorem Inv.fq(I:Inv X pins σ H s):∀b∈gX X.stack,H b=none:=λb hb=>by
 rcases cx.mp (I.fu b hb)with e|hb
 . rw[e];exact I.free
 . obtain⟨_,o,ho,_⟩:=I.ok.dh.mem hb
   exact I.base.free b o ho (I.ok.mK b hb) λz=>I.ok.gQ b z hb
theorem Inv.step{g':Array GenState}{t':Nat}{d':Drawn}{ch:List Addr}(I:Inv X pins σ H s)
 (hch:∀b∈ch,(b∈X.ex∨X.s₀.heap.objs.size<=b)/\b≠X.env.locals/\(∀x c,X.env.cells.lookup x=some c->c≠b)/\∀p∈X.pn++pins,p.1≠b)
 (keep:∀b o,b≠X.env.locals->b∉X.fs->b∉ch->s.heap.get? b=some o->H b=none->h'.get? b=some o)
 (slot:∀b o,b≠X.env.locals->b∈X.fs->b∉ch->s.heap.get? b=some o->H b=none->∃sl,h'.get? b=some { o with slots:=sl }) (free:∀b o,b∉ch->s.heap.get? b=some o->H b=none->H' b=none)
 (there:∀b o,b∉ch->s.heap.get? b=some o->∃o',h'.get? b=some o')
 (bb:∀b xs,H b=some (.tup xs)->H' b=some (.tup xs)) (aI:∀b o u,H b=some (.aV o u)->H' b=some (.aV o u)) (d7:∀b ps,H b=some (.nG ps)->∃more,H' b=some (.nG (ps++more)))
 (ns:∀m,s.heap.Ns X.env.locals m->h'.Ns X.env.locals m) (au:cz X.prog X.w H' h') (hg:AllBare g'):
 Inv X pins σ H' { s with heap:=h',gens:=g',drawn:=d',toks:=t' }:=by
 have neL:∀b o,X.s₀.heap.get? b=some o->b≠X.env.locals:=λb o e=>cS (eR (bE e) I.ok.above)
 have neC:∀b o,X.s₀.heap.get? b=some o->b∉X.ex->b∉ch:=λb o e hx hb=>by
  rcases(hch b hb).1 with z|z
  . exact hx z
  . exact bp (eR (bE e) z) (mE _)
 have cellK:∀x c,X.env.cells.lookup x=some c->∀v,s.heap.IsCell c v->h'.IsCell c v:=λx c e v ⟨o,ho,hd⟩=>by
  have nch:c∉ch:=λz=>(hch c z).2.2.1 x c e rfl
  by_cases hc:c∈X.fs
  . obtain⟨sl,q⟩:=slot c o (I.nY x c e) hc nch ho (I.bL x c e)
    exact⟨_,q,hd⟩
  . exact⟨o,keep c o (I.nY x c e) hc nch ho (I.bL x c e),hd⟩
 refine⟨I.ok,I.os,hg,⟨λb o e n hb hx=>?_,λb o e n hb hx=>?_,λb o e n hx=>?_,λb o e hx=>?_,λb xs e=>bb b xs (I.base.bb b xs e),λb o xs e=>aI b o xs (I.base.aI b o xs e),λb ps e=>?_⟩,?_,λx c e=>?_,?_,λx c e=>?_,λp hp=>?_,au,I.len⟩
 . exact keep b o (neL b o e) hb (neC b o e hx) (I.base.keep b o e n hb hx) (I.base.free b o e n hx)
 . obtain⟨sl,e1⟩:=I.base.slot b o e n hb hx
   obtain⟨sl',e2⟩:=slot b _ (neL b o e) hb (neC b o e hx) e1 (I.base.free b o e n hx);exact⟨sl',e2⟩
 . obtain⟨o',e1⟩:=I.base.there b o e hx
   exact free b o' (neC b o e hx) e1 (I.base.free b o e n hx)
 . obtain⟨o',e1⟩:=I.base.there b o e hx
   exact there b o' (neC b o e hx) e1
 . obtain⟨m1,e1⟩:=I.base.d7 b ps e
   obtain⟨m2,e2⟩:=d7 b _ e1;exact⟨m1++m2,by rw[e2,Array.append_assoc]⟩
 . obtain⟨m,hn,hl⟩:=I.loc
   refine⟨m,ns m hn,λi x v e1 e2 e3=>?_⟩
   obtain⟨u,r,l⟩:=hl i x v e1 e2 e3;refine⟨u,r,?_⟩;rcases l with l|⟨k,c,e,z⟩
   . exact .inl l
   . exact .inr ⟨k,c,e,cellK x c e _ z⟩
 . obtain⟨v,z⟩:=I.cell x c e
   exact⟨v,cellK x c e v z⟩
 . obtain⟨m,⟨o,_,_,ho,_⟩,_⟩:=I.loc
   exact free _ o (λz=>(hch _ z).2.1 rfl) ho I.free
 . obtain⟨v,o,ho,hd⟩:=I.cell x c e
   exact free c o (λz=>(hch c z).2.2.1 x c e rfl) ho (I.bL x c e)
 . obtain⟨e,n,ne,nf,d⟩:=I.pin p hp
   have nch:p.1∉ch:=λz=>(hch p.1 z).2.2.2 p hp rfl
   exact⟨keep p.1 p.2 ne nf nch e n,free p.1 p.2 nch e n,ne,nf,d⟩
theorem Inv.un{t':Nat}(I:Inv X pins σ H s)(u:Un X.fs [] H H' s.heap h')(au:cz X.prog X.w H' h'):Inv X pins σ H' { s with heap:=h',toks:=t' }:=by
 obtain⟨m,⟨o,es,ep,ho,r⟩,_⟩:=id I.loc;obtain⟨sl,hL⟩:=u.any ho I.free (by simp)
 exact I.step (g':=s.gens) (d':=s.drawn) (ch:=[]) (λ_ z=>nomatch z) (λb o _ hb _ e n=>u.keep b o e n hb (by simp)) (λb o _ hb _ e n=>u.slot b o e n hb (by simp)) (λb o _ e n=>u.free b o e n (by simp)) (λb o _ e=>u.there b o e (by simp)) u.bb u.aI u.d7 (λm' hm=>by
  obtain⟨o',es',ep',ho',r'⟩:=hm;rw[ho]at ho';cases ho';exact⟨_,es',ep',hL,r'⟩) au I.bare
theorem Inv.call{g':Array GenState}{t':Nat}{d':Drawn}{ch:List Addr}(I:Inv X pins σ H s)(u:Un (gX X.stack) ch H H' s.heap h')(au:cz X.prog X.w H' h')(hg:AllBare g')
 (hch:∀b∈ch,(b∈X.ex∨X.s₀.heap.objs.size<=b)/\b≠X.env.locals/\(∀x c,X.env.cells.lookup x=some c->c≠b)/\∀p∈X.pn++pins,p.1≠b):
 Inv X pins σ H' { s with heap:=h',gens:=g',drawn:=d',toks:=t' }:=by
 obtain⟨m,⟨o,es,ep,ho,r⟩,_⟩:=id I.loc;obtain⟨sl,hL⟩:=u.any ho I.free λz=>(hch _ z).2.1 rfl
 exact I.step (ch:=ch) hch (λb o hL hb hc e n=>u.keep b o e n (λz=>(cx.mp (I.fu b z)).elim hL hb) hc) (λb o _ _ hc e n=>u.any e n hc) (λb o hc e n=>u.free b o e n hc) (λb o hc e=>u.there b o e hc) u.bb u.aI u.d7 (λm' hm=>by
  obtain⟨o',es',ep',ho',r'⟩:=hm;rw[ho]at ho';cases ho';exact⟨_,es',ep',hL,r'⟩) au hg
theorem Inv.turned{t':Nat}{it:Addr}(I:Inv X pins σ H s)(k:∀b o,b≠it->s.heap.get? b=some o->h'.get? b=some o)(hn:H it=none)(hL:it≠X.env.locals)
 (h1:it∈X.ex∨X.s₀.heap.objs.size<=it) (h2:∀x c,X.env.cells.lookup x=some c->c≠it) (h3:∀p∈X.pn++pins,p.1≠it):Inv X pins σ H { s with heap:=h',toks:=t' }:=by
 have nit:∀b u,H b=some u->b≠it:=λb u e z=>by rw[z,hn]at e;cases e
 refine I.step (g':=s.gens) (d':=s.drawn) (ch:=[it]) (λb hb=>?_) (λb o _ _ hc e _=>k b o (λz=>hc (by simp[z])) e) (λb o _ _ hc e _=>⟨o.slots,k b o (λz=>hc (by simp[z])) e⟩) (λ_ _ _ _ n=>n)
  (λb o hc e=>⟨o,k b o (λz=>hc (by simp[z])) e⟩) (λ_ _ e=>e) (λ_ _ _ e=>e) (λb ps e=>⟨#[],by rw[e];simp⟩) (λm hm=>?_) (λb u e=>?_) I.bare
 . have e:b=it:=by simpa using hb
   subst e;exact⟨h1,hL,h2,h3⟩
 . obtain⟨o,es,ep,ho,r⟩:=hm
   exact⟨o,es,ep,k _ o (bC hL) ho,r⟩
 . refine(I.au b u e).eG (λc v hc q=>k c v ?_ q) (λ_ q=>q) λ_ _ q=>q
   rcases hc with z|z
   . rw[z];exact nit b u e
   . exact nit c _ z
theorem Inv.tok(I:Inv X pins σ H s)(t:Nat):Inv X pins σ H { s with toks:=t }:=I.un (h':=s.heap) (t':=t) Un.refl I.au
theorem Inv.kept{t':Nat}(I:Inv X pins σ H s)(k:∀b u,s.heap.get? b=some u->h'.get? b=some u):Inv X pins σ H { s with heap:=h',toks:=t' }:=I.un (Un.kept k) (I.au.kept k)
theorem Inv.laid{a:Addr}{o:HO}{t':Nat}(I:Inv X pins σ H s)(k:∀b u,s.heap.get? b=some u->h'.get? b=some u)(hp:s.heap.objs.size<=a)(new:aB X.prog X.w (upd H a o) h' a o):
 Inv X pins σ (upd H a o) { s with heap:=h',toks:=t' }:=I.un (Un.laid k hp (I.au.fresh hp)) (I.au.laid k hp new)
theorem Inv.write{x e:Addr}{o:HO}{t':Nat}(I:Inv X pins σ H s)(mu:sm (H x))(he:e=x∨H e=some (.own x))(k:∀b u,b≠e->s.heap.get? b=some u->h'.get? b=some u)(heo:∃u,h'.get? e=some u)
 (new:aB X.prog X.w (upd H x o) h' x o):Inv X pins σ (upd H x o) { s with heap:=h',toks:=t' }:=I.un (Un.write mu he k heo) (I.au.write mu he k heo new)
theorem Inv.et{pins':aG}(I:Inv X pins σ H s)(h:∀p∈pins',s.heap.get? p.1=some p.2/\H p.1=none/\p.1≠X.env.locals/\p.1∉X.fs/\∀v,p.2.data≠.cell v):Inv X pins' σ H s:=
 ⟨I.ok,I.os,I.bare,I.base,I.loc,I.cell,I.free,I.bL,λp hp=>(dM.mp hp).elim (λz=>I.pin p (y9 _ z)) (h p),I.au,I.len⟩
theorem GF{N:az}(hN:N.Nodup){i j:Nat}{x:Str}(a:N[i]? =some x)(b:N[j]? =some x):i=j:=by
 obtain⟨h1,e1⟩:=jE.mp a;obtain⟨h2,e2⟩:=jE.mp b;exact(List.getElem_inj hN).mp (e1.trans e2.symm)
theorem FU{M:Model}{A:Around}{E:aP}{i:Nat}{x:Str}{v:V}{u:Value}{Q:Unit->Shared->Prop}(I:Inv X pins σ H s)(hN:X.N.Nodup)(hi:X.N[i]? =some x)(hx:Loc X.env.scope x)(r:RelV v u)
 (h:∀s',Inv X pins (σ.set i (some v)) H s'->(∃a,Heap.SameBut a s.heap s'.heap/\(a=X.env.locals∨X.env.cells.lookup x=some a))->Q () s') (hf:X.fn x=true∨X.env.scope.names.lookup x=some .local):wpAny M A (storeName X.env x u) Q E s:=by
 obtain⟨m,hn,hl⟩:=id I.loc;have hcls:(X.env.scope.kind== .class||(X.env.scope.kind== .module&&X.env.locals != X.env.globals))=false:=by rw[I.ok.kind];rfl
 have hiσ:i<σ.length:=by rw[I.len];exact(jE.mp hi).1
 have nY:=I.nY;have tracked:∀{a:Addr} {h':Heap},(∃o,s.heap.get? a=some o/\H a=none)->Heap.SameBut a s.heap h'->cz X.prog X.w H h':=λ{a h'} ha hs b ob e=>by
  obtain⟨_,_,hfree⟩:=ha;refine(I.au b ob e).eG (λc w' hc q=>(hs.2 c ?_).trans q) (λ_ q=>q) λ_ _ q=>q
  rintro rfl;rcases hc with rfl|hc
  . rw[hfree]at e;cases e
  . rw[hfree]at hc;cases hc
 rcases hx with hk|hk
 . refine wpAny_storeName_local hk hn (λh' hn' hs=>?_) hcls
   obtain⟨oL,_,_,hoL,_⟩:=id hn;refine h _ ⟨I.ok,I.os,I.bare,⟨λb o e n hb hx=>?_,λb o e n hb hx=>?_,I.base.free,λb o e hx=>?_,I.base.bb,I.base.aI,I.base.d7⟩,⟨_,hn',λj y v' e1 e2 e3=>?_⟩,λy c e=>?_,I.free,I.bL,λp hp=>?_,tracked ⟨oL,hoL,I.free⟩ hs,by simpa using I.len⟩ ⟨_,hs,.inl rfl⟩
   . exact(hs.2 b (cS (eR (bE e) I.ok.above))).trans (I.base.keep b o e n hb hx)
   . obtain⟨sl,e1⟩:=I.base.slot b o e n hb hx
     exact⟨sl,(hs.2 b (cS (eR (bE e) I.ok.above))).trans e1⟩
   . obtain⟨o',e1⟩:=I.base.there b o e hx
     exact⟨o',(hs.2 b (cS (eR (bE e) I.ok.above))).trans e1⟩
   . by_cases hj:j=i
     . subst hj
       rw[hi]at e1;cases e1;rw[List.getElem?_set_self hiσ]at e2;cases e2;exact⟨u,r,.inl ⟨hk,by simp⟩⟩
     . rw[List.getElem?_set_ne (bC hj)]at e2
       obtain⟨u',r',q⟩:=hl j y v' e1 e2 e3;refine⟨u',r',?_⟩;rcases q with⟨k,e⟩|⟨k,c,e,z⟩
       . refine .inl ⟨k,?_⟩
         have:y≠x:=λe=>hj (GF hN e1 (e ▸ hi))
         simp[this,e]
       . exact .inr ⟨k,c,e,z.sameBut hs (nY y c e)⟩
   . obtain⟨w',z⟩:=I.cell y c e
     exact⟨w',z.sameBut hs (nY y c e)⟩
   . obtain⟨e,n,ne,nf,d⟩:=I.pin p hp
     exact⟨(hs.2 p.1 ne).trans e,n,ne,nf,d⟩
 . have hfn:X.fn x=true:=by
    rcases hf with z|z
    . exact z
    . rw[z]at hk;cases hk
   obtain⟨c,hc⟩:=I.ok.has x (.inl hk);obtain⟨w',z⟩:=I.cell x c hc;refine wpAny_storeName_cell I.ok.kind hk hc z (λh' hc' hs=>?_)
   obtain⟨oc,hoc,hocd⟩:=id z;refine h { s with heap:=h' } ⟨I.ok,I.os,I.bare,⟨λb o e n hb hx=>?_,λb o e n hb hx=>?_,I.base.free,λb o e hx=>?_,I.base.bb,I.base.aI,I.base.d7⟩,⟨m,hn.sameBut hs (bC (nY x c hc)),λj y v' e1 e2 e3=>?_⟩,λy c' e=>?_,I.free,I.bL,λp hp=>?_,tracked ⟨oc,hoc,I.bL x c hc⟩ hs,by simpa using I.len⟩ ⟨c,hs,.inr hc⟩
   . exact(hs.2 b (cS (eR (bE e) (I.ok.qz x c hfn hc)))).trans (I.base.keep b o e n hb hx)
   . obtain⟨sl,e1⟩:=I.base.slot b o e n hb hx
     exact⟨sl,(hs.2 b (cS (eR (bE e) (I.ok.qz x c hfn hc)))).trans e1⟩
   . obtain⟨o',e1⟩:=I.base.there b o e hx
     exact⟨o',(hs.2 b (cS (eR (bE e) (I.ok.qz x c hfn hc)))).trans e1⟩
   . by_cases hj:j=i
     . subst hj
       rw[hi]at e1;cases e1;rw[List.getElem?_set_self hiσ]at e2;cases e2;exact⟨u,r,.inr ⟨.inl hk,c,hc,hc'⟩⟩
     . rw[List.getElem?_set_ne (bC hj)]at e2
       obtain⟨u',r',q⟩:=hl j y v' e1 e2 e3;refine⟨u',r',?_⟩;rcases q with q|⟨k,c',e,z'⟩
       . exact .inl q
       . refine .inr ⟨k,c',e,z'.sameBut hs ?_⟩
         rintro rfl;exact hj (GF hN e1 (I.ok.inj _ _ _ e hc ▸ hi))
   . by_cases hcc:c'=c
     . subst hcc;exact⟨_,hc'⟩
     . obtain⟨w2,z2⟩:=I.cell y c' e
       exact⟨w2,z2.sameBut hs hcc⟩
   . obtain⟨e,n,ne,nf,d⟩:=I.pin p hp
     refine⟨(hs.2 p.1 ?_).trans e,n,ne,nf,d⟩;intro q;rw[q,hoc]at e;have q':oc=p.2:=dP e;exact d w' (by rw[<-q'];exact hocd)
theorem xt{M:Model}{A:Around}{E:aP}{i:Nat}{x:Str}{v:V}{u:Value}{Q:Unit->Shared->Prop}(I:Inv X pins σ H s)(hN:X.N.Nodup)(hi:X.N[i]? =some x)(hx:Loc X.env.scope x)(r:RelV v u)
 (h:∀s',Inv X pins (σ.set i (some v)) H s'->Q () s') (hf:X.fn x=true∨X.env.scope.names.lookup x=some .local):wpAny M A (storeName X.env x u) Q E s:=
 FU I hN hi hx r (λs' I' _=>h s' I') hf
theorem Inv.sF{s':Shared}{ch:List Addr}(I:Inv X pins σ H s)(ho:s'.os=s.os)(u:Un (gX X.stack) ch H H' s.heap s'.heap)(au:cz X.prog X.w H' s'.heap)(hg:AllBare s'.gens)
 (hch:∀b∈ch,(b∈X.ex∨X.s₀.heap.objs.size<=b)/\b≠X.env.locals/\(∀x c,X.env.cells.lookup x=some c->c≠b)/\∀p∈X.pn++pins,p.1≠b):Inv X pins σ H' s':=by
 obtain⟨h',g',d',t',o'⟩:=s';have e:o'=s.os:=ho;subst e;exact I.call (g':=g') (t':=t') (d':=d') u au hg hch
end
abbrev XK:=Value->Option Addr->Hp->Prop
abbrev St:=List (Option V)
abbrev VK:=V->Hp->Prop
abbrev TE:=St->Hp->VK->Prop
abbrev TT:=St->Hp->(Bool->Hp->Prop)->Prop
abbrev TA:=St->Hp->(LV->Hp->Prop)->Prop
structure Ends where
 nx:St->Hp->Prop
 rt:VK
 bk:St->Hp->Prop:=λ_ _=>False
 ct:St->Hp->Prop:=λ_ _=>False
abbrev TS:=Ends->St->Hp->Prop
def EP(X:Cx)(pins:aG)(σ:St)(Q:VK)(u:Value)(s':Shared):Prop:=∃v H',Inv X pins σ H' s'/\RelV v u/\Q v H'
def TP(X:Cx)(pins:aG)(σ:St)(Q:Bool->Hp->Prop)(b:Bool)(s':Shared):Prop:=∃H',Inv X pins σ H' s'/\Q b H'
def AP(X:Cx)(pins:aG)(σ:St)(Q:LV->Hp->Prop)(us:aq)(s':Shared):Prop:=∃vs H',Inv X pins σ H' s'/\Vals vs us/\Q vs H'
def SP(X:Cx)(pins:aG)(D:Ends)(f:Flow)(s':Shared):Prop:=
 match f with
 | .next=>∃σ' H',Inv X pins σ' H' s'/\D.nx σ' H'
 | .brk=>∃σ' H',Inv X pins σ' H' s'/\D.bk σ' H'
 | .cont=>∃σ' H',Inv X pins σ' H' s'/\D.ct σ' H'
 | .ret u=>∃v σ' H',Inv X pins σ' H' s'/\RelV v u/\D.rt v H'
def PE(X:Cx)(e:Expr)(t:TE):Prop:=
 ∀(pins:aG) (s:Shared) (σ:St) (H:Hp) (Q:VK),Inv X pins σ H s->t σ H Q->wpAny (model X.prog X.w) X.A (eval e X.env) (EP X pins σ Q) X.xe s
def PT(X:Cx)(e:Expr)(t:TT):Prop:=
 ∀(pins:aG) (s:Shared) (σ:St) (H:Hp) (Q:Bool->Hp->Prop),Inv X pins σ H s->t σ H Q->wpAny (model X.prog X.w) X.A (isTrue e X.env (eval e X.env)) (TP X pins σ Q) X.xe s
def PW(X:Cx)(e:Expr)(t:TT):Prop:=
 ∀(whole:Sem Value) (pins:aG) (s:Shared) (σ:St) (H:Hp) (Q:Bool->Hp->Prop),Inv X pins σ H s->t σ H Q->wpAny (model X.prog X.w) X.A (isTrue e X.env whole) (TP X pins σ Q) X.xe s
theorem PW.pt{X:Cx}{e:Expr}{t:TT}(h:PW X e t):PT X e t:=h _
def PA(X:Cx)(es:aX)(t:TA):Prop:=
 ∀(pos:Pos) (pins:aG) (s:Shared) (σ:St) (H:Hp) (Q:LV->Hp->Prop),Inv X pins σ H s->t σ H Q->wpAny (model X.prog X.w) X.A (spliced (backTo pos (starEach es X.env))) (AP X pins σ Q) X.xe s
def PS(X:Cx)(st:Stmt)(t:TS):Prop:=
 ∀(pins:aG) (s:Shared) (σ:St) (H:Hp) (D:Ends),Inv X pins σ H s->t D σ H->wpAny (model X.prog X.w) X.A (exec st X.env) (SP X pins D) X.xe s
def fx(X:Cx)(st:List Stmt)(t:TS):Prop:=
 ∀(pins:aG) (s:Shared) (σ:St) (H:Hp) (D:Ends),Inv X pins σ H s->t D σ H->wpAny (model X.prog X.w) X.A (execs st X.env) (SP X pins D) X.xe s
theorem ay{α:Type}{t:Sem α}{Q Q':α->Shared->Prop}{M:Model}{A:Around}{E:aP}{s:Shared}(h:wpAny M A t Q E s)(hQ:∀a s,Q a s->Q' a s):wpAny M A t Q' E s:=gq h hQ λ_ _ x=>x
section
variable {X:Cx}
def OX(i:Nat):TE:=λσ H Q=>∃v,σ[i]? =some (some v)/\Q v H
def tC(v:V):TE:=λ_ H Q=>Q v H
theorem Wn{i:Nat}{x:Str}{pos:Pos}(hN:X.N[i]? =some x)(hv:qx X.env.scope x)(hd:(x==("__debug__":Str))=false:=by decide)(hcd:(x==("__classdict__":Str))=false:=by decide):PE X (.Name x pos) (OX i):=by
 intro pins s σ H Q I h;obtain⟨v,e,h⟩:=h;obtain⟨m,hn,hl⟩:=I.loc;obtain⟨u,r,l⟩:=hl i x v hN e hv;have fin:EP X pins σ Q u s:=⟨v,H,I,r,h⟩;rcases l with⟨hk,hm⟩|⟨hk,c,hc,bz⟩
 . exact wpAny_Name (wpAny_loadName_local I.ok.kind hk hn hm fin) hd
 . rcases hk with hk|hk
   . exact wpAny_Name (wpAny_loadName_cell I.ok.kind hk hc bz fin) hd
   . exact wpAny_Name (wpAny_loadName_free I.ok.kind hk hc bz fin hcd) hd
theorem Wu{i j pos}:PE X (.Constant (.int i) j pos) (tC (.int i)):=λ_ _ _ H _ I h=>wpAny_Constant_int ⟨.int i,H,I.tok _,⟨_,rfl⟩,h⟩
theorem YL{b j pos}:PE X (.Constant (.bool b) j pos) (tC (.bl b)):=λ_ _ _ H _ I h=>Constant_bool ⟨.bl b,H,I,rfl,h⟩
theorem Wt{j pos}:PE X (.Constant .none j pos) (tC .ao):=λ_ _ _ H _ I h=>Constant_none ⟨.ao,H,I,rfl,h⟩
theorem Wq{x j pos}:PE X (.Constant (.str x) j pos) (tC (.str x)):=λ_ _ _ H _ I h=>Calls.Constant_str ⟨.str x,H,I.tok _,⟨_,rfl⟩,h⟩
def Gl(X:Cx)(x:Str):Prop:=X.env.kindOf x=some .globalImplicit
theorem mP{E:aP}{pins:aG}{s:Shared}{σ:St}{H:Hp}{x:Str}{u:Value}{pos:Pos}{Q:aP}(I:Inv X pins σ H s)(hg:Gl X x)(hm:X.mg x=some u)(h:Q u s)
 (hd:(x==("__debug__":Str))=false:=by decide):wpAny (model X.prog X.w) X.A (eval (.Name x pos) X.env) Q E s:=
 Calls.Name_function_global I.ok.kind hg (Calls.loadGlobal_global (by rw[I.ok.glob];exact I.mod.glob.keeps I.bk) hm h) hd
theorem m6{E:aP}{pins:aG}{s:Shared}{σ:St}{H:Hp}{x:Str}{u:Value}{pos:Pos}{Q:aP}(I:Inv X pins σ H s)(hg:Gl X x)(hm:X.mg x=none)(hv:bootBuiltins x=some u)(h:Q u s)
 (hn:x≠"__name__":=by decide) (hd:(x==("__debug__":Str))=false:=by decide):wpAny (model X.prog X.w) X.A (eval (.Name x pos) X.env) Q E s:=by
 obtain⟨mb,h1,h2⟩:=I.mod.blt;exact Calls.Name_function_global I.ok.kind hg (Calls.loadGlobal_builtin (by rw[I.ok.glob];exact I.mod.glob.keeps I.bk) hm (by rw[I.ok.blt];exact h1.keeps I.bk) ((h2 x hn).trans hv) h) hd
theorem UP{x:Str}{v:V}{u:Value}{pos:Pos}(hg:Gl X x)(hm:X.mg x=some u)(r:RelV v u)(hd:(x==("__debug__":Str))=false:=by decide):PE X (.Name x pos) (tC v):=
 λ_ _ _ H _ I h=>mP I hg hm ⟨v,H,I,r,h⟩ hd
theorem US{x:Str}{v:V}{u:Value}{pos:Pos}(hg:Gl X x)(hm:X.mg x=none)(hv:bootBuiltins x=some u)(r:RelV v u)(hn:x≠"__name__":=by decide)(hd:(x==("__debug__":Str))=false:=by decide):PE X (.Name x pos) (tC v):=
 λ_ _ _ H _ I h=>m6 I hg hm hv ⟨v,H,I,r,h⟩ hn hd
variable {a b:Expr}{ta tb:TE}{pos:Pos}
def PC(X:Cx)(op:CmpOp)(a b:Expr)(t:TE):Prop:=
 ∀(pins:aG) (s:Shared) (σ:St) (H:Hp) (Q:VK),Inv X pins σ H s->t σ H Q->
  wpAny (model X.prog X.w) X.A (eval a X.env) (λv s₁=>wpAny (model X.prog X.w) X.A (eval b X.env) (λu s₂=>wpAny (model X.prog X.w) X.A (compareOp op v u) (EP X pins σ Q) X.xe s₂) X.xe s₁) X.xe s
theorem qiP(b:Expr){op:CmpOp}(h:op≠.In)(h2:op≠.NotIn):behindInMarks op b=false:=by
 have e1:(op==CmpOp.In)=false:=by cases op<;>first|rfl|exact bp rfl h
 have e2:(op==CmpOp.NotIn)=false:=by cases op<;>first|rfl|exact bp rfl h2
 cases b<;>simp[behindInMarks,e1,e2]
def tB(t:TE):TT:=λσ H Q=>t σ H λx H1=>∃c,x= .bl c/\Q c H1
theorem IM{op:CmpOp}{t:TE}(h:PC X op a b t)(h1:behindInMarks op b=false):PE X (.Compare a [op] [b] pos) t:=λpins s σ H Q I hw=>wpAny_Compare1 (h pins s σ H Q I hw) h1
theorem xW{op:CmpOp}{t:TE}(h:PC X op a b t)(h1:behindInMarks op b=false):PT X (.Compare a [op] [b] pos) (tB t):=by
 intro pins s σ H Q I hw;refine wpAny_isTrue_Compare1 (ay (h pins s σ H _ I hw) λv s1 h1=>ay h1 λu s2 h2=>ay h2 λc s3 zz=>?_) h1;obtain⟨x,H1,I1,r1,q1⟩:=zz
 obtain⟨d,rfl,q⟩:=q1;cases r1;exact jB ⟨H1,I1,q⟩
theorem WS{e:Expr}{t:TE}(h:PE X e t)(he:∀whole,isTrue e X.env whole=(do let v<-whole;standAt e.pos;holding [v] (truthy v)):=by intro _;rfl):PT X e (tB t):=by
 intro pins s σ H Q I hw;refine isTrue_plain (ay (h pins s σ H _ I hw) λv s1 zz=>?_) (he _);obtain⟨x,H1,I1,r1,q1⟩:=zz
 obtain⟨d,rfl,q⟩:=q1;cases r1;exact jB ⟨H1,I1,q⟩
variable {tA tB':TT}{rest:aX}
def OL(t u:TT):TT:=λσ H Q=>t σ H λc H1=>if c=true then u σ H1 Q else Q false H1
def Z1(t u:TT):TT:=λσ H Q=>t σ H λc H1=>if c=true then Q true H1 else u σ H1 Q
def O4(t:TT):TT:=λσ H Q=>t σ H λc H1=>Q (!c) H1
theorem Vl(ha:PT X a tA):PW X (.BoolOp .And [a] pos) tA:=by
 intro wh pins s σ H Q I h;refine isTrue_and (ay (ha pins s σ H Q I h) λc s1 e=>?_)
 cases c with
 |true=>exact isTrue_and_nil e
 |false=>exact e
theorem WO(ha:PT X a tA):PW X (.BoolOp .Or [a] pos) tA:=by
 intro wh pins s σ H Q I h;refine isTrue_or (ay (ha pins s σ H Q I h) λc s1 e=>?_)
 cases c with
 |false=>exact isTrue_or_nil e
 |true=>exact e
theorem WQ(ha:PT X a tA)(hb:PW X (.BoolOp .And (b::rest) pos) tB'):PW X (.BoolOp .And (a::b::rest) pos) (OL tA tB'):=by
 intro wh pins s σ H Q I h;refine isTrue_and (ay (ha pins s σ H _ I h) λc s1 zz=>?_);obtain⟨H1,I1,q1⟩:=zz
 cases c with
 |true=>exact hb wh pins s1 σ H1 Q I1 q1
 |false=>exact⟨H1,I1,q1⟩
theorem YB(ha:PT X a tA)(hb:PW X (.BoolOp .Or (b::rest) pos) tB'):PW X (.BoolOp .Or (a::b::rest) pos) (Z1 tA tB'):=by
 intro wh pins s σ H Q I h;refine isTrue_or (ay (ha pins s σ H _ I h) λc s1 zz=>?_);obtain⟨H1,I1,q1⟩:=zz
 cases c with
 |true=>exact⟨H1,I1,q1⟩
 |false=>exact hb wh pins s1 σ H1 Q I1 q1
theorem WT(ha:PT X a tA):PT X (.UnaryOp .Not a pos) (O4 tA):=by
 intro pins s σ H Q I h;exact isTrue_not (ha pins s σ H (λc H1=>Q (!c) H1) I h)
def X9(ta tb:TE):TE:=λσ H Q=>ta σ H λx H1=>∃c,x= .bl c/\if c=true then tb σ H1 Q else Q (.bl false) H1
def O3(ta tb:TE):TE:=λσ H Q=>ta σ H λx H1=>∃c,x= .bl c/\if c=true then Q (.bl true) H1 else tb σ H1 Q
def XY(ta:TE):TE:=λσ H Q=>ta σ H λx H1=>∃c,x= .bl c/\Q (.bl (!c)) H1
theorem Wr{op}{t:TE}(h:PE X a t):PE X (.BoolOp op [a] pos) t:=λpins s σ H Q I hw=>BoolOp_one (h pins s σ H Q I hw)
theorem Ww(ha:PE X a ta)(hb:PE X (.BoolOp .And (b::rest) pos) tb):PE X (.BoolOp .And (a::b::rest) pos) (X9 ta tb):=by
 intro pins s σ H Q I h;refine BoolOp_and (ay (ha pins s σ H _ I h) λv s1 zz=>?_);obtain⟨x,H1,I1,r1,q1⟩:=zz
 obtain⟨c,rfl,q1⟩:=q1;cases r1;refine jB ?_;cases c with
 |true=>exact hb pins s1 σ H1 Q I1 q1
 |false=>exact⟨.bl false,H1,I1,rfl,q1⟩
theorem YI(ha:PE X a ta)(hb:PE X (.BoolOp .Or (b::rest) pos) tb):PE X (.BoolOp .Or (a::b::rest) pos) (O3 ta tb):=by
 intro pins s σ H Q I h;refine BoolOp_or (ay (ha pins s σ H _ I h) λv s1 zz=>?_);obtain⟨x,H1,I1,r1,q1⟩:=zz
 obtain⟨c,rfl,q1⟩:=q1;cases r1;refine jB ?_;cases c with
 |false=>exact hb pins s1 σ H1 Q I1 q1
 |true=>exact⟨.bl true,H1,I1,rfl,q1⟩
theorem Ws(ha:PE X a ta):PE X (.UnaryOp .Not a pos) (XY ta):=by
 intro pins s σ H Q I h;refine UnaryOp_ (ay (ha pins s σ H _ I h) λv s1 zz=>?_);obtain⟨x,H1,I1,r1,q1⟩:=zz
 obtain⟨c,rfl,q1⟩:=q1;cases r1;exact not_of (jB ⟨.bl (!c),H1,I1,rfl,q1⟩)
def Z0(t:TT)(ta tb:TE):TE:=λσ H Q=>t σ H λc H1=>if c=true then ta σ H1 Q else tb σ H1 Q
theorem SS{c:Expr}(hc:PT X c tA)(ha:PE X a ta)(hb:PE X b tb):PE X (.IfExp c a b pos) (Z0 tA ta tb):=by
 intro pins s σ H Q I h;refine wpAny_IfExp (ay (hc pins s σ H _ I h) λd s1 zz=>?_);obtain⟨H1,I1,q1⟩:=zz
 cases d with
 |true=>exact ha pins s1 σ H1 Q I1 q1
 |false=>exact hb pins s1 σ H1 Q I1 q1
end
def cg(K:ae)(H:Hp)(a:Addr)(xs:LV):Prop:=
 Rd H a (.lst xs)∨
  ∃(o:Obj) (ab:Array Value) (n:Nat),K.lookup a=some o/\o.cls= .type "list"/\o.dict=none/\o.data= .seq ab n/\ab.size<=sizeLine/\Vals xs ab.toList
def bP(K:ae)(H:Hp)(a:Addr)(xs:LV):Prop:=
 Rd H a (.tup xs)∨
  ∃(o:Obj) (ab:Array Value) (n:Nat),K.lookup a=some o/\o.cls= .type "tuple"/\o.data= .seq ab n/\ab.size<=sizeLine/\Vals xs ab.toList
noncomputable def Qb:Value->Option V
 | .none=>some .ao
 | .bool b=>some (.bl b)
 | .int i _=>some (.int i)
 | .str x _=>some (.str x)
 | .bytes b _=>some (.vP b)
 | .float b _=>some (.k9 b)
 | .ref a=>some (.ref a)
 | .type n=>some (.ty n)
 |_=>none
theorem RelV.abs{x:V}{u:Value}(r:RelV x u):Qb u=some x:=by
 cases x with
 |ao=>cases r;rfl
 |bl _=>cases r;rfl
 |int _=>obtain⟨t,rfl⟩:=r;rfl
 |str _=>obtain⟨t,rfl⟩:=r;rfl
 |vP _=>obtain⟨t,rfl⟩:=r;rfl
 |k9 _=>obtain⟨t,rfl⟩:=r;rfl
 |ref _=>cases r;rfl
 |ty _=>cases r;rfl
theorem RelV.inj{x y:V}{u:Value}(r:RelV x u)(q:RelV y u):x=y:=dP (r.abs.symm.trans q.abs)
theorem Vals.inj:∀{xs ys:LV} {us:aq},Vals xs us->Vals ys us->xs=ys
 |_,_,_,.nil,.nil=>rfl
 |_,_,_,.cons r t,.cons r' t'=>by rw[r.inj r',Vals.inj t t']
section
variable {X:Cx}{pins:aG}{σ:St}{H:Hp}{s:Shared}{a:Addr}{xs ys:LV}
theorem cg.of{K:ae}(h:H a=some (.lst xs)):cg K H a xs:=.inl (.inl h)
theorem bP.of{K:ae}(h:H a=some (.tup xs)):bP K H a xs:=.inl (.inl h)
theorem Inv.list(I:Inv X pins σ H s)(h:cg X.K H a xs):∃ab:aq,Vals xs ab/\PlainL s.heap a ab.toArray/\xs.length<=sizeLine:=by
 rcases h with h|⟨o,ab,n,hk,hc,hd,hs,hz,r⟩
 . obtain⟨z,ab,n,r,e⟩:=h.ok I.au
   exact⟨ab,r,⟨_,n,e,rfl,rfl,rfl⟩,z⟩
 . refine⟨ab.toList,r,⟨o,n,I.dj a o hk,hc,hd,by simpa using hs⟩,?_⟩
   have e:=r.length;simp only[Array.length_toList]at e;omega
theorem Inv.tuple(I:Inv X pins σ H s)(h:bP X.K H a xs):∃ab:aq,Vals xs ab/\IsTup s.heap a ab.toArray/\xs.length<=sizeLine:=by
 rcases h with h|⟨o,ab,n,hk,hc,hs,hz,r⟩
 . obtain⟨z,ab,r,p⟩:=h.ok I.au
   exact⟨ab,r,p,z⟩
 . refine⟨ab.toList,r,⟨o,I.dj a o hk,hc,n,by simpa using hs⟩,?_⟩
   have e:=r.length;simp only[Array.length_toList]at e;omega
theorem Inv.i0(I:Inv X pins σ H s)(h:cg X.K H a xs)(h':cg X.K H a ys):xs=ys:=by
 obtain⟨ab,r,⟨o,n,e,_,_,d⟩,_⟩:=I.list h;obtain⟨its',r',⟨o',n',e',_,_,d'⟩,_⟩:=I.list h';rw[e]at e';cases e';rw[d]at d';injection d' with d1 _
 have:ab=its':=by simpa using congrArg Array.toList d1
 subst this;exact r.inj r'
theorem Inv.iw(I:Inv X pins σ H s)(h:bP X.K H a xs)(h':bP X.K H a ys):xs=ys:=by
 obtain⟨ab,r,⟨o,e,_,n,d⟩,_⟩:=I.tuple h;obtain⟨its',r',⟨o',e',_,n',d'⟩,_⟩:=I.tuple h';rw[e]at e';cases e';rw[d]at d';injection d' with d1 _
 have:ab=its':=by simpa using congrArg Array.toList d1
 subst this;exact r.inj r'
end
noncomputable abbrev Cx.wish (X:Cx) (E:aP):Cx:={ X with xe:=E }
noncomputable abbrev Cx.qG (X:Cx):Cx:=X.wish λ_ _=>False
theorem Cx.Ok.wish{X:Cx}(ok:X.Ok)(E:aP):(X.wish E).Ok:=
 ⟨ok.mod,ok.kind,ok.glob,ok.blt,ok.above,ok.inj,ok.has,ok.qz,ok.hd,ok.frames,ok.vm,ok.sJ,ok.bs,ok.iY,ok.g9,ok.gQ,ok.dh,ok.mK⟩
theorem Cx.Ok.bZ{X:Cx}{E:aP}(ok:(X.wish E).Ok):X.Ok:=
 ⟨ok.mod,ok.kind,ok.glob,ok.blt,ok.above,ok.inj,ok.has,ok.qz,ok.hd,ok.frames,ok.vm,ok.sJ,ok.bs,ok.iY,ok.g9,ok.gQ,ok.dh,ok.mK⟩
section
variable {X:Cx}{pins:aG}{σ:St}{H:Hp}{s:Shared}{E:aP}
theorem Inv.wish(I:Inv X pins σ H s)(E:aP):Inv (X.wish E) pins σ H s:=⟨I.ok.wish E,I.os,I.bare,I.base,I.loc,I.cell,I.free,I.bL,I.pin,I.au,I.len⟩
theorem Inv.bZ(I:Inv (X.wish E) pins σ H s):Inv X pins σ H s:=⟨I.ok.bZ,I.os,I.bare,I.base,I.loc,I.cell,I.free,I.bL,I.pin,I.au,I.len⟩
theorem SP.bZ{D:Ends}{f:Flow}{s':Shared}(h:SP (X.wish E) pins D f s'):SP X pins D f s':=by
 cases f with
 |next=>obtain⟨σ',H',I,q⟩:=h;exact⟨σ',H',I.bZ,q⟩
 |brk=>obtain⟨σ',H',I,q⟩:=h;exact⟨σ',H',I.bZ,q⟩
 |cont=>obtain⟨σ',H',I,q⟩:=h;exact⟨σ',H',I.bZ,q⟩
 |ret u=>obtain⟨v,σ',H',I,r,q⟩:=h;exact⟨v,σ',H',I.bZ,r,q⟩
theorem fx.qG{st:List Stmt}{t:TS}(h:fx X.qG st t):fx X st t:=λpins s σ H D I hw=>
 gq (h pins s σ H D (I.wish _) hw) (λ_ _ q=>q.bZ) λ_ _ z=>False.elim z
end
section
variable {X:Cx}{st:Stmt}{rest:List Stmt}{t u:TS}{e:Expr}{te:TE}{pos:Pos}
def XZ:TS:=λD σ H=>D.nx σ H
def OZ(t u:TS):TS:=λD σ H=>t { D with nx:=u D } σ H
theorem Vm:fx X [] XZ:=λ_ _ σ H _ I h=>wpAny_execs_nil ⟨σ,H,I,h⟩
theorem Tp(h1:PS X st t)(h2:fx X rest u):fx X (st::rest) (OZ t u):=by
 intro pins s σ H D I h;refine wpAny_execs_cons (ay (h1 pins s σ H { D with nx:=u D } I h) λf s1 q=>?_)
 cases f with
 |next=>
  obtain⟨σ',H',I',q⟩:=q;exact h2 pins s1 σ' H' D I' q
 |ret v=>exact q
 |brk=>exact q
 |cont=>exact q
theorem Inv.quiet{pins:aG}{σ:St}{H:Hp}{s:Shared}(I:Inv X pins σ H s):interactive X.env=false:=by simp[interactive,I.ok.kind]
def X5(te:TE):TS:=λD σ H=>te σ H λ_ H1=>D.nx σ H1
theorem UH(he:PE X e te)(hs:swapsWith e none pos.line X.env=pure false:=by rfl):PS X (.Expr e pos) (X5 te):=by
 intro pins s σ H D I h;exact wpAny_Expr_any (ay (he pins s σ H _ I h) λv s1 ⟨x,H1,I1,r1,q1⟩=>⟨σ,H1,I1,q1⟩) I.quiet hs
def O0(te:TE):TS:=λD σ H=>te σ H D.rt
theorem Wg(he:PE X e te):PS X (.Return (some e) pos) (O0 te):=by
 intro pins s σ H D I h;exact wpAny_Return_some (ay (he pins s σ H _ I h) λv s1 ⟨x,H1,I1,r1,q1⟩=>⟨x,σ,H1,I1,r1,q1⟩)
def XW:TS:=λD _ H=>D.rt .ao H
theorem Vn:PS X (.Return none pos) XW:=λ_ _ σ H _ I h=>wpAny_Return_none ⟨.ao,σ,H,I,rfl,h⟩
def OH(c:TT)(t u:TS):TS:=λD σ H=>c σ H λb H1=>if b=true then t D σ H1 else u D σ H1
theorem YD{c:Expr}{a b:List Stmt}{tc:TT}(hc:PT X c tc)(ha:fx X a t)(hb:fx X b u):PS X (.If c a b pos) (OH tc t u):=by
 intro pins s σ H D I h;refine wpAny_If (ay (hc pins s σ H _ I h) λd s1 zz=>?_);obtain⟨H1,I1,q1⟩:=zz
 cases d with
 |true=>exact ha pins s1 σ H1 D I1 q1
 |false=>exact hb pins s1 σ H1 D I1 q1
end
abbrev TG:=V->St->Hp->(St->Hp->Prop)->Prop
abbrev mG:=LV->St->Hp->(St->Hp->Prop)->Prop
def PG(X:Cx)(target:Expr)(t:TG):Prop:=
 ∀(pins:aG) (s:Shared) (σ:St) (H:Hp) (v:V) (u:Value) (Q:St->Hp->Prop),Inv X pins σ H s->RelV v u->t v σ H Q->
  wpAny (model X.prog X.w) X.A (assign target X.env u) (λ_ s'=>∃σ' H',Inv X pins σ' H' s'/\Q σ' H') X.xe s
def nT(X:Cx)(ts:aX)(t:mG):Prop:=
 ∀(pins:aG) (s:Shared) (σ:St) (H:Hp) (vs:LV) (us:aq) (Q:St->Hp->Prop),Inv X pins σ H s->Vals vs us->t vs σ H Q->
  wpAny (model X.prog X.w) X.A (assignInOrder ((assignEach ts X.env).map (·.2)) us) (λ_ s'=>∃σ' H',Inv X pins σ' H' s'/\Q σ' H') X.xe s
abbrev yO:=V->V->V->Hp->(Hp->Prop)->Prop
def yP(X:Cx)(t:yO):Prop:=
 ∀(pins:aG) (s:Shared) (σ:St) (H:Hp) (o i v:V) (ov iv u:Value) (Q:Hp->Prop),Inv X pins σ H s->RelV o ov->RelV i iv->RelV v u->t o i v H Q->
  wpAny (model X.prog X.w) X.A (setItem ov iv u) (λ_ s'=>∃H',Inv X pins σ H' s'/\Q H') X.xe s
section
variable {X:Cx}{pos:Pos}
def Bu(i:Nat):TG:=λv σ H Q=>Q (σ.set i (some v)) H
theorem xG{i:Nat}{x:Str}(hN:X.N.Nodup)(hi:X.N[i]? =some x)(hx:Loc X.env.scope x)(hf:X.fn x=true∨X.env.scope.names.lookup x=some .local):PG X (.Name x pos) (Bu i):=by
 intro pins s σ H v u Q I r h;exact wpAny_assign_Name (xt I hN hi hx r (λs' I'=>⟨_,H,I',h⟩) hf)
def Dj:mG:=λvs σ H Q=>vs= []/\Q σ H
def JT(t:TG)(u:mG):mG:=λvs σ H Q=>∃v r,vs=v::r/\t v σ H λσ' H'=>u r σ' H' Q
theorem Hc:nT X [] Dj:=by
 intro pins s σ H vs us Q I r h;obtain⟨e,h⟩:=h;subst e;cases r;exact assignInOrder_nil ⟨σ,H,I,h⟩
theorem GA{e:Expr}{es:aX}{t:TG}{u:mG}(h1:PG X e t)(h2:nT X es u)
 (hs:(assignEach (e::es) X.env).map (·.2)=assign e X.env::(assignEach es X.env).map (·.2):=by rfl):nT X (e::es) (JT t u):=by
 intro pins s σ H vs us Q I r h;obtain⟨v,vr,e1,h⟩:=h;subst e1;cases r with
 |cons r rr=>
  rw[hs];refine assignInOrder_cons (ay (h1 pins s σ H _ _ _ I r h) λ_ s1 zz=>?_);obtain⟨σ1,H1,I1,q1⟩:=zz
  exact h2 pins s1 σ1 H1 _ _ Q I1 rr q1
def Di(K:ae)(n:Nat)(t:mG):TG:=λv σ H Q=>∃a xs,v= .ref a/\bP K H a xs/\xs.length=n/\t xs σ H Q
theorem IK{es:aX}{k:Nat}{t:mG}{n:Nat}(hc:X.calm=true)(h:nT X es t)
 (hn:(assignEach es X.env).length=n:=by rfl) (hst:(assignEach es X.env).findIdx? (·.1)=none:=by rfl):PG X (.Tuple es k pos) (Di X.K n t):=by
 intro pins s σ H v u Q I r hw;obtain⟨a,xs,e1,hq,hl,hw⟩:=hw;subst e1;cases r;obtain⟨ab,rv,ht,hz⟩:=I.tuple hq;refine assign_Tuple_tuple (I.ok.hd hc) ht (by simp[hn,<-hl,rv.length]) hst λh' hx=>?_
 have I1:Inv X pins σ H { s with heap:=h' }:=I.kept (t':=s.toks) λb o e=>hx b o (cS (bE e)) e
 exact h pins _ σ H xs _ Q I1 (by simpa using rv) hw
def Pc(to ti:TE)(t:yO):TG:=λv σ H Q=>to σ H λo H1=>ti σ H1 λi H2=>t o i v H2 λH3=>Q σ H3
theorem Wm{o i:Expr}{to ti:TE}{t:yO}(ho:PE X o to)(hi:PE X i ti)(hs:yP X t)
 (ha:∀v,assign (.Subscript o i pos) X.env v=(do
  let ov<-holding [v] (eval o X.env)
  let iv<-holding [v,ov] (eval i X.env)
  standAt pos
  holding [v,ov,iv] (setItem ov iv v)
  release [v,ov,iv] []):=by intro _;rfl):PG X (.Subscript o i pos) (Pc to ti t):=by
 intro pins s σ H v u Q I r h;rw[ha];refine ai (nQ (ay (ho pins s σ H _ I h) λov s1 zz=>?_));obtain⟨x,H1,I1,r1,q1⟩:=zz
 refine ai (nQ (ay (hi pins s1 σ H1 _ I1 q1) λiv s2 zz=>?_));obtain⟨y,H2,I2,r2,q2⟩:=zz
 refine ai (wpAny_standAt (ai (nQ (ay (hs pins s2 σ H2 x y v ov iv u _ I2 r1 r2 r q2) λ_ s3 zz=>?_))));obtain⟨H3,I3,q3⟩:=zz
 exact wpAny_release ⟨σ,H3,I3,q3⟩
def Dx(te:TE)(g:TG):TS:=λD σ H=>te σ H λx H1=>g x σ H1 D.nx
theorem Wk{tg e:Expr}{te:TE}{g:TG}(he:PE X e te)(hg:PG X tg g)(hs:swapsWithSole [tg] e pos.line X.env=pure false:=by rfl)(hw:swappedStores [tg] e X.env=pure none:=by rfl)
 (h1:(assignEach [tg] X.env).map (·.2)= [assign tg X.env]:=by rfl):PS X (.Assign [tg] e pos) (Dx te g):=by
 intro pins s σ H D I h;refine wpAny_Assign_stores (ay (he pins s σ H _ I h) λv s1 zz=>?_) hs hw;obtain⟨x,H1,I1,r1,q1⟩:=zz
 rw[h1];exact ay (hg pins s1 σ H1 x v _ I1 r1 q1) λ_ s2 q=>q
theorem Wf{i:Nat}{x:Str}{e:Expr}{te:TE}{pos':Pos}(hN:X.N.Nodup)(hi:X.N[i]? =some x)(hx:Loc X.env.scope x)(he:PE X e te)(hs:swapsWith e (some (.Name x pos')) pos.line X.env=pure false:=by rfl)(hf:X.fn x=true∨X.env.scope.names.lookup x=some .local):
 PS X (.Assign [.Name x pos'] e pos) (Dx te (Bu i)):=by
 intro pins s σ H D I h;refine wpAny_Assign_Name (ay (he pins s σ H _ I h) λv s1 zz=>?_) hs;obtain⟨y,H1,I1,r1,q1⟩:=zz
 exact xt I1 hN hi hx r1 (λs2 I2=>⟨_,H1,I2,q1⟩) hf
def O2(i j:Nat)(ta:TA):TS:=λD σ H=>ta σ H λvs H1=>∃v w,vs= [v,w]/\D.nx ((σ.set i (some v)).set j (some w)) H1
theorem Wh{i j:Nat}{x y:Str}{a b:Expr}{ta:TA}{px py pt:Pos}{kt k2 pt2}(hc:X.calm=true)(hN:X.N.Nodup)(hi:X.N[i]? =some x)(hj:X.N[j]? =some y)(hij:i≠j)
 (hx:X.env.scope.names.lookup x=some .local) (hy:X.env.scope.names.lookup y=some .local) (ha:PA X [a,b] ta)
 (hw:swappedStores [.Tuple [.Name x px,.Name y py] kt pt] (.Tuple [a,b] k2 pt2) X.env=pure (some [x,y]))
 (hs:swapsWithSole [.Tuple [.Name x px,.Name y py] kt pt] (.Tuple [a,b] k2 pt2) pos.line X.env=pure false:=by rfl):
 PS X (.Assign [.Tuple [.Name x px,.Name y py] kt pt] (.Tuple [a,b] k2 pt2) pos) (O2 i j ta):=by
 intro pins s σ H D I h;rw[exec_Assign_arm];refine ai (wpAny_standAt ?_);rw[hs];refine ai (aJ ?_);rw[ag ⋯]
 refine ai (Tuple_ (ay (ha _ pins s σ H _ I h) λus s1 zz=>?_));obtain⟨vs,H1,I1,r1,q1⟩:=zz
 obtain⟨v,w,e1,q1⟩:=q1;subst e1;obtain⟨u1,u2,rfl,rv,rw'⟩:∃u1 u2,us= [u1,u2]/\RelV v u1/\RelV w u2:=by
  cases r1 with
  |cons p q=>
   cases q with
   |cons p' q'=>
    cases q';exact⟨_,_,rfl,p,p'⟩
 refine jC ?_ (by show 2<=sizeLine;decide)
 have I2:Inv X pins σ H1 { s1 with heap:=s1.heap.push { cls:=.type "tuple",data:=.seq [u1,u2].toArray } }:=I1.kept (t':=s1.toks) λb o e=>bT _ e
 rw[hw];refine ai (aJ ?_);show wpAny (model X.prog X.w) X.A (do rule "assign.swapped-stores";let items<-unpackItems (.ref s1.heap.objs.size) 2 none;assignInOrder [λv=>bindName X.env y v,λv=>bindName X.env x v] items.reverse;pure Flow.next) _ _ _
 refine ai (wpAny_rule (ai (unpackItems_tuple (items:=#[u1,u2]) (I.ok.hd hc) (IsTup.new s1.heap _) λh' hx'=>?_)))
 have I3:=I2.kept (h':=h') (t':=s1.toks) λb o e=>hx' b o (cS (bE e)) e
 show wpAny _ _ (assignInOrder [λv=>bindName X.env y v,λv=>bindName X.env x v] [u2,u1] >>= λ_=>pure Flow.next) _ _ _
 refine ai (assignInOrder_cons (wpAny_bindName (xt I3 hN hj (.inl hy) rw' (λs2 I4=>?_) (.inr hy))))
 refine assignInOrder_cons (wpAny_bindName (xt I4 hN hi (.inl hx) rv (λs3 I5=>assignInOrder_nil (aJ ?_)) (.inr hx)))
 rw[List.set_comm _ _ (bC hij)]at I5;exact⟨_,H1,I5,q1⟩
noncomputable def VJ (c:TT)(tb:TS):TS:=λD σ H=>∃W:Nat->St->Hp->Prop,(∃m,W m σ H)/\∀m σ H,W m σ H->
 c σ H λb H1=>if b=true then ∃N:St->Hp->Prop,(∀σ' H',N σ' H'->∃m',m'<m/\W m' σ' H')/\tb { D with nx:=N,ct:=N,bk:=D.nx } σ H1 else D.nx σ H1
theorem Tq{c:Expr}{body:List Stmt}{tc:TT}{tb:TS}(hp:PassesOwn (model X.prog X.w) X.A X.env X.xe)(hc:PT X c tc)(hb:fx X body tb):PS X (.While c body [] pos) (VJ tc tb):=by
 intro pins s σ H D I h;obtain⟨W,⟨m0,w0⟩,turn⟩:=h;refine wpAny_While (codeAny_whileLoop (λn s'=>∃σ' H',Inv X pins σ' H' s'/\W n σ' H') ?_ m0 ⟨σ,H,I,w0⟩)
 rintro n s1 ⟨σ1,H1,I1,w1⟩;refine wpAny_passesOwn hp (ay (hc pins s1 σ1 H1 _ I1 (turn n σ1 H1 w1)) λb s2 zz=>?_);obtain⟨H2,I2,q2⟩:=zz
 cases b with
 |true=>
  obtain⟨N,hN,q2⟩:=q2;rw[ar rfl];refine wpAny_passesOwn hp (ay (hb pins s2 σ1 H2 _ I2 q2) λf s3 q3=>?_)
  cases f with
  |next=>
   obtain⟨σ3,H3,I3,n3⟩:=q3;obtain⟨m',hm,w3⟩:=hN σ3 H3 n3;exact⟨m',hm,σ3,H3,I3,w3⟩
  |cont=>
   obtain⟨σ3,H3,I3,n3⟩:=q3;obtain⟨m',hm,w3⟩:=hN σ3 H3 n3;exact⟨m',hm,σ3,H3,I3,w3⟩
  |brk=>exact q3
  |ret v=>exact q3
 |false=>
  rw[ag gL];exact wpAny_execs_nil ⟨σ1,H2,I2,q2⟩
end
structure It where
 go:Nat->Hp->Prop
 Ci:Nat->Hp->V->Hp->Prop
 stop:Nat->Hp->Prop
def ml(X:Cx)(pins:aG)(H:Hp)(b:Addr):Prop:=
 H b=none/\b≠X.env.locals/\b∉X.fs/\(b∈X.ex∨X.s₀.heap.objs.size<=b)/\(∀x c,X.env.cells.lookup x=some c->c≠b)/\∀p∈X.pn++pins,p.1≠b
theorem Inv.gU{X:Cx}{pins:aG}{σ:St}{H H':Hp}{s:Shared}{b:Addr}(I:Inv X pins σ H s)(hb:s.heap.objs.size<=b)(hn:H' b=none):ml X pins H' b:=by
 refine⟨hn,Nat.ne_of_gt (eR I.lt hb),I.sT hb,.inr (bG I.sz hb),λx c e z=>?_,λp hp z=>?_⟩
 . obtain⟨v,q⟩:=I.cell x c e
   exact bp (eR q.lt (by rw[z];exact hb)) (mE _)
 . exact bp (eR (bE (I.pin p hp).1) (by rw[z];exact hb)) (mE _)
structure Turn(P:Program)(w:World)(K:ae)(tg:Expr)(J:It)(fp:List Addr)(it:Addr)(tn:Nat->Heap->Prop):Prop where
 mem:it∈fp
 obj:∀i h,tn i h->∀b∈fp,∃o,h.get? b=some o/\∀v,o.data≠.cell v
 keep:∀i h h',tn i h->(∀b∈fp,∀o,h.get? b=some o->h'.get? b=some o)->tn i h'
 item:∀(X:Cx),X.prog=P->X.w=w->X.K=K->X.calm=true->∀(i:Nat) (pins:aG) (s:Shared) (σ:St) (H:Hp) (E:aP),Inv X pins σ H s->(∀b∈fp,ml X pins H b)->tn i s.heap->J.go i H->
  wpAny (model P w) X.A (pyNext (.ref it)) (λr s1=>∃u,r=some u/\
   wpAny (model P w) X.A (letOwnedTupleGo tg (.ref it) u) (λ_ s2=>∃x H',Inv X pins σ H' s2/\RelV x u/\J.Ci i H x H'/\tn (i+1) s2.heap/\∀b∈fp,H' b=none) E s1) E s
 done:∀(X:Cx),X.prog=P->X.w=w->X.K=K->X.calm=true->∀(i:Nat) (pins:aG) (s:Shared) (σ:St) (H:Hp) (E:aP),Inv X pins σ H s->(∀b∈fp,ml X pins H b)->tn i s.heap->J.stop i H->
  wpAny (model P w) X.A (pyNext (.ref it)) (λr s1=>r=none/\Inv X pins σ H s1) E s
 self:∀(A:Around) (i:Nat) (s:Shared) (Q:aP) (E:aP),tn i s.heap->Q (.ref it) s->wpAny (model P w) A (pyIter (.ref it)) Q E s
abbrev TI:=St->Hp->(It->Hp->Prop)->Prop
def Ck(X:Cx)(pins:aG)(σ:St)(tg:Expr)(R:It->Hp->Prop)(itv:Value)(s2:Shared):Prop:=
 ∃(it:Addr) (fp:List Addr) (tn:Nat->Heap->Prop) (J:It) (H':Hp),itv= .ref it/\Inv X pins σ H' s2/\Turn X.prog X.w X.K tg J fp it tn/\tn 0 s2.heap/\(∀b∈fp,ml X pins H' b)/\R J H'
def PI(X:Cx)(tg iter:Expr)(wi:TI):Prop:=
 ∀(pins:aG) (s:Shared) (σ:St) (H:Hp) (R:It->Hp->Prop),Inv X pins σ H s->wi σ H R->
  wpAny (model X.prog X.w) X.A (eval iter X.env) (λv s1=>wpAny (model X.prog X.w) X.A (pyIter v) (Ck X pins σ tg R) X.xe s1) X.xe s
theorem yl{M:Model}{A:Around}{E:aP}{s:Shared}{tg:Expr}{it:Addr}{u:Value}{o:Obj}{n:String}{vs:Array Value}{Q:Unit->Shared->Prop}(ho:s.heap.get? it=some o)(hc:o.cls= .type n)(hd:o.data= .fields vs)
 (hn:["enumerate","zip","dict_itemiterator","dict_reverseitemiterator","odict_iterator","itertools.zip_longest","itertools.pairwise"].contains n=false) (hQ:Q () s):wpAny M A (letOwnedTupleGo tg (.ref it) u) Q E s:=by
 unfold letOwnedTupleGo;cases tg<;>first
  |exact aJ hQ
  |(cases u<;>first
   |exact aJ hQ
   |(refine ai (wpAny_load ho ?_)
     rw[hc,hd];show wpAny M A (if(["enumerate","zip","dict_itemiterator","dict_reverseitemiterator","odict_iterator","itertools.zip_longest","itertools.pairwise"].contains n&&vs[0]? ==some (rawInt _))=true then _ else _) Q E s
     rw[ag (by intro h;rw[hn,Bool.false_and]at h;cases h)]
     exact aJ hQ))
noncomputable def vI (K:ae)(a:Addr):It:=
 ⟨λi H=>∃xs x,cg K H a xs/\xs[i]? =some x,λi H x H'=>H'=H/\∀xs,cg K H a xs->xs[i]? =some x,λi H=>∃xs,cg K H a xs/\xs.length<=i⟩
noncomputable def Cj (K:ae)(a:Addr):It:=
 ⟨λi H=>∃xs x,bP K H a xs/\xs[i]? =some x,λi H x H'=>H'=H/\∀xs,bP K H a xs->xs[i]? =some x,λi H=>∃xs,bP K H a xs/\xs.length<=i⟩
noncomputable def vJ (lo:Int)(n:Nat):It:=⟨λi _=>i<n,λi H x H'=>H'=H/\x= .int (lo+i),λi _=>n<=i⟩
theorem Rl{P:Program}{w:World}{K:ae}{tg:Expr}(a it:Addr):Turn P w K tg (vI K a) [it] it (λi h=>h.IsListIter it a i) where
 mem:=by simp
 obj:=λi h st b hb=>by
  have e:b=it:=by simpa using hb
  subst e;obtain⟨o,e,c,d⟩:=st;exact⟨o,e,λv z=>by rw[d]at z;cases z⟩
 keep:=λi h h' st k=>st.at λo e=>k it (by simp) o e
 item:=by
  intro X hP hw hK hc i pins s σ H E I hf st hg;subst hP hw hK;obtain⟨xs,x,hq,hx⟩:=hg;obtain⟨ab,rv,p,hz⟩:=I.list hq;obtain⟨u,hu,ru⟩:=rv.get hx;obtain⟨f0,f1,f2,f3,f4,f5⟩:=hf it (by simp)
  refine wpAny_pyNext_list_item st p.isList (x:=u) (by simpa using hu) λh' st' sb=>?_
  have I1:Inv X pins σ H { s with heap:=h' }:=I.turned (t':=s.toks) (λb o hb e=>(sb.2 b hb).trans e) f0 f1 f3 f4 f5
  obtain⟨o,e,c,d⟩:=id st';exact⟨u,rfl,yl (s:={ s with heap:=h' }) e c d ⋯ ⟨x,H,I1,ru,⟨rfl,λys hy=>by rw[I.i0 hy hq];exact hx⟩,st',λb hb=>(hf b hb).1⟩⟩
 done:=by
  intro X hP hw hK hc i pins s σ H E I hf st hg;subst hP hw hK;obtain⟨xs,hq,hx⟩:=hg;obtain⟨ab,rv,p,hz⟩:=I.list hq;obtain⟨f0,f1,f2,f3,f4,f5⟩:=hf it (by simp)
  have hl:=rv.length;exact wpAny_pyNext_list_end (I.ok.hd hc) st p.isList (by simp;omega) λh' eb=>⟨rfl,I.turned (t':=s.toks) (λb o hb e=>eb b o hb e) f0 f1 f3 f4 f5⟩
 self:=λ_ _ _ _ _ st h=>wpAny_pyIter_listiter st h
theorem Q6{P:Program}{w:World}{K:ae}{tg:Expr}(a it:Addr):Turn P w K tg (Cj K a) [it] it (λi h=>h.IsTupleIter it a i) where
 mem:=by simp
 obj:=λi h st b hb=>by
  have e:b=it:=by simpa using hb
  subst e;obtain⟨o,e,c,d⟩:=st;exact⟨o,e,λv z=>by rw[d]at z;cases z⟩
 keep:=λi h h' st k=>st.at λo e=>k it (by simp) o e
 item:=by
  intro X hP hw hK hc i pins s σ H E I hf st hg;subst hP hw hK;obtain⟨xs,x,hq,hx⟩:=hg;obtain⟨ab,rv,p,hz⟩:=I.tuple hq;obtain⟨u,hu,ru⟩:=rv.get hx;obtain⟨f0,f1,f2,f3,f4,f5⟩:=hf it (by simp)
  refine wpAny_pyNext_tuple_item st (show s.heap.IsTuple a ab.toArray from p) (x:=u) (by simpa using hu) λh' st' sb=>?_
  have I1:Inv X pins σ H { s with heap:=h' }:=I.turned (t':=s.toks) (λb o hb e=>(sb.2 b hb).trans e) f0 f1 f3 f4 f5
  obtain⟨o,e,c,d⟩:=id st';exact⟨u,rfl,yl (s:={ s with heap:=h' }) e c d ⋯ ⟨x,H,I1,ru,⟨rfl,λys hy=>by rw[I.iw hy hq];exact hx⟩,st',λb hb=>(hf b hb).1⟩⟩
 done:=by
  intro X hP hw hK hc i pins s σ H E I hf st hg;subst hP hw hK;obtain⟨xs,hq,hx⟩:=hg;obtain⟨ab,rv,p,hz⟩:=I.tuple hq;obtain⟨f0,f1,f2,f3,f4,f5⟩:=hf it (by simp)
  have hl:=rv.length;exact wpAny_pyNext_tuple_end (I.ok.hd hc) st (show s.heap.IsTuple a ab.toArray from p) (by simp;omega) λh' eb=>⟨rfl,I.turned (t':=s.toks) (λb o hb e=>eb b o hb e) f0 f1 f3 f4 f5⟩
 self:=λ_ _ _ _ _ st h=>wpAny_pyIter_tupleiter st h
theorem RB{P:Program}{w:World}{K:ae}{tg:Expr}(it:Addr)(lo:Int)(n:Nat):Turn P w K tg (vJ lo n) [it] it (λi h=>IsRangeIter h it (lo+(i:Nat)*1) ((n:Int)-(i:Nat)) 1) where
 mem:=by simp
 obj:=λi h st b hb=>by
  have e:b=it:=by simpa using hb
  subst e;exact⟨_,st,λv z=>by
   have z':Data.fields _=Data.cell v:=z;cases z'⟩
 keep:=λi h h' st k=>k it (by simp) _ st
 item:=by
  intro X hP hw hK hc i pins s σ H E I hf st hg;subst hP hw hK;obtain⟨f0,f1,f2,f3,f4,f5⟩:=hf it (by simp)
  have W:=Walks.range (prog:=X.prog) (w:=X.w) (I.ok.hd hc) it lo 1 n;refine W.item i s _ _ hg st λv h' tk hv st' kk=>?_
  obtain⟨t,rfl⟩:=hv;have I1:Inv X pins σ H { s with heap:=h',toks:=tk }:=I.turned (λb o hb e=>kk b o (by simpa using hb) e) f0 f1 f3 f4 f5
  refine⟨_,rfl,yl (s:={ s with heap:=h',toks:=tk }) (n:="range_iterator") st' rfl rfl ⋯ ⟨.int (lo+i),H,I1,⟨t,?_⟩,⟨rfl,rfl⟩,st',λb hb=>(hf b hb).1⟩⟩
  rw[Int.mul_one]
 done:=by
  intro X hP hw hK hc i pins s σ H E I hf st hg;subst hP hw hK;obtain⟨f0,f1,f2,f3,f4,f5⟩:=hf it (by simp)
  exact wpAny_pyNext_range_end (I.ok.hd hc) st (by have:n<=i:=hg;omega) λh' eb=>⟨rfl,I.turned (t':=s.toks) (λb o hb e=>eb b o hb e) f0 f1 f3 f4 f5⟩
 self:=λ_ _ _ _ _ st h=>wpAny_pyIter_rangeiter st h
section
variable {X:Cx}{tg:Expr}
theorem Td{pins:aG}{σ:St}{H:Hp}{s:Shared}{R:It->Hp->Prop}{E:aP}{lo hi:Int}{t u v:Tok}{tk:Nat}(I:Inv X pins σ H s)(h1:-(2 ^ 62)<=lo)(h2:lo<2 ^ 62)(h3:-(2 ^ 62)<=hi)(h4:hi<2 ^ 62)
 (q:R (vJ lo (hi-lo).toNat) H):wpAny (model X.prog X.w) X.A (pyIter (.ref s.heap.objs.size)) (Ck X pins σ tg R) E { s with heap:=s.heap.push { cls:=.type "range",data:=.fields #[.int lo t,.int hi u,.int 1 v] },toks:=tk }:=by
 refine wpAny_pyIter_range (IsRange.new ..) (small_one h1 h2 h3 h4) ?_;have I1:Inv X pins σ H { s with heap:=s.heap.push { cls:=.type "range",data:=.fields #[.int lo t,.int hi u,.int 1 v] },toks:=tk }:=I.kept λb o e=>bT _ e
 refine⟨(s.heap.push { cls:=.type "range",data:=.fields #[.int lo t,.int hi u,.int 1 v] }).objs.size,[(s.heap.push { cls:=.type "range",data:=.fields #[.int lo t,.int hi u,.int 1 v] }).objs.size],_,_,H,rfl,
  I1.kept (t':=tk) λb o e=>bT _ e,RB _ lo (hi-lo).toNat,?_,λb hb=>?_,q⟩
 . have e1:lo+((0:Nat):Int)*1=lo:=by simp
   have e2:(((hi-lo).toNat:Nat):Int)-((0:Nat):Int)=Builtin.Range.rangeSize lo hi 1:=by rw[rangeSize_one];split<;>omega
   show IsRangeIter _ _ (lo+((0:Nat):Int)*1) ((((hi-lo).toNat:Nat):Int)-((0:Nat):Int)) 1;rw[e1,e2];exact eJ _ rfl
 . have e:b=(s.heap.push { cls:=.type "range",data:=.fields #[.int lo t,.int hi u,.int 1 v] }).objs.size:=by simpa using hb
   subst e;exact I1.gU (aS _) (I1.au.fresh (aS _))
def Zz(ta:TA):TI:=λσ H R=>ta σ H λvs H1=>∃j:Int,vs= [.int j]/\-(2 ^ 62)<=j/\j<2 ^ 62/\R (vJ 0 j.toNat) H1
theorem R3{a:Expr}{ta:TA}{p pos:Pos}(hg:Gl X "range")(hm:X.mg "range" =none)(ha:PA X [a] ta)(hs:starEach [a] X.env= [(false,eval a X.env)]:=by rfl):PI X tg (.Call (.Name "range" p) [a] [] pos) (Zz ta):=by
 intro pins s σ H R I h;refine Call_ (m6 I hg hm boot_range (vE (ay (ha pos pins s σ H _ I h) λus s1 zz=>?_) hs rfl));obtain⟨vs,H1,I1,r1,q1⟩:=zz
 obtain⟨j,e,q1,q2,q⟩:=q1;subst e;cases r1 with
 |cons r rr=>
  cases rr;obtain⟨t,rfl⟩:=r;exact call_range_1 (Td I1 ∅ ∅ q1 q2 (by simpa using q))
noncomputable def OI (wi:TI)(g:TG)(tb:TS):TS:=λD σ H=>wi σ H λJ H1=>∃W:Nat->Nat->St->Hp->Prop,(∃m,W 0 m σ H1)/\∀i m σ H,W i m σ H->
 (J.stop i H/\D.nx σ H)∨(J.go i H/\∃N:St->Hp->Prop,(∀σ' H',N σ' H'->∃m',m'<m/\W (i+1) m' σ' H')/\∀x H',J.Ci i H x H'->g x σ H' λσ2 H2=>tb { D with nx:=N,ct:=N,bk:=D.nx } σ2 H2)
noncomputable def m4 (fp:List Addr)(h:Heap):aG:=fp.filterMap λb=>(h.get? b).map λo=>(b,o)
theorem Aa{fp:List Addr}{h:Heap}{b:Addr}{o:Obj}(hb:b∈fp)(e:h.get? b=some o):(b,o)∈m4 fp h:=qm.mpr ⟨b,hb,by rw[e];rfl⟩
theorem FO{fp:List Addr}{h:Heap}{p:Addr×Obj}(hp:p∈m4 fp h):p.1∈fp/\h.get? p.1=some p.2:=by
 obtain⟨b,hb,e⟩:=qm.mp hp;cases q:h.get? b with
 |none=>rw[q]at e;cases e
 |some o=>
  rw[q]at e;have e':(b,o)=p:=dP e;subst e';exact⟨hb,q⟩
theorem Inv.pinned{pins:aG}{σ:St}{H:Hp}{s:Shared}{fp:List Addr}(I:Inv X pins σ H s)(hf:∀b∈fp,ml X pins H b)(ho:∀b∈fp,∃o,s.heap.get? b=some o/\∀v,o.data≠.cell v):Inv X (pins++m4 fp s.heap) σ H s:=
 I.et λp hp=>(dM.mp hp).elim (λz=>I.pin p (iz _ z)) λz=>by
  obtain⟨hb,e⟩:=FO z;obtain⟨f0,f1,f2,_⟩:=hf p.1 hb;obtain⟨o,e',d⟩:=ho p.1 hb;rw[e]at e';cases e';exact⟨e,f0,f1,f2,d⟩
theorem Inv.cX{pins pl:aG}{σ:St}{H:Hp}{s:Shared}(I:Inv X (pins++pl) σ H s):Inv X pins σ H s:=I.et λp hp=>I.pin p (iz _ (y9 _ hp))
theorem Wi{iter:Expr}{body:List Stmt}{wi:TI}{g:TG}{tb:TS}{pos:Pos}(hp:PassesOwn (model X.prog X.w) X.A X.env X.xe)(hc:X.calm=true)(hi:PI X tg iter wi)(hg:PG X tg g)(hb:fx X body tb)
 (hs:∀x,foldedSetIterable iter X.env x=pure x:=by intro _;rfl):PS X (.For tg iter body [] pos) (OI wi g tb):=by
 intro pins s σ H D I h;refine wpAny_For (ay (hi pins s σ H _ I h) λv s1 h1=>ay h1 λitv s2 h2=>?_) hs
 obtain⟨it,fp,tn,J,H2,e,I2,T,st2,f2,W,⟨m0,w0⟩,turn⟩:=h2;subst e;have stat:∀{H':Hp},(∀b∈fp,H' b=none)->∀b∈fp,ml X pins H' b:=λhn b hb=>⟨hn b hb,(f2 b hb).2⟩
 refine codeAny_forLoop_any (λn s'=>∃i σ' H',Inv X pins σ' H' s'/\tn i s'.heap/\(∀b∈fp,H' b=none)/\W i n σ' H') ?_ m0 ⟨0,σ,H2,I2,st2,λb hb=>(f2 b hb).1,w0⟩
 rintro n s3 ⟨i,σ3,H3,I3,st3,fr3,w3⟩;rcases turn i n σ3 H3 w3 with⟨stop,qn⟩|⟨go,N,hN,step⟩
 . refine wpAny_passesOwn hp (ay (T.done X rfl rfl rfl hc i pins s3 σ3 H3 X.xe I3 (stat fr3) st3 stop) λr s4 zz=>?_);obtain⟨hr,I4⟩:=zz
   subst hr;exact wpAny_execs_nil ⟨σ3,H3,I4,qn⟩
 . refine wpAny_passesOwn hp (ay (T.item X rfl rfl rfl hc i pins s3 σ3 H3 X.xe I3 (stat fr3) st3 go) λr s4 zz=>?_);obtain⟨u,hr,h4⟩:=zz
   subst hr;refine wpAny_passesOwn hp (ay h4 λ_ s5 zz=>?_);obtain⟨x,H5,I5,r5,y5,st5,fr5⟩:=zz
   have I5':=I5.pinned (stat fr5) (T.obj _ _ st5);refine wpAny_passesOwn hp (ay (hg _ s5 σ3 H5 x u _ I5' r5 (step x H5 y5)) λ_ s6 zz=>?_);obtain⟨σ6,H6,I6,q6⟩:=zz
   refine wpAny_passesOwn hp (ay (hb _ s6 σ6 H6 _ I6 q6) λf s7 q7=>?_)
   have again:∀{σ7:St} {H7:Hp},Inv X (pins++m4 fp s5.heap) σ7 H7 s7->N σ7 H7->∃m,m<n/\∃i σ' H',Inv X pins σ' H' s7/\tn i s7.heap/\(∀b∈fp,H' b=none)/\W i m σ' H':=λ{σ7 H7} I7 n7=>by
    obtain⟨m',hm,w7⟩:=hN σ7 H7 n7;refine⟨m',hm,i+1,σ7,H7,I7.cX,T.keep _ _ _ st5 λb hb o e=>(I7.pin (b,o) (iz _ (iz _ (Aa hb e)))).1,λb hb=>?_,w7⟩
    obtain⟨o,e,d⟩:=T.obj _ _ st5 b hb;exact(I7.pin (b,o) (iz _ (iz _ (Aa hb e)))).2.1
   cases f with
   |next=>obtain⟨σ7,H7,I7,n7⟩:=q7;exact again I7 n7
   |cont=>obtain⟨σ7,H7,I7,n7⟩:=q7;exact again I7 n7
   |brk=>obtain⟨σ7,H7,I7,q7⟩:=q7;exact⟨σ7,H7,I7.cX,q7⟩
   |ret v=>obtain⟨x7,σ7,H7,I7,r7,q7⟩:=q7;exact⟨x7,σ7,H7,I7.cX,r7,q7⟩
end
abbrev R2:=V->V->Hp->VK->Prop
def c9(X:Cx)(f:Value->Value->Sem Value)(r:R2):Prop:=
 ∀(pins:aG) (s:Shared) (σ:St) (H:Hp) (x y:V) (v u:Value) (Q:VK),Inv X pins σ H s->RelV x v->RelV y u->r x y H Q->
  wpAny (model X.prog X.w) X.A (f v u) (EP X pins σ Q) X.xe s
def sD(X:Cx)(f:Value->Sem Value)(r:V->Hp->VK->Prop):Prop:=
 ∀(pins:aG) (s:Shared) (σ:St) (H:Hp) (x:V) (v:Value) (Q:VK),Inv X pins σ H s->RelV x v->r x H Q->
  wpAny (model X.prog X.w) X.A (f v) (EP X pins σ Q) X.xe s
def cZ(X:Cx)(f:Value)(r:LV->Hp->VK->Prop):Prop:=
 ∀(pins:aG) (s:Shared) (σ:St) (H:Hp) (xs:LV) (us:aq) (Q:VK),Inv X pins σ H s->Vals xs us->r xs H Q->
  wpAny (model X.prog X.w) X.A (call f us) (EP X pins σ Q) X.xe s
def rW(r:R2)(ta tb:TE):TE:=λσ H Q=>ta σ H λx H1=>tb σ H1 λy H2=>r x y H2 Q
def MK(r:V->Hp->VK->Prop)(ta:TE):TE:=λσ H Q=>ta σ H λx H1=>r x H1 Q
def rI(C:Int->Int->Prop)(g:Int->Int->V):R2:=λx y H Q=>∃i j,x= .int i/\y= .int j/\C i j/\Q (g i j) H
def ny(g:Int->Int->V):R2:=λx y H Q=>∃i j,x= .int i/\y= .int j/\Q (g i j) H
def rU(g:Int->V):V->Hp->VK->Prop:=λx H Q=>∃i,x= .int i/\Q (g i) H
section
variable {X:Cx}{a b c:Expr}{ta tb tc:TE}{pos:Pos}
theorem BL(ha:PE X a ta)(hb:PE X b tb){pins:aG}{s:Shared}{σ:St}{H:Hp}{R:V->V->Hp->Prop}(I:Inv X pins σ H s)
 (h:ta σ H λx H1=>tb σ H1 λy H2=>R x y H2) {Q:aP} {f:Value->Value->Sem Value}
 (hf:∀v u s2 x y H2,Inv X pins σ H2 s2->RelV x v->RelV y u->R x y H2->wpAny (model X.prog X.w) X.A (f v u) Q X.xe s2):
 wpAny (model X.prog X.w) X.A (eval a X.env) (λv s₁=>wpAny (model X.prog X.w) X.A (eval b X.env) (λu s₂=>wpAny (model X.prog X.w) X.A (f v u) Q X.xe s₂) X.xe s₁) X.xe s:=by
 refine ay (ha pins s σ H _ I h) λv s1 zz=>?_;obtain⟨x,H1,I1,r1,q1⟩:=zz
 refine ay (hb pins s1 σ H1 _ I1 q1) λu s2 zz=>?_;obtain⟨y,H2,I2,r2,q2⟩:=zz
 exact hf v u s2 x y H2 I2 r1 r2 q2
theorem YJ{op:Operator}{r:R2}(ho:c9 X (binaryOp op) r)(ha:PE X a ta)(hb:PE X b tb):PE X (.BinOp a op b pos) (rW r ta tb):=by
 intro pins s σ H Q I h;exact wpAny_BinOp (BL ha hb I h λv u s2 x y H2 I2 rx ry q=>ho pins s2 σ H2 x y v u Q I2 rx ry q)
theorem YH{op:UnaryOp}{r:V->Hp->VK->Prop}(ho:sD X (unaryOp op) r)(ha:PE X a ta):PE X (.UnaryOp op a pos) (MK r ta):=by
 intro pins s σ H Q I h;exact UnaryOp_ (ay (ha pins s σ H _ I h) λv s1 ⟨x,H1,I1,r1,q1⟩=>ho pins s1 σ H1 x v Q I1 r1 q1)
theorem wq{f:Value->Value->Sem Value}{C:Int->Int->Prop}{g:Int->Int->Int}
 (rule:∀(i j:Int) (t u:Tok) (s:Shared) (Q:aP) (E:aP),C i j->Q (.int (g i j) s.toks) { s with toks:=s.toks+1 }->wpAny (model X.prog X.w) X.A (f (.int i t) (.int j u)) Q E s):
 c9 X f (rI C λi j=>.int (g i j)):=by
 intro pins s σ H x y v u Q I rx ry h;obtain⟨i,j,rfl,rfl,hc,q⟩:=h;obtain⟨t,rfl⟩:=rx;obtain⟨t',rfl⟩:=ry;exact rule i j t t' s _ _ hc ⟨.int (g i j),H,I.tok _,⟨_,rfl⟩,q⟩
theorem C7{f:Value->Value->Sem Value}{g:Int->Int->Int}
 (rule:∀(i j:Int) (t u:Tok) (s:Shared) (Q:aP) (E:aP),Q (.int (g i j) s.toks) { s with toks:=s.toks+1 }->wpAny (model X.prog X.w) X.A (f (.int i t) (.int j u)) Q E s):
 c9 X f (ny λi j=>.int (g i j)):=by
 intro pins s σ H x y v u Q I rx ry h;obtain⟨i,j,rfl,rfl,q⟩:=h;obtain⟨t,rfl⟩:=rx;obtain⟨t',rfl⟩:=ry;exact rule i j t t' s _ _ ⟨.int (g i j),H,I.tok _,⟨_,rfl⟩,q⟩
theorem yx{f:Value->Value->Sem Value}{g:Int->Int->Bool}
 (rule:∀(i j:Int) (t u:Tok) (s:Shared) (Q:aP) (E:aP),Q (.bool (g i j)) s->wpAny (model X.prog X.w) X.A (f (.int i t) (.int j u)) Q E s):
 c9 X f (ny λi j=>.bl (g i j)):=by
 intro pins s σ H x y v u Q I rx ry h;obtain⟨i,j,rfl,rfl,q⟩:=h;obtain⟨t,rfl⟩:=rx;obtain⟨t',rfl⟩:=ry;exact rule i j t t' s _ _ ⟨.bl (g i j),H,I,rfl,q⟩
def P1(i j:Int):Prop:=0<j/\j<1073741824
def P0(i j:Int):Prop:=0<=j/\j<=1000000/\i.natAbs<2 ^ 64
def gM(i j:Int):Prop:=(-(2 ^ 64)<i/\i<2 ^ 64)∨(-(2 ^ 64)<j/\j<2 ^ 64)
theorem gM.ok{i j:Int}(h:gM i j):IntMulOk i j:=by
 rcases h with⟨h1,h2⟩|⟨h1,h2⟩
 . exact .of_left (intBits_le_64 h1 h2)
 . exact .of_right (intBits_le_64 h1 h2)
theorem V7:c9 X (binaryOp .Add) (ny λi j=>.int (i+j)):=C7 λ_ _ _ _ _ _ _ q=>add_int q
theorem WC:c9 X (binaryOp .Sub) (ny λi j=>.int (i-j)):=C7 λ_ _ _ _ _ _ _ q=>sub_int q
theorem V4:c9 X (binaryOp .Mult) (rI gM λi j=>.int (i*j)):=wq λ_ _ _ _ _ _ _ hc q=>mul_int q hc.ok
theorem UY:c9 X (binaryOp .FloorDiv) (rI P1 λi j=>.int (i / j)):=wq λi j _ _ _ _ _ hc q=>by
 have h1:(0:Int)<j:=hc.1;have h2:j<1073741824:=hc.2;exact floordiv_int ∅ (by rw[Int.fdiv_eq_ediv_of_nonneg i ∅];exact q) (.inl (PyProof.noPylong_small ∅))
theorem V5:c9 X (binaryOp .Mod) (rI (λ_ j=>0<j) λi j=>.int (i % j)):=wq λi j _ _ _ _ _ hc q=>by
 have h1:(0:Int)<j:=hc;exact mod_int' ∅ (by rw[Int.fmod_eq_emod_of_nonneg i ∅];exact q)
theorem WE:c9 X (binaryOp .Pow) (rI P0 λi j=>.int (i ^ j.toNat)):=wq λ_ _ _ _ _ _ _ hc q=>pow_int_small hc.1 hc.2.1 hc.2.2 q
theorem Z7{f:Value->Sem Value}{g:Int->Int}
 (rule:∀(i:Int) (t:Tok) (s:Shared) (Q:aP) (E:aP),Q (.int (g i) s.toks) { s with toks:=s.toks+1 }->wpAny (model X.prog X.w) X.A (f (.int i t)) Q E s):
 sD X f (rU λi=>.int (g i)):=by
 intro pins s σ H x v Q I rx h;obtain⟨i,rfl,q⟩:=h;obtain⟨t,rfl⟩:=rx;exact rule i t s _ _ ⟨.int (g i),H,I.tok _,⟨_,rfl⟩,q⟩
theorem V1:sD X (unaryOp .USub) (rU λi=>.int (-i)):=Z7 λ_ _ _ _ _ q=>neg_int q
theorem Ip{pins:aG}{σ:St}{H:Hp}{s:Shared}{Q:VK}{k k':Bool}(I:Inv X pins σ H s)(q:Q (.bl k) H)(e:k=k'):EP X pins σ Q (.bool k') s:=by
 subst e;exact⟨.bl k,H,I,rfl,q⟩
theorem YO:c9 X (compareOp .Lt) (ny λi j=>.bl (decide (i<j))):=yx λ_ _ _ _ _ _ _ q=>lt_int q
theorem YQ:c9 X (compareOp .LtE) (ny λi j=>.bl (decide (i<=j))):=yx λ_ _ _ _ _ _ _ q=>le_int q
theorem YR:c9 X (compareOp .Gt) (ny λi j=>.bl (decide (j<i))):=yx λ_ _ _ _ _ _ _ q=>gt_int q
theorem YS:c9 X (compareOp .GtE) (ny λi j=>.bl (decide (j<=i))):=yx λ_ _ _ _ _ _ _ q=>ge_int q
theorem V6:c9 X (compareOp .Is) (λx y H Q=>y= .ao/\Q (.bl (decide (x= .ao))) H):=by
 intro pins s σ H x y v u Q I rx ry h;obtain⟨rfl,q⟩:=h;cases ry;refine is_none_gen (Ip I q ?_);cases x<;>first
  |(cases rx;rfl)
  |(obtain⟨t,rfl⟩:=rx;rfl)
theorem UX:c9 X (compareOp .IsNot) (λx y H Q=>y= .ao/\Q (.bl (!decide (x= .ao))) H):=by
 intro pins s σ H x y v u Q I rx ry h;obtain⟨rfl,q⟩:=h;cases ry;refine isnot_none_gen (Ip I q ?_);cases x<;>first
  |(cases rx;rfl)
  |(obtain⟨t,rfl⟩:=rx;rfl)
theorem qok(b:Expr){op:CmpOp}(h:op≠.In:=by decide)(h2:op≠.NotIn:=by decide):behindInMarks op b=false:=by
 have e1:(op==CmpOp.In)=false:=by cases op<;>first|rfl|exact bp rfl h
 have e2:(op==CmpOp.NotIn)=false:=by cases op<;>first|rfl|exact bp rfl h2
 cases b<;>simp[behindInMarks,e1,e2]
theorem He{op:CmpOp}{r:R2}(ho:c9 X (compareOp op) r)(ha:PE X a ta)(hb:PE X b tb)(hm:behindInMarks op b=false):PE X (.Compare a [op] [b] pos) (rW r ta tb):=by
 intro pins s σ H Q I h;exact wpAny_Compare1 (BL ha hb I h λv u s2 x y H2 I2 rx ry q=>ho pins s2 σ H2 x y v u Q I2 rx ry q) hm
def Jm(t:TE):TT:=λσ H Q=>t σ H λx H'=>∃k,x= .bl k/\Q k H'
theorem Hb{op:CmpOp}{r:R2}(ho:c9 X (compareOp op) r)(ha:PE X a ta)(hb:PE X b tb)(hm:behindInMarks op b=false):PT X (.Compare a [op] [b] pos) (Jm (rW r ta tb)):=by
 intro pins s σ H Q I h;refine wpAny_isTrue_Compare1 (ay (ha pins s σ H _ I h) λv s1 ⟨x,H1,I1,r1,q1⟩=>ay (hb pins s1 σ H1 _ I1 q1) λu s2 ⟨y,H2,I2,r2,q2⟩=>
  ay (ho pins s2 σ H2 x y v u _ I2 r1 r2 q2) λc s3 ⟨z,H3,I3,r3,k,e,q3⟩=>?_) hm
 subst e;cases r3;exact jB ⟨H3,I3,q3⟩
noncomputable def AH (r r':R2)(ta tb tc:TE):TE:=λσ H Q=>ta σ H λx H1=>tb σ H1 λy H2=>r x y H2 λz H3=>∃k,z= .bl k/\
 (if k=true then tc σ H3 λw' H4=>r' y w' H4 Q else Q (.bl false) H3)
theorem SX{op op':CmpOp}{r r':R2}(ho:c9 X (compareOp op) r)(ho':c9 X (compareOp op') r')(ha:PE X a ta)(hb:PE X b tb)(hc:PE X c tc)
 (hm:lastMarks [op,op'] [b,c]=false:=by with_unfolding_all rfl):PE X (.Compare a [op,op'] [b,c] pos) (AH r r' ta tb tc):=by
 intro pins s σ H Q I h;refine Compare_chain (ay (ha pins s σ H _ I h) λv s1 ⟨x,H1,I1,r1,q1⟩=>chain_link (ay (hb pins s1 σ H1 _ I1 q1) λu s2 ⟨y,H2,I2,r2,q2⟩=>
  ay (ho pins s2 σ H2 x y v u _ I2 r1 r2 q2) λd s3 ⟨z,H3,I3,r3,k,e,q3⟩=>?_)) hm
 subst e;cases r3;refine jB ?_;cases k with
 |false=>exact ite_ff ⟨.bl false,H3,I3,rfl,q3⟩
 |true=>exact ite_tt (chain_last (ay (hc pins s3 σ H3 _ I3 q3) λw' s4 ⟨z',H4,I4,r4,q4⟩=>ho' pins s4 σ H4 y z' u w' Q I4 r2 r4 q4))
theorem To{op op':CmpOp}{r r':R2}(ho:c9 X (compareOp op) r)(ho':c9 X (compareOp op') r')(ha:PE X a ta)(hb:PE X b tb)(hc:PE X c tc)
 (hm:lastMarks [op,op'] [b,c]=false:=by with_unfolding_all rfl):PT X (.Compare a [op,op'] [b,c] pos) (Jm (AH r r' ta tb tc)):=by
 intro pins s σ H Q I h;refine isTrue_chain (ay (ha pins s σ H _ I h) λv s1 ⟨x,H1,I1,r1,q1⟩=>test_link (ay (hb pins s1 σ H1 _ I1 q1) λu s2 ⟨y,H2,I2,r2,q2⟩=>
  ay (ho pins s2 σ H2 x y v u _ I2 r1 r2 q2) λd s3 ⟨z,H3,I3,r3,k,e,q3⟩=>?_)) hm
 subst e;cases r3;refine jB ?_;cases k with
 |false=>
  obtain⟨k',e',q'⟩:=q3;cases e';exact ite_ff ⟨H3,I3,q'⟩
 |true=>
  refine ite_tt (test_last (ay (hc pins s3 σ H3 _ I3 q3) λw' s4 ⟨z',H4,I4,r4,q4⟩=>ay (ho' pins s4 σ H4 y z' u w' _ I4 r2 r4 q4) λd' s5 zz=>?_));obtain⟨z2,H5,I5,r5,k2,e2,q5⟩:=zz
  subst e2;cases r5;exact jB ⟨H5,I5,q5⟩
theorem q9:(sizeLine:Nat)<2 ^ 63:=by rw[sizeLine_eq];decide
theorem RK:c9 X (binaryOp .Add) (λx y H Q=>∃i j,x= .str i/\y= .str j/\i.length+j.length<=sizeLine/\Q (.str (i++j)) H):=by
 intro pins s σ H x y v u Q I rx ry h;obtain⟨i,j,rfl,rfl,hz,q⟩:=h;obtain⟨t,rfl⟩:=rx;obtain⟨t',rfl⟩:=ry;exact add_str (λt' tk=>⟨.str (i++j),H,I.tok _,⟨_,rfl⟩,q⟩) hz
theorem vals1{x:V}{us:aq}(r:Vals [x] us):∃u,us= [u]/\RelV x u:=by
 cases r with
 |cons r1 r2=>cases r2;exact⟨_,rfl,r1⟩
theorem vals2{x y:V}{us:aq}(r:Vals [x,y] us):∃u w',us= [u,w']/\RelV x u/\RelV y w':=by
 cases r with
 |cons r1 r2=>
  cases r2 with
  |cons r3 r4=>cases r4;exact⟨_,_,rfl,r1,r3⟩
theorem Su(hc:X.calm=true):cZ X (.builtin "max") (λxs H Q=>∃i j,xs= [.int i,.int j]/\Q (.int (if j > i then j else i)) H):=by
 intro pins s σ H xs us Q I r h;obtain⟨i,j,rfl,q⟩:=h;obtain⟨u,w',rfl,⟨t,rfl⟩,⟨t',rfl⟩⟩:=vals2 r;refine max_two_ints (I.ok.hd hc) λh' tk k=>⟨_,H,I.kept k,?_,q⟩
 by_cases hj:j > i
 . rw[ar hj,ar hj];exact⟨_,rfl⟩
 . rw[ag hj,ag hj];exact⟨_,rfl⟩
theorem Q3:cZ X (.type "str") (λxs H Q=>∃i,xs= [.int i]/\i.natAbs.log2<1920/\Q (.str (toString i)) H):=by
 intro pins s σ H xs us Q I r h;obtain⟨i,rfl,hz,q⟩:=h;obtain⟨u,rfl,t,rfl⟩:=vals1 r;exact PySem.P.str_of_int hz ⟨.str _,H,I.tok _,⟨_,rfl⟩,q⟩
theorem TY:cZ X (.builtin "ord") (λxs H Q=>∃x,xs= [.str x]/\x.length=1/\Q (.int (x.cps.getD 0 0:Nat)) H):=by
 intro pins s σ H xs us Q I r h;obtain⟨x,rfl,hz,q⟩:=h;obtain⟨u,rfl,t,rfl⟩:=vals1 r;exact ord_of_one hz ⟨.int _,H,I.tok _,⟨_,rfl⟩,q⟩
end
structure c8(h:Heap)(x dx C:Addr)(mA:bj):Prop where
 obj:h.get? x=some (nN C dx)
 ns:h.Ns1 dx mA
 ne:dx≠x
theorem RW{h:Heap}{dx:Addr}{mA:bj}(n:h.Ns1 dx mA):∃od,h.get? dx=some od/\∀name,PySem.W.lookIn name od=some (mA name):=by
 obtain⟨o,es,ep,ho,hd,hk,_,hm⟩:=n;refine⟨o,ho,λname=>?_⟩
 have e:=hm name;unfold nsFind findBy at e;rw[<-Array.find?_toList]at e;unfold PySem.W.lookIn;rw[hd];dsimp only;split
 . rename_i y q
   rw[q]at e;exact congrArg some e
 . rename_i q
   rw[q]at e;have a:es.toList.any (·.refKey)=false:=by
    rw[List.any_eq_false];intro y hy;obtain⟨z,t,hkey⟩:=hk y (Array.mem_toList_iff.mp hy);simp[DictEntry.refKey,hkey]
   have a':¬es.toList.any (·.refKey)=true:=by rw[a];exact gL
   rw[ag a'];exact congrArg some e
theorem c8.look{h:Heap}{x dx C:Addr}{mA:bj}(I:c8 h x dx C mA):∃od,PySem.W.InstAt h x (nN C dx) C (some od)/\∀name,PySem.W.lookIn name od=some (mA name):=
 let⟨od,ho,hl⟩:=RW I.ns
 ⟨od,⟨I.obj,rfl,rfl,ho⟩,hl⟩
section
variable {prog:Program}{w:World}{A:Around}{E:aP}{s:Shared}{K:ae}{x dx C f:Addr}{mA:bj}{name:Str}{v:Value}
theorem get_map{expr:Bool}{Q:aP}(X:K.In s.heap)(I:c8 s.heap x dx C mA)(hg:vA K C name=true)(hh:zf K C=true)
 (ha:PySem.W.findIn K (.ref C) name=some none) (hv:mA name=some v) (hv':PySem.W.handedIn v=true) (h:Q v { s with toks:=s.toks+1 }):
 wpAny (model prog w) A (getAttr (.ref x) name expr) Q E s:=by
 obtain⟨od,J,hl⟩:=I.look;exact PySem.W.get_value X J (PySem.W.plainGet_of hg).1 (PySem.W.findObj_own hh ha rfl (by rw[hl,hv])) hv' h
theorem Um{pl:Sem Bool}{Q:Value×aq->Shared->Prop}(X:K.In s.heap)(I:c8 s.heap x dx C mA)(hg:vA K C name=true)
 (hf:PySem.W.findIn K (.ref C) name=some (some (.ref f))) (ht:PySem.W.isFn K (.ref f)=true) (hv:mA name=none) (h:Q (.ref f,[.ref x]) s):
 wpAny (model prog w) A (getMethod (.ref x) name pl) Q E s:=by
 obtain⟨od,J,hl⟩:=I.look;exact PySem.W.method_fn X J (PySem.W.plainGet_of hg).1 (PySem.W.plainGet_of hg).2 hf (eX.mp ht) (by show(PySem.W.lookIn name od).map (·.isSome)=some false;rw[hl,hv];rfl) h
theorem U3{ns:az}{Q:Unit->Shared->Prop}(X:K.In s.heap)(I:c8 s.heap x dx C mA)
 (hs:PySem.W.findIn K (.ref C) "__setattr__" =some (some (.builtin "object.__setattr__"))) (hp:PySem.W.plainOver K C=true) (ht:PySem.W.takerIn K C name=some none) (hh:zf K C=true)
 (hw:PySem.Within mA ns) (hsz:ns.length<=sizeLine)
 (h:∀h',c8 h' x dx C (λy=>if y=name then some v else mA y)->Heap.SameBut dx s.heap h'->Q () { s with heap:=h',toks:=s.toks+2 }):
 wpAny (model prog w) A (setAttr (.ref x) name v) Q E s:=by
 obtain⟨od,J,hl⟩:=I.look;refine PySem.W.set_plain X J hs (PySem.W.osa_open (s:={ s with toks:=s.toks+1 }) (r:=none) X J hp ht λb=>?_)
 obtain⟨cd,hc,hd'⟩:=PySem.W.any_some hh;have hx:s.heap.get? x=some ⟨.ref C,some dx,.plain,#[]⟩:=I.obj;refine ai (aJ (ai (ai (wpAny_loadPart hx (ai (PySem.W.Looks.here (s:={ s with toks:=s.toks+1 }) (PySem.W.looks_clsIn X hc) ?_))))))
 rw[hd'];refine aJ (a:=some dx) (ai (aJ (ai ?_)));refine wpAny_nsSet1 (s:={ s with toks:=s.toks+1 }) I.ns λh' hn2 hs2=>?_
 obtain⟨oD,esD,epD,hoD,hdD,hcD⟩:=hn2.count (PySem.Within.cons name v hw);refine ai (wpAny_lookBehind hoD (by rw[hdD];exact pastItsLine_dict (bG hcD (by rw[List.length_cons];omega))) ?_)
 exact aJ (h _ ⟨(hs2.2 _ (bC I.ne)).trans I.obj,hn2,I.ne⟩ hs2)
theorem Ub{R:Result->Shared->Prop}{vs:aq}{kw:List (Str×Value)}(X:K.In s.heap)(hm:PySem.W.makesIn K C=true)
 (hi:PySem.W.findIn K (.ref C) "__init__" =some (some (.ref f))) (hf:PySem.W.typeIn K (.ref f)=some (.type "function"))
 (h:codeAny (model prog w) (A.under (.builtin "type.__call__" ⟨.ref C::vs,kw⟩)) (.call (.ref f) ⟨.ref (s.heap.objs.size+1)::vs,kw⟩) (PySem.W.InitBack (s.heap.objs.size+1) R)
  { s with heap:=(s.heap.push mv).push (nN C s.heap.objs.size) }):
 codeAny (model prog w) A (.call (.ref C) ⟨vs,kw⟩) R s:=by
 obtain⟨hh,g,d,t,os⟩:=s;exact PySem.W.make_core (PySem.W.makes_of X hm) (PySem.W.looks_findIn X hi) (λself=>PySem.W.bind_fn X self hf) (.inl rfl) h
end
noncomputable def eW (f:Str)(v:V):List (Str×V)->List (Str×V)
 | []=>[(f,v)]
 |(g,x)::r=>if g=f then(g,v)::r else(g,x)::eW f v r
theorem Fp(f g:Str)(v:V):∀fs:List (Str×V),(eW f v fs).lookup g=if g=f then some v else fs.lookup g
 | []=>by
  show List.lookup g [(f,v)]=_
  by_cases h:g=f
  . have hb:(g==f)=true:=eX.mpr h
    simp only[List.lookup,hb,ar h]
  . have hb:(g==f)=false:=mq.mpr h
    simp only[List.lookup,hb,ag h]
 |(k,x)::r=>by
  have ih:=Fp f g v r;rw[show eW f v ((k,x)::r)=(if k=f then(k,v)::r else(k,x)::eW f v r)from rfl]
  by_cases hk:k=f
  . rw[ar hk]
    by_cases h:g=k
    . have hb:(g==k)=true:=eX.mpr h
      simp only[List.lookup,hb,ar (h.trans hk)]
    . have hb:(g==k)=false:=mq.mpr h
      simp only[List.lookup,hb,ag (λe:g=f=>h (e.trans hk.symm))]
  . rw[ag hk]
    by_cases h:g=k
    . have hb:(g==k)=true:=eX.mpr h
      simp only[List.lookup,hb,ag (λe:g=f=>hk (h.symm.trans e))]
    . have hb:(g==k)=false:=mq.mpr h
      simp only[List.lookup,hb];exact ih
theorem Af(f:Str)(v:V):∀fs:List (Str×V),f∈(eW f v fs).map (·.1)/\∀g,g∈fs.map (·.1)->g∈(eW f v fs).map (·.1)
 | []=>⟨by simp[eW],λg h=>by simp at h⟩
 |(k,x)::r=>by
  obtain⟨i1,i2⟩:=Af f v r;rw[show eW f v ((k,x)::r)=(if k=f then(k,v)::r else(k,x)::eW f v r)from rfl]
  by_cases hk:k=f
  . rw[ar hk]
    subst hk;exact⟨by simp,λg h=>by simpa using h⟩
  . rw[ag hk]
    refine⟨?_,λg h=>?_⟩
    . rw[cj]
      exact gk _ i1
    . rw[cj]at h ⊢
      rcases cx.mp h with e|e
      . exact cx.mpr (.inl e)
      . exact gk _ (i2 g e)
theorem Fs(f:Str)(v:V):∀fs:List (Str×V),(eW f v fs).length<=fs.length+1
 | []=>by simp[eW]
 |(k,x)::r=>by
  have ih:=Fs f v r;rw[show eW f v ((k,x)::r)=(if k=f then(k,v)::r else(k,x)::eW f v r)from rfl]
  by_cases hk:k=f
  . rw[ar hk,List.length_cons,List.length_cons];omega
  . rw[ag hk,List.length_cons,List.length_cons];omega
theorem bK.some_of{v:V}{o:cI}(r:bK (some v) o):∃u,o=some u/\RelV v u:=by
 cases o with
 |none=>exact(show False from r).elim
 |some u=>exact⟨u,rfl,r⟩
theorem bK.none_of{o:cI}(r:bK none o):o=none:=by
 cases o with
 |none=>rfl
 |some u=>exact(show False from r).elim
theorem Sx{v:V}{u:Value}(r:RelV v u):PySem.W.handedIn u=true:=by
 cases v with
 |ao=>cases(show u=Value.none from r);rfl
 |bl b=>cases(show u=Value.bool b from r);rfl
 |int i=>obtain⟨t,e⟩:=(show ∃t,u=Value.int i t from r);cases e;rfl
 |str x=>obtain⟨t,e⟩:=(show ∃t,u=Value.str x t from r);cases e;rfl
 |vP b=>obtain⟨t,e⟩:=(show ∃t,u=Value.bytes b t from r);cases e;rfl
 |k9 b=>obtain⟨t,e⟩:=(show ∃t,u=Value.float b t from r);cases e;rfl
 |ref a=>cases(show u=Value.ref a from r);rfl
 |ty n=>cases(show u=Value.type n from r);rfl
section
variable {P:Program}{w:World}{H H':Hp}{h h':Heap}{a C dx:Addr}{fs fs':List (Str×V)}
theorem xH(au:cz P w H h)(e:H a=some (.ins C dx fs)):∃mA,c8 h a dx C mA/\(∀f,bK (fs.lookup f) (mA f))/\PySem.Within mA (fs.map (·.1))/\fs.length<=1000/\H dx=some (.own a):=by
 obtain⟨d,z,ne,ob,mA,n,r,q⟩:=(show aB P w H h a (.ins C dx fs)from au a _ e)
 exact⟨mA,⟨ob,n,ne⟩,r,q,z,d⟩
end
structure cy(K:ae)(C:Addr):Prop where
 pg:vA K C Str.empty=true
 hd:zf K C=true
 po:PySem.W.plainOver K C=true
 sa:PySem.W.findIn K (.ref C) "__setattr__" =some (some (.builtin "object.__setattr__"))
theorem cy.get{K:ae}{C:Addr}(c:cy K C)(f:Str):vA K C f=true:=c.pg
def aQ(K:ae)(C:Addr)(f:Str):Prop:=PySem.W.findIn K (.ref C) f=some none
theorem aQ.vn{K:ae}{C:Addr}{f:Str}(n:aQ K C f):PySem.W.takerIn K C f=some none:=by
 unfold PySem.W.takerIn;rw[show PySem.W.findIn K (.ref C) f=some none from n]
 rfl
structure Con(K:ae)(C:Addr)(f:Str)(v:V)(u:Value):Prop where
 at_:PySem.W.findIn K (.ref C) f=some (some u)
 rel:RelV v u
 get:PySem.W.specialIn K u "__get__" =some none
 cp:PySem.W.copiedNames.contains f=false
structure Meth(K:ae)(C:Addr)(m:Str)(f:Addr):Prop where
 at_:PySem.W.findIn K (.ref C) m=some (some (.ref f))
 fn:PySem.W.isFn K (.ref f)=true
 kp:PySem.W.keepIn K (.ref f)=true
section
variable {X:Cx}{pins:aG}{σ:St}{H:Hp}{s:Shared}{a C dx:Addr}{fs:List (Str×V)}{f:Str}{v:V}{A:Around}{E:aP}
theorem FE{b:Bool}{Q:aP}(I:Inv X pins σ H s)(e:H a=some (.ins C dx fs))(c:cy X.K C)(n:aQ X.K C f)(l:fs.lookup f=some v)
 (h:∀u s',Inv X pins σ H s'->RelV v u->Q u s'):wpAny (model X.prog X.w) A (getAttr (.ref a) f b) Q E s:=by
 obtain⟨mA,O,r,_,_,_⟩:=xH I.au e;obtain⟨u,hu,ru⟩:=bK.some_of (v:=v) (o:=mA f) (by rw[<-l];exact r f)
 exact get_map I.dj O (c.get f) c.hd n hu (Sx ru) (h u _ (I.tok _) ru)
theorem FC{m:Str}{g:Addr}{pl:Sem Bool}{Q:Value×aq->Shared->Prop}(I:Inv X pins σ H s)(e:H a=some (.ins C dx fs))(c:cy X.K C)(k:Meth X.K C m g)(l:fs.lookup m=none)
 (h:Q (.ref g,[.ref a]) s):wpAny (model X.prog X.w) A (getMethod (.ref a) m pl) Q E s:=by
 obtain⟨mA,O,r,_,_,_⟩:=xH I.au e;have hn:mA m=none:=bK.none_of (by rw[<-l];exact r m)
 exact Um I.dj O (c.get m) k.at_ k.fn hn h
theorem Fg{y:V}{u:Value}{Q:Unit->Shared->Prop}(I:Inv X pins σ H s)(e:H a=some (.ins C dx fs))(c:cy X.K C)(n:aQ X.K C f)(hl:fs.length<1000)(ry:RelV y u)
 (h:∀s',Inv X pins σ (upd H a (.ins C dx (eW f y fs))) s'->Q () s'):wpAny (model X.prog X.w) A (setAttr (.ref a) f u) Q E s:=by
 obtain⟨mA,O,r,wi,_,ho⟩:=xH I.au e;have hz:(fs.map (·.1)).length<=sizeLine:=by rw[bw,sizeLine_eq];omega
 refine U3 I.dj O c.sa c.po n.vn c.hd wi hz λh' O' sb=>h _ ?_
 have hd:∃o,h'.get? dx=some o:=let⟨o,_,_,e',_⟩:=O'.ns;⟨o,e'⟩;refine I.write (x:=a) (e:=dx) (by rw[e];exact True.intro) (.inr ho) (λb q hb z=>(sb.2 b hb).trans z) hd ?_
 refine⟨by rw[aD O.ne];exact ho,?_,O.ne,O'.obj,_,O'.ns,λg=>?_,λg hg=>?_⟩
 . have:=Fs f y fs;omega
 . show bK ((eW f y fs).lookup g) (if g=f then some u else mA g)
   rw[Fp]
   by_cases q:g=f
   . rw[ar q,ar q];exact ry
   . rw[ag q,ag q];exact r g
 . by_cases q:g=f
   . rw[q];exact(Af f y fs).1
   . refine(Af f y fs).2 g (wi g λz=>hg ?_)
     show(if g=f then some u else mA g)=none
     rw[ag q];exact z
theorem Inv.made(I:Inv X pins σ H s):Inv X pins σ (upd (upd H s.heap.objs.size (.own (s.heap.objs.size+1))) (s.heap.objs.size+1) (.ins C s.heap.objs.size []))
 { s with heap:=(s.heap.push mv).push (nN C s.heap.objs.size) }:=by
 have e1:(s.heap.push mv).get? s.heap.objs.size=some mv:=eJ s.heap rfl;have e2:((s.heap.push mv).push (nN C s.heap.objs.size)).get? (s.heap.objs.size+1)=some (nN C s.heap.objs.size):=by
  have:=eJ (s.heap.push mv) (o:=nN C s.heap.objs.size) rfl
  rwa [Heap.size_push]at this
 have e3:(s.heap.push mv).Ns s.heap.objs.size (λ_=>none):=⟨mv,#[],_,e1,rfl,(λe he=>bp he (by simp)),λ_=>rfl⟩
 have I1:=I.laid (a:=s.heap.objs.size) (o:=.own (s.heap.objs.size+1)) (h':=s.heap.push mv) (t':=s.toks) (λb u q=>bT _ q) (aS _) ⟨_,e1⟩
 refine I1.laid (a:=s.heap.objs.size+1) (o:=.ins C s.heap.objs.size []) (t':=s.toks) (λb u q=>bT _ q) (Nat.le_of_eq (Heap.size_push _ _)) ?_
 have ne:s.heap.objs.size≠s.heap.objs.size+1:=cS (Nat.lt_succ_self _);refine⟨by rw[aD ne,c0],qj _,ne,e2,λ_=>none,(Heap.Ns1.of_empty e3).at λo q=>bT _ q,λ_=>True.intro,λy hy=>bp rfl hy⟩
theorem HR{prog:Program}{w:World}{env:Env}{e:Expr}{f:Str}{pos:Pos}{s:Shared}{Q:aP}(hb:attributeBase e f env (eval e env)=eval e env)
 (h:wpAny (model prog w) A (eval e env) (λo s₁=>wpAny (model prog w) A (getAttr o f true) Q E s₁) E s):wpAny (model prog w) A (eval (.Attribute e f pos) env) Q E s:=
 Attribute_any_ h (by rw[arm_eval_Attribute,hb])
end
noncomputable def OJ (K:ae)(ta:TE)(f:Str):TE:=λσ H Q=>ta σ H λx H1=>∃a C dx fs v,x= .ref a/\H1 a=some (.ins C dx fs)/\cy K C/\aQ K C f/\fs.lookup f=some v/\Q v H1
noncomputable def OU (K:ae)(ta tv:TE)(f:Str):TS:=λD σ H=>tv σ H λy H1=>ta σ H1 λx H2=>∃a C dx fs,x= .ref a/\H2 a=some (.ins C dx fs)/\cy K C/\aQ K C f/\fs.length<1000/\
 D.nx σ (upd H2 a (.ins C dx (eW f y fs)))
def DP(X:Cx)(op:Operator)(rd:V->V->Hp->VK->Prop):Prop:=
 ∀(pins:aG) (s:Shared) (σ:St) (H:Hp) (x y:V) (u v:Value) (Q:VK),Inv X pins σ H s->RelV x u->RelV y v->rd x y H Q->wpAny (model X.prog X.w) X.A (inplaceOp op u v) (EP X pins σ Q) X.xe s
noncomputable def U4 (K:ae)(ta tv:TE)(rd:V->V->Hp->VK->Prop)(f:Str):TS:=λD σ H=>ta σ H λx H1=>∃a C dx fs v,x= .ref a/\H1 a=some (.ins C dx fs)/\cy K C/\aQ K C f/\fs.lookup f=some v/\
 tv σ H1 λy H2=>rd v y H2 λz H3=>∃dx' fs',H3 a=some (.ins C dx' fs')/\fs'.length<1000/\D.nx σ (upd H3 a (.ins C dx' (eW f z fs')))
section
variable {X:Cx}{o e value:Expr}{f:Str}{pos pos' tpos:Pos}{ta tv:TE}
theorem Wv(he:PE X e ta)(hb:attributeBase e f X.env (eval e X.env)=eval e X.env):PE X (.Attribute e f pos) (OJ X.K ta f):=by
 intro pins s σ H Q I h;refine HR hb (ay (he pins s σ H _ I h) λu s1 zz=>?_);obtain⟨x,H1,I1,rx,a,C,dx,fs,v,ex,ea,c,n,l,q⟩:=zz
 subst ex;obtain rfl:u=Value.ref a:=rx;exact FE I1 ea c n l λu' s2 I2 ru=>⟨v,H1,I2,ru,q⟩
theorem Wj(ha:PE X o ta)(hv:PE X value tv)(hs:swapsWith value (some (.Attribute o f pos')) pos.line X.env=pure false):PS X (.Assign [.Attribute o f pos'] value pos) (OU X.K ta tv f):=by
 intro pins s σ H D I h;refine plainObj_wpAny_Assign_Attribute (ay (hv pins s σ H _ I h) λu s1 ⟨y,H1,I1,ry,q⟩=>ay (ha pins s1 σ H1 _ I1 q) λov s2 zz=>?_) hs;obtain⟨x,H2,I2,rx,a,C,dx,fs,ex,ea,c,n,l,q2⟩:=zz
 subst ex;obtain rfl:ov=Value.ref a:=rx;exact Fg I2 ea c n l ry λs3 I3=>⟨σ,_,I3,q2⟩
theorem RZ{op:Operator}{rd:V->V->Hp->VK->Prop}(ha:PE X o ta)(hv:PE X value tv)(hop:DP X op rd):PS X (.AugAssign (.Attribute o f tpos) op value pos) (U4 X.K ta tv rd f):=by
 intro pins s σ H D I h;refine wpAny_AugAssign_AttributeAny (ay (ha pins s σ H _ I h) λov s1 zz=>?_);obtain⟨x,H1,I1,rx,a,C,dx,fs,v,ex,ea,c,n,l,q⟩:=zz
 subst ex;obtain rfl:ov=Value.ref a:=rx;refine FE I1 ea c n l λu s2 I2 ru=>ay (hv pins s2 σ H1 _ I2 q) λw3 s3 ⟨y,H2,I3,ry,q3⟩=>ay (hop pins s3 σ H2 v y u w3 _ I3 ru ry q3) λw4 s4 zz=>?_;obtain⟨z,H3,I4,rz,dx',fs',ea',l',q4⟩:=zz
 exact Fg I4 ea' c n l' rz λs5 I5=>⟨σ,_,I5,q4⟩
def yu:V->V->Hp->VK->Prop:=λx y H Q=>∃i j,x= .int i/\y= .int j/\Q (.int (i+j)) H
theorem W6:DP X .Add yu:=by
 rintro pins s σ H x y u v Q I rx ry ⟨i,j,rfl,rfl,q⟩;obtain⟨t,rfl⟩:=(show ∃t,u=Value.int i t from rx)
 obtain⟨t',rfl⟩:=(show ∃t',v=Value.int j t' from ry)
 exact PyProof.Rows.iadd_int ⟨.int (i+j),H,I.tok _,⟨_,rfl⟩,q⟩
end
section
variable {X:Cx}{pins:aG}{σ:St}{H:Hp}{s:Shared}{A:Around}{E:aP}{Q:aP}{c:Value}{b:Bool}
inductive jf(K:ae)(H:Hp):V->Value->Prop where
 |ao:jf K H .ao (.type "NoneType")
 |bl (x:Bool):jf K H (.bl x) (.type "bool")
 |int (i:Int):jf K H (.int i) (.type "int")
 |str (x:Str):jf K H (.str x) (.type "str")
 |k9 (x:UInt64):jf K H (.k9 x) (.type "float")
 |lst {a:Addr} {xs:LV} (e:H a=some (.lst xs)):jf K H (.ref a) (.type "list")
 |aV {a:Addr} {o:Obj} {xs:LV} (e:H a=some (.aV o (.lst xs))):jf K H (.ref a) (.type "list")
 |tup {a:Addr} {xs:LV} (e:H a=some (.tup xs)):jf K H (.ref a) (.type "tuple")
 |dK {a:Addr} {kvs:List (Key×V)} (e:H a=some (.dK kvs)):jf K H (.ref a) (.type "dict")
 |dT {a:Addr} {kvs:List (List bJ×V)} (e:H a=some (.dT kvs)):jf K H (.ref a) (.type "dict")
 |ins {a C dx:Addr} {fs:List (Str×V)} (e:H a=some (.ins C dx fs)) (cl:cy K C) (ha:PySem.W.findIn K (.ref C) "__class__" =some (some (.builtin "object.__class__")))
  (hn:PySem.W.specialIn K (.builtin "object.__class__") "__get__" =some (some (.builtin "getset_descriptor.__get__"))) (htk:PySem.W.takesIn K (.builtin "object.__class__")=some true)
  (hm:PySem.W.mroIn K C (.type "object")=some true):jf K H (.ref a) (.ref C)
end
structure aH(k:Nat)(A:Around):Prop where
 hd:A.handled=none
 dp:A.depth+3*k+5<recursionLimit
 un:A.units+16*k+200<cLine
theorem aH.mono{j k:Nat}{A:Around}(r:aH k A)(h:j<=k):aH j A:=⟨r.hd,by have:=r.dp;omega,by have:=r.un;omega⟩
theorem aH.deeper{k:Nat}{A:Around}(r:aH (k+1) A)(env:Env):aH k (A.deeper env):=
 ⟨r.hd,by have:=r.dp;show A.depth+1+3*k+5<_;omega,by have:=r.un;show A.units+3+16*k+200<_;omega⟩
theorem RP{A:Around}{C:Addr}{us:aq}{kw:List (Str×Value)}:(A.under (.builtin "type.__call__" ⟨.ref C::us,kw⟩)).depth=A.depth+1:=by
 first|rfl|simp[Around.under,Code.weight,Code.isCreation,Code.isGuard,Code.isCaller,Code.frames,Code.isFrame,guardIds]
theorem RN{A:Around}{C:Addr}{us:aq}{kw:List (Str×Value)}:(A.under (.builtin "type.__call__" ⟨.ref C::us,kw⟩)).units=A.units+1:=by
 first|rfl|simp[Around.under,Code.cUnits,Code.frames,Code.isFrame]
theorem aH.make{k:Nat}{A:Around}(r:aH (k+1) A)(C:Addr)(us:aq)(kw:List (Str×Value)):aH k (A.under (.builtin "type.__call__" ⟨.ref C::us,kw⟩)):=
 ⟨r.hd,by have:=r.dp;rw[RP];omega,by have:=r.un;rw[RN];omega⟩
theorem aH.depth{k:Nat}{A:Around}(r:aH k A):A.depth<recursionLimit:=by have:=r.dp;omega
theorem aH.units{k:Nat}{A:Around}(r:aH k A):A.units+64<cLine:=by have:=r.un;omega
def yB:TA:=λ_ H Q=>Q [] H
def X8(ta:TE)(tr:TA):TA:=λσ H Q=>ta σ H λx H1=>tr σ H1 λxs H2=>Q (x::xs) H2
section
variable {X:Cx}{e:Expr}{es:aX}{te:TE}{t:TA}{pos:Pos}
theorem Wx:PA X [] yB:=λ_ _ _ _ H Q I h=>Calls.spliced_nil ⟨[],H,I,.nil,h⟩
theorem UT(ha:PE X e te)(hr:PA X es t)(hs:starEach (e::es) X.env=(false,eval e X.env)::starEach es X.env:=by rfl):PA X (e::es) (X8 te t):=by
 intro pos pins s σ H Q I h;rw[hs];show wpAny _ _ (spliced ((false,eval e X.env)::backTo pos (starEach es X.env))) _ _ s;refine Calls.spliced_cons (ay (ha pins s σ H _ I h) λu s1 zz=>?_);obtain⟨x,H1,I1,r1,q1⟩:=zz
 exact ay (hr pos pins s1 σ H1 _ I1 q1) λus s2 ⟨xs,H2,I2,r2,q2⟩=>⟨x::xs,H2,I2,.cons r1 r2,q2⟩
def OY(t:TA):TE:=λσ H Q=>t σ H λxs H1=>xs.length<=sizeLine/\∀p,H1 p=none->Q (.ref p) (upd H1 p (.tup xs))
def OG(t:TA):TE:=λσ H Q=>t σ H λxs H1=>xs.length<=sizeLine/\∀p,H1 p=none->Q (.ref p) (upd H1 p (.lst xs))
theorem Wo{x1}(h:PA X es t):PE X (.Tuple es x1 pos) (OY t):=by
 intro pins s σ H Q I hq;refine wpAny_Tuple_spliced (ay (h pos pins s σ H _ I hq) λus s1 ⟨xs,H1,I1,r,z,q⟩=>⟨by rw[<-r.length];exact z,?_⟩)
 have hf:H1 s1.heap.objs.size=none:=I1.au.fresh (aS _);refine⟨.ref s1.heap.objs.size,upd H1 s1.heap.objs.size (.tup xs),I1.laid (t':=s1.toks) (λb u e=>bT _ e) (aS _) ?_,rfl,q _ hf⟩
 exact⟨z,us,r,⟨_,eJ _ rfl,rfl,_,rfl⟩⟩
theorem IL(h:PA X es t):PE X (.List es pos) (OG t):=by
 intro pins s σ H Q I hq;refine wpAny_List_spliced (ay (h pos pins s σ H _ I hq) λus s1 ⟨xs,H1,I1,r,z,q⟩=>⟨by rw[<-r.length];exact z,?_⟩)
 have hf:H1 s1.heap.objs.size=none:=I1.au.fresh (aS _);refine⟨.ref s1.heap.objs.size,upd H1 s1.heap.objs.size (.lst xs),I1.laid (t':=s1.toks) (λb u e=>bT _ e) (aS _) ?_,rfl,q _ hf⟩
 exact⟨z,us,0,r,eJ _ rfl⟩
end
abbrev Sp:=LV->Hp->VK->XK->Prop
abbrev iU:=List Env->Hp->Shared->XK->aP
structure fJ(P:Program)(w:World)(K:ae)(mg:bj)(base:Heap)(A:Around)(outer:List Env)(s:Shared)(H:Hp):Prop where
 frames:A.frames=some outer
 mod:Mod K mg base
 bs:∀b o,base.get? b=some o->s.heap.get? b=some o/\H b=none
 iY:base.objs.size<=s.heap.objs.size
 dh:s.heap.FunFrames base outer
 mK:∀b∈gX outer,H b=none
 au:cz P w H s.heap
 bare:AllBare s.gens
def CE(outer:List Env)(P:Program)(w:World)(H:Hp)(s:Shared)(Q:VK)(u:Value)(s':Shared):Prop:=
 ∃v H',s'.os=s.os/\AllBare s'.gens/\Un (gX outer) [] H H' s.heap s'.heap/\cz P w H' s'.heap/\RelV v u/\Q v H'
def CR(CX:iU)(outer:List Env)(P:Program)(w:World)(H:Hp)(s:Shared)(Q:VK)(E:XK)(r:Result)(s':Shared):Prop:=
 match r with
 | .ok (.ret u)=>CE outer P w H s Q u s'
 | .ok _=>False
 | .error e=>CX outer H s E e s'
structure c6(P:Program)(w:World)(K:ae)(mg:bj)(base:Heap)(CX:iU)(k:Nat)(f:Addr)(fd:FuncData)(ps:az)(sp:Sp):Prop where
 len:∀vs H Q E,sp vs H Q E->vs.length=ps.length
 run:∀(A:Around) (outer:List Env) (s:Shared) (H:Hp) (args:Args) (us:aq) (vs:LV) (Q:VK) (E:XK),aH k A->fJ P w K mg base A outer s H->BindsTo s fd args (ps.zip us)->Vals vs us->sp vs H Q E->
  codeAny (model P w) A (.call (.ref f) args) (CR CX outer P w H s Q E) s
theorem fJ.make{P:Program}{w:World}{K:ae}{mg:bj}{base:Heap}{A:Around}{outer:List Env}{s:Shared}{H:Hp}(e:fJ P w K mg base A outer s H)(C:Addr)(us:aq)(kw:List (Str×Value)):
 fJ P w K mg base (A.under (.builtin "type.__call__" ⟨.ref C::us,kw⟩)) outer s H:=⟨by first|exact e.frames|(simpa[Around.under,Code.envs,Code.isFrame,pushEnvs]using e.frames),e.mod,e.bs,e.iY,e.dh,e.mK,e.au,e.bare⟩
section
variable {X:Cx}{pins:aG}{σ:St}{H:Hp}{s s':Shared}
theorem Inv.sI(I:Inv X pins σ H s):fJ X.prog X.w X.K X.mg X.base X.A X.stack s H:=
 ⟨I.ok.frames,I.ok.mod,I.bs,bG I.ok.iY I.sz,I.stack,I.fq,I.au,I.bare⟩
theorem Inv.after{Q:VK}{u:Value}(I:Inv X pins σ H s)(h:CE X.stack X.prog X.w H s Q u s'):EP X pins σ Q u s':=by
 obtain⟨v,H',os,bare,un,au,r,q⟩:=h;obtain⟨hh,g,d,t,os'⟩:=s';obtain rfl:os'=s.os:=os;exact⟨v,H',I.call (h':=hh) (g':=g) (d':=d) (t':=t) (ch:=[]) un au bare (λb z=>bp z (by simp)),r,q⟩
end
def Jp(sp:Sp)(dvs:LV)(E:XK)(t:TA):TE:=λσ H Q=>t σ H λvs H1=>sp (vs++dvs) H1 Q E
noncomputable def A7 (C:Addr)(m:Str)(sp:Sp)(dvs:LV)(E:XK)(ta:TE)(t:TA):TE:=λσ H Q=>ta σ H λx H1=>∃a dx fs,x= .ref a/\H1 a=some (.ins C dx fs)/\fs.lookup m=none/\
 t σ H1 λvs H2=>sp (x::(vs++dvs)) H2 Q E
noncomputable def Jo (C:Addr)(sp:Sp)(dvs:LV)(E:XK)(t:TA):TE:=λσ H Q=>t σ H λvs H1=>∀x dx,H1 x=none->H1 dx=none->dx≠x->
 sp (.ref x::(vs++dvs)) (upd (upd H1 dx (.own x)) x (.ins C dx [])) (λv H2=>v= .ao/\Q (.ref x) H2) E
def Binds(K:ae)(fd:FuncData)(ps:az)(ds:aq):Prop:=
 ∀(s:Shared) (us:aq),K.In s.heap->(us++ds).length=ps.length->BindsTo s fd ⟨us,[]⟩ (ps.zip (us++ds))
theorem Binds.all{K:ae}{fd:FuncData}{ps:az}(h:∀us:aq,us.length=ps.length->bindArgs fd ⟨us,[]⟩=pure (ps.zip us)):Binds K fd ps []:=λs us _ hl=>by
 rw[eY]at hl ⊢;exact .of_eq (h us hl)
def Passes(CX:iU)(X:Cx)(E:XK):Prop:=∀(pins:aG) (σ:St) (H:Hp) (s:Shared) (e:Value) (s':Shared),Inv X pins σ H s->CX X.stack H s E e s'->X.xe e s'
section
variable {X:Cx}{CX:iU}{k:Nat}{f C:Addr}{fd:FuncData}{ps:az}{sp:Sp}{dvs:LV}{ds:aq}{E:XK}{x m:Str}{p pos apos:Pos}{e o:Expr}{es:aX}{ta:TE}{t:TA}
theorem uG{pins:aG}{σ:St}{H:Hp}{s:Shared}{Q:VK}{us:aq}{vs:LV}(F:c6 X.prog X.w X.K X.mg X.base CX k f fd ps sp)(hr:aH k X.A)(hb:Binds X.K fd ps ds)(hd:Vals dvs ds)(hx:Passes CX X E)
 (I:Inv X pins σ H s) (r:Vals vs us) (h:sp (vs++dvs) H Q E):wpAny (model X.prog X.w) X.A (call (.ref f) us) (EP X pins σ Q) X.xe s:=by
 have r2:Vals (vs++dvs) (us++ds):=r.append hd;have hl:(us++ds).length=ps.length:=by rw[<-r2.length];exact F.len _ _ _ _ h
 refine wpAny_call (codeAny_mono (F.run X.A X.stack s H ⟨us,[]⟩ (us++ds) (vs++dvs) Q E hr I.sI (hb s us I.dj hl) r2 h) λr s' hq=>?_)
 cases r with
 |error e=>exact hx pins σ H s e s' I hq
 |ok fl=>
  cases fl with
  |ret u=>exact I.after hq
  |next=>exact False.elim hq
  |brk=>exact False.elim hq
  |cont=>exact False.elim hq
theorem UR(F:c6 X.prog X.w X.K X.mg X.base CX k f fd ps sp)(hr:aH k X.A)(hg:Gl X x)(hm:X.mg x=some (.ref f))(hk:PySem.W.keepIn X.K (.ref f)=true)(hb:Binds X.K fd ps ds)(hd:Vals dvs ds)(hx:Passes CX X E)
 (ha:PA X (e::es) t) (hdb:(x==("__debug__":Str))=false:=by decide) (he:starEach (e::es) X.env=(false,eval e X.env)::starEach es X.env:=by rfl) (hpl:(backTo pos (starEach es X.env)).any (·.1)=false:=by rfl):
 PE X (.Call (.Name x p) (e::es) [] pos) (Jp sp dvs E t):=by
 intro pins s σ H Q I h;refine wpAny_Call_Name_kw (mP I hg hm ?_ hdb);refine zc (h₀:=X.base) I.ok.mod.js hk (ay (ha pos pins s σ H _ I h) λus s1 ⟨vs,H1,I1,r,q⟩=>⟨I1.dj,?_⟩) he hpl
 exact uG F hr hb hd hx I1 r q
theorem S2(F:c6 X.prog X.w X.K X.mg X.base CX k f fd ps sp)(hr:aH k X.A)(hg:Gl X x)(hm:X.mg x=some (.ref f))(hk:PySem.W.keepIn X.K (.ref f)=true)(hb:Binds X.K fd ps ds)(hd:Vals dvs ds)(hx:Passes CX X E)
 (hdb:(x==("__debug__":Str))=false:=by decide):PE X (.Call (.Name x p) [] [] pos) (Jp sp dvs E yB):=by
 intro pins s σ H Q I h;refine wpAny_Call_Name_kw (mP I hg hm ?_ hdb);exact PySem.W.callWith_K0 I.dj hk (uG (us:=[]) F hr hb hd hx I .nil h)
theorem UN{pl:Sem Bool}(he:PE X o ta)(c:cy X.K C)(hm:Meth X.K C m f)(F:c6 X.prog X.w X.K X.mg X.base CX k f fd ps sp)(hr:aH k X.A)(hb:Binds X.K fd ps ds)(hd:Vals dvs ds)(hx:Passes CX X E)(ha:PA X (e::es) t)
 (hst:starEach (e::es) X.env=(false,eval e X.env)::starEach es X.env:=by rfl) (hpl:(backTo pos (starEach es X.env)).any (·.1)=false:=by rfl)
 (ht:eval (.Call (.Attribute o m apos) (e::es) [] pos) X.env=(do
  let ov<-eval o X.env
  standAt apos.atName
  let(f,first) <-holding [ov] (getMethod ov m pl)
  callWith pos f first (backTo pos (starEach (e::es) X.env)) (backToKw pos (keywordEach [] X.env))):=by rfl):
 PE X (.Call (.Attribute o m apos) (e::es) [] pos) (A7 C m sp dvs E ta t):=by
 intro pins s σ H Q I h;refine PySem.W.methodCall_KW (pl:=pl) (ay (he pins s σ H _ I h) λu s1 zz=>?_) ht;obtain⟨x,H1,I1,rx,a,dx,fs,ex,ea,l,q⟩:=zz
 subst ex;obtain rfl:u=Value.ref a:=rx;refine FC I1 ea c hm l ?_;refine zc (first:=[.ref a]) (h₀:=X.base) I.ok.mod.js hm.kp (ay (ha pos pins s1 σ H1 _ I1 q) λus s2 ⟨vs,H2,I2,r,q2⟩=>⟨I2.dj,?_⟩) hst hpl
 exact uG (us:=.ref a::us) (vs:=.ref a::vs) F hr hb hd hx I2 (.cons rfl r) q2
theorem Tt{pl:Sem Bool}(he:PE X o ta)(c:cy X.K C)(hm:Meth X.K C m f)(F:c6 X.prog X.w X.K X.mg X.base CX k f fd ps sp)(hr:aH k X.A)(hb:Binds X.K fd ps ds)(hd:Vals dvs ds)(hx:Passes CX X E)
 (ht:eval (.Call (.Attribute o m apos) [] [] pos) X.env=(do
  let ov<-eval o X.env
  standAt apos.atName
  let(f,first) <-holding [ov] (getMethod ov m pl)
  callWith pos f first (backTo pos (starEach [] X.env)) (backToKw pos (keywordEach [] X.env))):=by rfl):
 PE X (.Call (.Attribute o m apos) [] [] pos) (A7 C m sp dvs E ta yB):=by
 intro pins s σ H Q I h;refine PySem.W.methodCall_KW (pl:=pl) (ay (he pins s σ H _ I h) λu s1 zz=>?_) ht;obtain⟨x,H1,I1,rx,a,dx,fs,ex,ea,l,q⟩:=zz
 subst ex;obtain rfl:u=Value.ref a:=rx;refine FC I1 ea c hm l ?_;exact PySem.W.callWith_K0 (first:=[.ref a]) I1.dj hm.kp (uG (us:=[.ref a]) (vs:=[.ref a]) F hr hb hd hx I1 (.cons rfl .nil) q)
structure Mk(K:ae)(C f:Addr):Prop where
 makes:PySem.W.makesIn K C=true
 init:PySem.W.findIn K (.ref C) "__init__" =some (some (.ref f))
 fn:PySem.W.isFn K (.ref f)=true
 kp:PySem.W.keepIn K (.ref C)=true
theorem Gs{pins:aG}{σ:St}{H:Hp}{s:Shared}{Q:VK}{us:aq}{vs:LV}(M:Mk X.K C f)(F:c6 X.prog X.w X.K X.mg X.base CX k f fd ps sp)(hr:aH (k+1) X.A)(hb:Binds X.K fd ps ds)(hd:Vals dvs ds)
 (hx:Passes CX X E) (I:Inv X pins σ H s) (r:Vals vs us)
 (h:∀x dx,H x=none->H dx=none->dx≠x->sp (.ref x::(vs++dvs)) (upd (upd H dx (.own x)) x (.ins C dx [])) (λv H2=>v= .ao/\Q (.ref x) H2) E):
 wpAny (model X.prog X.w) X.A (call (.ref C) us) (EP X pins σ Q) X.xe s:=by
 have hq:=h (s.heap.objs.size+1) s.heap.objs.size (I.au.fresh (Nat.le_succ _)) (I.au.fresh (aS _)) (cS (Nat.lt_succ_self _));have I2:=Inv.made (C:=C) I;have r2:Vals (V.ref (s.heap.objs.size+1)::(vs++dvs)) (Value.ref (s.heap.objs.size+1)::(us++ds)):=.cons rfl (r.append hd);have hl:(Value.ref (s.heap.objs.size+1)::us++ds).length=ps.length:=by
  have e:=r2.length;rw[F.len _ _ _ _ hq]at e;exact e.symm
 refine wpAny_call (Ub (f:=f) I.dj M.makes M.init (eX.mp M.fn) (codeAny_mono (F.run _ X.stack _ _ ⟨Value.ref (s.heap.objs.size+1)::us,[]⟩ (Value.ref (s.heap.objs.size+1)::(us++ds)) _ _ E (hr.make C us [])
  (I2.sI.make C us []) (hb _ (Value.ref (s.heap.objs.size+1)::us) I2.dj hl) r2 hq) λr s' hq'=>?_))
 cases r with
 |error e=>exact hx pins σ _ _ e s' I2 hq'
 |ok fl=>
  cases fl with
  |ret u=>
   obtain⟨v,H',I3,rv,ev,q3⟩:=I2.after hq';subst ev;exact⟨rv,⟨V.ref (s.heap.objs.size+1),H',I3,rfl,q3⟩⟩
  |next=>exact False.elim hq'
  |brk=>exact False.elim hq'
  |cont=>exact False.elim hq'
theorem UO(M:Mk X.K C f)(F:c6 X.prog X.w X.K X.mg X.base CX k f fd ps sp)(hr:aH (k+1) X.A)(hg:Gl X x)(hm:X.mg x=some (.ref C))(hb:Binds X.K fd ps ds)(hd:Vals dvs ds)(hx:Passes CX X E)
 (ha:PA X (e::es) t) (hdb:(x==("__debug__":Str))=false:=by decide) (he:starEach (e::es) X.env=(false,eval e X.env)::starEach es X.env:=by rfl) (hpl:(backTo pos (starEach es X.env)).any (·.1)=false:=by rfl):
 PE X (.Call (.Name x p) (e::es) [] pos) (Jo C sp dvs E t):=by
 intro pins s σ H Q I h;refine wpAny_Call_Name_kw (mP I hg hm ?_ hdb);refine zc (h₀:=X.base) I.ok.mod.js M.kp (ay (ha pos pins s σ H _ I h) λus s1 ⟨vs,H1,I1,r,q⟩=>⟨I1.dj,?_⟩) he hpl
 exact Gs M F hr hb hd hx I1 r q
theorem SR(M:Mk X.K C f)(F:c6 X.prog X.w X.K X.mg X.base CX k f fd ps sp)(hr:aH (k+1) X.A)(hg:Gl X x)(hm:X.mg x=some (.ref C))(hb:Binds X.K fd ps ds)(hd:Vals dvs ds)(hx:Passes CX X E)
 (hdb:(x==("__debug__":Str))=false:=by decide):PE X (.Call (.Name x p) [] [] pos) (Jo C sp dvs E yB):=by
 intro pins s σ H Q I h;refine wpAny_Call_Name_kw (mP I hg hm ?_ hdb);exact PySem.W.callWith_K0 I.dj M.kp (Gs (us:=[]) M F hr hb hd hx I .nil h)
end
section
variable {X:Cx}{CX:iU}{k:Nat}{f C:Addr}{fd:FuncData}{ps ks:az}{sp:Sp}{E:XK}{x m:Str}{p pos apos kpos:Pos}{e o:Expr}{es:aX}{kws:List Keyword}{te ta:TE}{t tk:TA}{nm:Option Str}
structure qBX(K:ae)(fd:FuncData)(ps ks:az)(g:aq->aq->aq)(gV:LV->LV->LV):Prop where
 to:∀(s:Shared) (us ws:aq),K.In s.heap->(g us ws).length=ps.length->BindsTo s fd ⟨us,ks.zip ws⟩ (ps.zip (g us ws))
 rel:∀{vs:LV} {us:aq} {zs:LV} {ws:aq},Vals vs us->Vals zs ws->Vals (gV vs zs) (g us ws)
variable {g:aq->aq->aq}{gV:LV->LV->LV}
end
structure qW(N P:az)(sc:Scope):Prop where
 kind:sc.kind= .function
 co:sc.isCoroutine=false
 gen:sc.isGenerator=false
 nd:N.Nodup
 pre:N.take P.length=P
 par:∀x∈P,sc.names.lookup x=some .local∨sc.names.lookup x=some .cell
 o9:∀y∈sc.names,y.2≠.free
theorem Gi{kindOf:Str->Option NameKind}{x:Str}:∀{binds:List (Str×Value)} {m:bj},(∀v,(x,v)∉binds)->bindL kindOf binds m x=m x
 | [],_,_=>rfl
 |(n,v)::r,m,h=>by
  unfold bindL;rw[Gi λw hw=>h w (gk _ hw)]
  split
  . have:x≠n:=by rintro rfl;exact h v iA
    simp[this]
  . rfl
theorem Gk{kindOf:Str->Option NameKind}{x:Str}:∀{binds:List (Str×Value)} {m:bj},(∀v,(x,v)∉binds)->bindC kindOf binds m x=m x
 | [],_,_=>rfl
 |(n,v)::r,m,h=>by
  unfold bindC;rw[Gk λw hw=>h w (gk _ hw)]
  split
  . rfl
  . have:x≠n:=by rintro rfl;exact h v iA
    simp[this]
theorem Gj{kindOf:Str->Option NameKind}{x:Str}{v:Value}:∀{P:az} {vs:aq} {i:Nat} {m:bj},P.Nodup->P[i]? =some x->vs[i]? =some v->kindOf x=some .local->
 bindL kindOf (P.zip vs) m x=some v
 | [],_,_,_,_,h,_,_=>by simp at h
 |_::_,[],_,_,_,_,h,_=>by simp at h
 |p::P,w::vs,0,m,nd,h1,h2,hk=>by
  simp at h1 h2;subst h1;subst h2;show bindL kindOf ((p,w)::P.zip vs) m p=_;unfold bindL;rw[Gi λv hv=>(fV.mp nd).1 (List.of_mem_zip hv).1,ar hk]
  simp
 |p::P,w::vs,i+1,m,nd,h1,h2,hk=>by
  show bindL kindOf ((p,w)::P.zip vs) m x=_;unfold bindL;exact Gj (i:=i) (fV.mp nd).2 (by simpa using h1) (by simpa using h2) hk
theorem Gm{kindOf:Str->Option NameKind}{x:Str}{v:Value}:∀{P:az} {vs:aq} {i:Nat} {m:bj},P.Nodup->P[i]? =some x->vs[i]? =some v->kindOf x≠some .local->
 bindC kindOf (P.zip vs) m x=some v
 | [],_,_,_,_,h,_,_=>by simp at h
 |_::_,[],_,_,_,_,h,_=>by simp at h
 |p::P,w::vs,0,m,nd,h1,h2,hk=>by
  simp at h1 h2;subst h1;subst h2;show bindC kindOf ((p,w)::P.zip vs) m p=_;unfold bindC;rw[Gk λv hv=>(fV.mp nd).1 (List.of_mem_zip hv).1,ag hk]
  simp
 |p::P,w::vs,i+1,m,nd,h1,h2,hk=>by
  show bindC kindOf ((p,w)::P.zip vs) m x=_;unfold bindC;exact Gm (i:=i) (fV.mp nd).2 (by simpa using h1) (by simpa using h2) hk
noncomputable def start (N:az)(vs:LV):St:=vs.map some++List.replicate (N.length-vs.length) none
noncomputable def nq (CX:iU)(P:Program)(w:World)(K:ae)(mg:bj)(base:Heap)(N:az)(qual:Str)(scope:Scope)(f:Addr)(cd:Value)(A:Around)(outer:List Env)(s:Shared)(H:Hp)(E:XK):Cx where
 prog:=P
 w:=w
 K:=K
 mg:=mg
 base:=base
 A:=A.deeper (envOfC qual scope s.heap.objs.size f cd)
 N:=N
 s₀:=s
 H₀:=H
 env:=envOfC qual scope s.heap.objs.size f cd
 outer:=outer
 stack:=envOfC qual scope s.heap.objs.size f cd::outer
 ex:=[]
 calm:=true
 fn:=λ_=>true
 pn:=[]
 xe:=λe s'=>wpAny (model P w) (A.deeper (envOfC qual scope s.heap.objs.size f cd)) (leaving (envOfC qual scope s.heap.objs.size f cd) e) (λ_ s''=>CX outer H s E e s'') (λe' s''=>CX outer H s E e' s'') s'
theorem Gq{sc:Scope}{n:Nat}{x:Str}(h:sc.names.lookup x=some .cell):∃c,(cellsFrom n sc.names []).lookup x=some c:=by
 have q:=PySem.W.cellsFrom_some sc.names n [] (.inl h);exact zk.mp q
theorem SQ{CX:iU}{P:Program}{w:World}{K:ae}{mg:bj}{base:Heap}{N ps:az}{qual:Str}{scope:Scope}{f:Addr}{cd:Value}{A:Around}{outer:List Env}{s s1:Shared}{H:Hp}{E:XK}{us:aq}{vs:LV}
 (S:qW N ps scope) (hd:A.handled=none) (e0:fJ P w K mg base A outer s H) (hl:vs.length=ps.length) (r:Vals vs us)
 (x:InCallC s s.heap.objs.size (bindL (envOfC qual scope s.heap.objs.size f cd).kindOf (ps.zip us) λ_=>none) (cellsFrom (s.heap.objs.size+1) scope.names []) (bindC (envOfC qual scope s.heap.objs.size f cd).kindOf (ps.zip us) λ_=>none) s1):
 Inv (nq CX P w K mg base N qual scope f cd A outer s H E) [] (start N vs) H s1:=by
 have hpl:ps.length<=N.length:=by have:=congrArg List.length S.pre;rw[vB]at this;omega
 obtain⟨h1,tk,rfl,hk⟩:=x.done;have noA:∀b:Addr,b∉(nq CX P w K mg base N qual scope f cd A outer s H E).ex:=λb z=>bp (show b∈([]:List Addr)from z) (by simp)
 refine⟨⟨e0.mod,S.kind,rfl,rfl,aS _,λy z c h1 h2=>?_,λy hy=>?_,λy c _ h=>?_,λ_=>hd,Around.frames_deeper e0.frames,.inr ⟨rfl,rfl⟩,λb z=>bp z (noA b),e0.bs,e0.iY,λb _ _=>noA b,λb z=>bp z (noA b),e0.dh,e0.mK⟩,
  rfl,e0.bare,Un.kept hk,⟨_,x.toInCall.ns,λi y v h1 h2 h3=>?_⟩,λy c h=>⟨_,x.cell y c h⟩,e0.au.fresh (aS _),λy c h=>?_,λp hp=>bp (show p∈([]:aG)from hp) (by simp),e0.au.kept hk,?_⟩
 . exact name_of_addr x.apart (PySem.mem_of_lookup h1) (PySem.mem_of_lookup h2)
 . have hy:scope.names.lookup y=some .cell∨scope.names.lookup y=some .free:=hy
   rcases hy with hy|hy
   . exact Gq hy
   . exact bp rfl (S.o9 _ (PySem.mem_of_lookup hy))
 . exact Nat.le_of_lt (x.above y c (PySem.mem_of_lookup h))
 . have hi:i<vs.length:=by
    unfold start at h2
    by_cases hi:i<vs.length
    . exact hi
    . rw[List.getElem?_append_right (by simpa using hi)]at h2
      rw[List.getElem?_replicate]at h2;split at h2<;>cases h2
   have ha:vs[i]? =some v:=by
    unfold start at h2;rw[qi (by simpa using hi),gj]at h2
    cases e:vs[i]? with
    |none=>rw[e]at h2;cases h2
    |some a=>rw[e]at h2;cases h2;rfl
   obtain⟨u,hu,rv⟩:=r.get ha;have hp:ps[i]? =some y:=by
    rw[<-S.pre,List.getElem?_take_of_lt ∅];exact h1
   have ndP:ps.Nodup:=by rw[<-S.pre];exact S.nd.sublist (List.take_sublist _ _)
   refine⟨u,rv,?_⟩;rcases S.par y (jG hp)with k|k
   . exact .inl ⟨k,Gj ndP hp hu k⟩
   . obtain⟨c,e⟩:=Gq (n:=s.heap.objs.size+1) k
     refine .inr ⟨.inl k,c,e,?_⟩;have q:=x.cell y c e;rw[Gm ndP hp hu (by show scope.names.lookup y≠_;rw[k];decide)]at q
     exact q
 . exact e0.au.fresh (Nat.le_of_lt (x.above y c (PySem.mem_of_lookup h)))
 . unfold start
   show _=N.length;rw[cN,bw,zo];omega
theorem ZG{CX:iU}{P:Program}{w:World}{K:ae}{mg:bj}{base:Heap}{k:Nat}{f:Addr}{name qual:Str}{params:Arguments}{body:List Stmt}{scope:Scope}{dV kV doc pm cdv ct oc:Value}{an od:Option Addr}
 {osl:Array (cI)} {N ps:az} {sp:Sp} (lk:K.lookup f=some ⟨oc,od,.func (PySem.W.fnOf name qual params body scope dV kV doc pm an cdv ct),osl⟩) (hcd:PySem.W.codeIn K cdv qual=true) (S:qW N ps scope)
 (len:∀vs H Q E,sp vs H Q E->vs.length=ps.length)
 (hbody:∀(A:Around) (outer:List Env) (s:Shared) (H:Hp) (vs:LV) (Q:VK) (E:XK),aH k (A.deeper (envOfC qual scope s.heap.objs.size f cdv))->sp vs H Q E->
  ∃t,fx (nq CX P w K mg base N qual scope f cdv A outer s H E) body t/\t { nx:=λ_ H'=>Q .ao H',rt:=Q } (start N vs) H):
 c6 P w K mg base CX (k+1) f (PySem.W.fnOf name qual params body scope dV kV doc pm an cdv ct) ps sp:=by
 refine⟨len,λA outer s H args us vs Q E hr e0 hb r hsp=>?_⟩
 have hl:=len _ _ _ _ hsp;have KX:K.In s.heap:=e0.mod.js.keeps λb o e=>(e0.bs b o e).1
 have lim:s.heap.NoLimit:=e0.mod.nolimit.keeps λb o e=>(e0.bs b o e).1
 have bD:∀y∈ps.zip us,scope.names.lookup y.1=some .local∨(scope.names.lookup y.1=some .cell/\((cellsFrom (s.heap.objs.size+1) scope.names []).lookup y.1).isSome=true):=λ⟨n,v⟩ hy=>by
  rcases S.par n (List.of_mem_zip hy).1 with q|q
  . exact .inl q
  . exact .inr ⟨q,PySem.W.cellsFrom_some _ _ _ (.inl q)⟩
 refine codeAny_call_function hr.depth (KX _ _ lk) rfl S.co S.gen rfl (PySem.W.codeRec_of KX hcd) (hb _ _ _ _ ?_);refine wpAny_newFunctionEnv_cells S.kind bD λenv he s1 x=>?_
 subst he;refine⟨lim.keeps x.toInCall.keep,codeAny_func ?_⟩;obtain⟨t,ht,hq⟩:=hbody A outer s H vs Q E (hr.deeper _) hsp;have I:Inv (nq CX P w K mg base N qual scope f cdv A outer s H E) [] (start N vs) H s1:=SQ S hr.hd e0 hl r x;refine gq (ht [] s1 (start N vs) H _ I hq) (λfl s' hs=>?_) λe s' hs=>hs
 have fin:∀{σ':St} {H':Hp} {v:V} {u:Value},Inv (nq CX P w K mg base N qual scope f cdv A outer s H E) [] σ' H' s'->RelV v u->Q v H'->CE outer P w H s Q u s':=
  λ{σ' H' v u} J rv q=>⟨v,H',J.os,J.bare,J.base,J.au,rv,q⟩
 cases fl with
 |ret u=>
  obtain⟨v,σ',H',J,rv,q⟩:=hs;exact fin J rv q
 |next=>
  obtain⟨σ',H',J,q⟩:=hs;exact fin (v:=V.ao) (u:=Value.none) J rfl q
 |brk=>
  obtain⟨_,_,_,q⟩:=hs;exact False.elim q
 |cont=>
  obtain⟨_,_,_,q⟩:=hs;exact False.elim q
section
variable {X:Cx}{x:Str}{p pos:Pos}{e:Expr}{es:aX}{t:TA}{id T:String}{r:LV->Hp->VK->Prop}
def B7(r:LV->Hp->VK->Prop)(t:TA):TE:=λσ H Q=>t σ H λvs H1=>r vs H1 Q
theorem SY(hc:cZ X (.builtin id) r)(hg:Gl X x)(hm:X.mg x=none)(hv:bootBuiltins x=some (.builtin id))(ha:PA X (e::es) t)(hn:x≠"__name__":=by decide)(hdb:(x==("__debug__":Str))=false:=by decide)
 (he:starEach (e::es) X.env=(false,eval e X.env)::starEach es X.env:=by rfl) (hpl:(backTo pos (starEach es X.env)).any (·.1)=false:=by rfl):PE X (.Call (.Name x p) (e::es) [] pos) (B7 r t):=by
 intro pins s σ H Q I h;refine wpAny_Call_Name_kw (m6 I hg hm hv ?_ hn hdb);exact PyProof.Rows.callWith_builtin1 (ay (ha pos pins s σ H _ I h) λus s1 ⟨vs,H1,I1,r1,q1⟩=>hc pins s1 σ H1 vs us Q I1 r1 q1) he hpl
theorem R4(hc:cZ X (.type T) r)(hg:Gl X x)(hm:X.mg x=none)(hv:bootBuiltins x=some (.type T))(ha:PA X (e::es) t)(hn:x≠"__name__":=by decide)(hdb:(x==("__debug__":Str))=false:=by decide)
 (he:starEach (e::es) X.env=(false,eval e X.env)::starEach es X.env:=by rfl) (hpl:(backTo pos (starEach es X.env)).any (·.1)=false:=by rfl):PE X (.Call (.Name x p) (e::es) [] pos) (B7 r t):=by
 intro pins s σ H Q I h;refine wpAny_Call_Name_kw (m6 I hg hm hv ?_ hn hdb);exact vE (ay (ha pos pins s σ H _ I h) λus s1 ⟨vs,H1,I1,r1,q1⟩=>hc pins s1 σ H1 vs us Q I1 r1 q1) he hpl
end
end L2
namespace HT
open PySem PyProof.Rows
section
variable {prog:Program}{w:World}{A:Around}{E:aP}{s:Shared}
theorem jK{t b:Addr}{vs ws:aq}{Q:aP}(ht:IsTup s.heap t vs.toArray)(hb:IsTup s.heap b ws.toArray)(hv:vs≠[])
 (h1:ws= []->Q (.ref t) s) (h2:ws≠[]->Q (.ref s.heap.objs.size) { s with heap:=s.heap.push { cls:=.type "tuple",data:=.seq (vs++ws).toArray } })
 (hsz:vs.length+ws.length<=sizeLine):wpAny (model prog w) A (binaryOp .Add (.ref t) (.ref b)) Q E s:=by
 obtain⟨⟨cls,dd,data,sl⟩,ho,hc,n,hd⟩:=id ht;obtain⟨⟨cls2,dd2,data2,sl2⟩,ho2,hc2,n2,hd2⟩:=id hb;simp only at hc hd hc2 hd2;subst hc hd hc2 hd2;have e:vs.toArray++ws.toArray=(vs++ws).toArray:=by simp
 by_cases hw:ws= []
 . exact concat_meets ⟨_,ho,rfl⟩ ⟨_,ho2,rfl⟩ noFill_tuple_add seq_tuple_add PySem.F.slot_tuple_add PySem.F.entry_tuple_add (PySem.F.args_tuple_add_2 _ _)
    (tuple_addW1 t b vs.toArray ws.toArray n n2 dd dd2 sl sl2 (by simpa using hv) (by simp[hw])) ⟨ho,ho2,h1 hw⟩
 . refine concat_meets ⟨_,ho,rfl⟩ ⟨_,ho2,rfl⟩ noFill_tuple_add seq_tuple_add PySem.F.slot_tuple_add PySem.F.entry_tuple_add (PySem.F.args_tuple_add_2 _ _)
    (tuple_addW2 t b vs.toArray ws.toArray n n2 dd dd2 sl sl2 (by simpa using hv) (by simpa using hw) (by rw[c7,c7];exact hsz)) ⟨ho,ho2,?_⟩
   rw[e];exact h2 hw
noncomputable def aN (n d:Nat):Option Int->Nat
 |none=>d
 |some v=>if v<0 then(v+(n:Int)).toNat else min v.toNat n
theorem ji(n d:Nat):aN n d none=d:=rfl
theorem gK(n d k:Nat):aN n d (some (k:Int))=min k n:=by
 show(if(k:Int)<0 then((k:Int)+(n:Int)).toNat else min (k:Int).toNat n)=min k n
 rw[ag ∅,Int.toNat_natCast]
theorem VT(n d:Nat)(hd:d<=n)(o:Option Int):aN n d o<=n:=by
 cases o with
 |none=>exact hd
 |some v=>
  show(if v<0 then(v+(n:Int)).toNat else min v.toNat n)<=n
  by_cases hv:v<0
  . rw[ar hv];omega
  . rw[ag hv];exact Nat.min_le_right _ _
theorem Hw(v:Int)(n d:Nat):(if v<0 then max (v+(n:Int)) 0 else min v (n:Int))=((aN n d (some v):Nat):Int):=by
 show(if v<0 then max (v+(n:Int)) 0 else min v (n:Int))=(((if v<0 then(v+(n:Int)).toNat else min v.toNat n):Nat):Int)
 by_cases hv:v<0
 . simp only[ar hv];omega
 . simp only[ag hv];omega
theorem Rz(lo hi:Option Int)(n:Nat):Builtin.Slice.sliceAdjust lo hi 1 (n:Int)=(((aN n 0 lo:Nat):Int),((aN n n hi:Nat):Int)):=by
 have h1:¬((1:Int)<0):=by omega
 unfold Builtin.Slice.sliceAdjust;simp only[h1,if_false];refine Prod.ext ?_ ?_
 . cases lo with
   |none=>rfl
   |some v=>exact Hw v n 0
 . cases hi with
   |none=>rfl
   |some v=>exact Hw v n n
theorem RJ(i j:Nat):Builtin.Slice.slicePlaces (i:Int) (j:Int) 1=j-i:=by
 unfold Builtin.Slice.slicePlaces;have h1:(1:Int) > 0:=by omega
 simp only[h1,if_true,Int.ediv_one];split<;>omega
theorem Ff{v:Value}{o:Option Int}{Q:Option Int->Shared->Prop}(p:IsPart v o)(h:Q o s):wpAny (model prog w) A (Builtin.Slice.slicePartIndex v) Q E s:=by
 cases p with
 |none=>exact slicePart_none h
 |int i t=>exact slicePart_int h
theorem E9{sl:Addr}{vl vu:Value}{lo hi:Option Int}{n:Nat}{Q:Int×Int×Nat->Shared->Prop}(hs:s.heap.IsSliceOf sl vl vu .none)(pl:IsPart vl lo)(pu:IsPart vu hi)
 (h:Q (((aN n 0 lo:Nat):Int),1,aN n n hi-aN n 0 lo) s):wpAny (model prog w) A (Builtin.Slice.sliceApplied (.ref sl) (pure (n:Int))) Q E s:=by
 obtain⟨os,hos,hcs,hds⟩:=id hs;unfold Builtin.Slice.sliceApplied Builtin.Slice.sliceFields;refine ai (ai (wpAny_field hos hds (x:=vl) rfl (ai (wpAny_field hos hds (x:=vu) rfl (ai (wpAny_field hos hds (x:=.none) rfl (aJ ?_)))))));refine ai (slicePart_none ?_);show wpAny _ _ (if((1:Int)==0)=true then _ else _) _ _ s
 rw[ag ⋯]
 refine ai (Ff pl (ai (Ff pu (ai (aJ ?_)))));show wpAny _ _ (match Builtin.Slice.sliceAdjust lo hi 1 (n:Int)with|(lo,hi)=>pure (lo,(1:Int),Builtin.Slice.slicePlaces lo hi 1)) _ _ s
 rw[Rz lo hi n];show wpAny _ _ (pure (((aN n 0 lo:Nat):Int),(1:Int),Builtin.Slice.slicePlaces ((aN n 0 lo:Nat):Int) ((aN n n hi:Nat):Int) 1)) _ _ s;rw[RJ];exact aJ h
theorem Tr(xs:Array Value)(i k:Nat):((List.range k).filterMap λ(m:Nat)=>xs[((i:Int)+(m:Int)*1).toNat]?).toArray=((xs.toList.drop i).take k).toArray:=by
 have e:(λ(m:Nat)=>xs[((i:Int)+(m:Int)*1).toNat]?)=λm=>xs[i+m]?:=by
  funext m;have:((i:Int)+(m:Int)*1).toNat=i+m:=by omega
  rw[this]
 rw[e];have:=pick_run xs i k;rw[List.filterMap_map]at this;have e2:((λx=>xs[x]?) ∘ λx=>i+x)=λm=>xs[i+m]?:=rfl
 rw[e2]at this;rw[this]
theorem cV{t sl:Addr}{items:Array Value}{vl vu:Value}{lo hi:Option Int}{Q:aP}(ht:IsTup s.heap t items)(hs:s.heap.IsSliceOf sl vl vu .none)(pl:IsPart vl lo)(pu:IsPart vu hi)
 (hw:¬(aN items.size 0 lo=0/\aN items.size items.size hi=items.size))
 (h:Q (.ref s.heap.objs.size) { s with heap:=s.heap.push { cls:=.type "tuple",data:=.seq ((items.toList.drop (aN items.size 0 lo)).take (aN items.size items.size hi-aN items.size 0 lo)).toArray } })
 (hsz:items.size<=sizeLine):wpAny (model prog w) A (getItem (.ref t) (.ref sl)) Q E s:=by
 have htake:sizeOk (.seq ((items.toList.drop (aN items.size 0 lo)).take (aN items.size items.size hi-aN items.size 0 lo)).toArray):=by
  show((items.toList.drop (aN items.size 0 lo)).take (aN items.size items.size hi-aN items.size 0 lo)).toArray.size<=sizeLine;rw[c7,vB,vC,Array.length_toList];omega
 have hj:aN items.size items.size hi<=items.size:=VT _ _ (aS _) hi;obtain⟨os,hos,hcs,hds⟩:=id hs;have hTs:s.TypeIs (.ref sl) "slice":=⟨os,hos,hcs⟩;unfold getItem
 try with_reducible refine nQ ?_
 first|refine ai (aJ ?_)|skip
 refine ai (wpAny_sequenceKey ht.typeIs ⋯ ?_)
 refine ai (wpAny_callSpecial?_slot (name:=Str.ofString "__getitem__") ht.typeIs zj
  (mC zj ht.typeIs entry_tuple_getitem ?_ (args_tuple_getitem _ _)))
 show wpAny _ _ (Builtin.Tuple.tupleItemsOf (.ref t) >>= _) _ _ s;refine ai (tupleItemsOf_ ht ?_);refine ai (wpAny_typeOf hTs ?_);rw[ar ⋯]
 refine ai (E9 hs pl pu ?_);have hno:¬((((aN items.size 0 lo:Nat):Int)==0&&(1:Int)==1&&(aN items.size items.size hi-aN items.size 0 lo)==items.size)=true):=by
  intro q;rw[aU,aU]at q;have q1:((aN items.size 0 lo:Nat):Int)=0:=fW q.1.1;have q2:aN items.size items.size hi-aN items.size 0 lo=items.size:=fW q.2;exact hw ⟨∅,∅⟩
 show wpAny _ _ (if(((aN items.size 0 lo:Nat):Int)==0&&(1:Int)==1&&(aN items.size items.size hi-aN items.size 0 lo)==items.size)=true then _ else _) _ _ s
 rw[ag hno,Tr]
 first
  |exact ai (m:=Builtin.Tuple.tupleExact _) (jC (aJ ⟨_,rfl,aJ h⟩) htake)
  |exact ai (m:=Builtin.Tuple.tupleExact _) (jC (ai (aJ (aJ ⟨_,rfl,aJ h⟩))) htake)
  |exact ai (ai (m:=Builtin.Tuple.tupleExact _) (jC (aJ (aJ ⟨_,rfl,aJ h⟩)) htake))
  |exact ai (ai (m:=Builtin.Tuple.tupleExact _) (jC (aJ ⟨_,rfl,aJ h⟩) htake))
end
end HT
namespace L2
open PySem PySem.Spec PyProof.Rows
abbrev TO:=St->Hp->(Option Int->Hp->Prop)->Prop
def PO(X:Cx)(e:Option Expr)(t:TO):Prop:=
 ∀(pins:aG) (s:Shared) (σ:St) (H:Hp) (Q:Option Int->Hp->Prop),Inv X pins σ H s->t σ H Q->
  wpAny (model X.prog X.w) X.A (evalPart e X.env) (λu s'=>∃o H',Inv X pins σ H' s'/\IsPart u o/\Q o H') X.xe s
def Uq:TO:=λ_ H Q=>Q none H
def XX(t:TE):TO:=λσ H Q=>t σ H λx H1=>∃i,x= .int i/\Q (some i) H1
section
variable {X:Cx}{e:Expr}{te:TE}{lo hi:Option Expr}{tl th:TO}{pos p2:Pos}
theorem UK:PO X none Uq:=by
 intro pins s σ H Q I h;rw[evalPart_none];exact aJ ⟨none,H,I,.none,h⟩
theorem UJ(h:PE X e te):PO X (some e) (XX te):=by
 intro pins s σ H Q I hw;rw[evalPart_some];refine ay (h pins s σ H _ I hw) λu s1 zz=>?_;obtain⟨x,H1,I1,r1,q1⟩:=zz
 obtain⟨i,rfl,q⟩:=q1;obtain⟨t,rfl⟩:=r1;exact⟨some i,H1,I1,.int i t,q⟩
def sC(X:Cx)(r:V->Option Int->Option Int->Hp->VK->Prop):Prop:=
 ∀(pins:aG) (s:Shared) (σ:St) (H:Hp) (x:V) (v vl vu:Value) (lo hi:Option Int) (sl:Addr) (Q:VK),Inv X pins σ H s->RelV x v->s.heap.IsSliceOf sl vl vu .none->IsPart vl lo->IsPart vu hi->r x lo hi H Q->
  ∃T id,typeLookup (.type T) "__getitem__" =pure (some (.builtin id))/\s.TypeIs v T/\wpAny (model X.prog X.w) X.A (getItem v (.ref sl)) (EP X pins σ Q) X.xe s
noncomputable def Z2 (r:V->Option Int->Option Int->Hp->VK->Prop)(te:TE)(tl th:TO):TE:=λσ H Q=>te σ H λx H1=>tl σ H1 λl H2=>th σ H2 λu H3=>r x l u H3 Q
theorem Ts{r:V->Option Int->Option Int->Hp->VK->Prop}(hr:sC X r)(he:PE X e te)(hl:PO X lo tl)(hu:PO X hi th):PE X (.Subscript e (.Slice lo hi none p2) pos) (Z2 r te tl th):=by
 intro pins s σ H Q I h;refine Subscript_ (ay (he pins s σ H _ I h) λv s1 zz=>?_);obtain⟨x,H1,I1,r1,q1⟩:=zz
 refine wpAny_Slice (ay (hl pins s1 σ H1 _ I1 q1) λvl s2 ⟨l,H2,I2,pl,q2⟩=>ay (hu pins s2 σ H2 _ I2 q2) λvu s3 zz=>?_);obtain⟨u,H3,I3,pu,q3⟩:=zz
 rw[evalPart_none];refine aJ ?_;have I4:Inv X pins σ H3 { s3 with heap:=s3.heap.push { cls:=.type "slice",data:=.fields #[vl,vu,.none] } }:=I3.kept (t':=s3.toks) λb ob q=>bT _ q
 obtain⟨T,id,hT,ht,hg⟩:=hr pins { s3 with heap:=s3.heap.push { cls:=.type "slice",data:=.fields #[vl,vu,.none] } } σ H3 x v vl vu l u s3.heap.objs.size Q I4 r1 (Heap.IsSliceOf.new ..) pl pu q3
 show wpAny (model X.prog X.w) X.A (subscriptTail e (.Slice lo hi none p2) v (.ref s3.heap.objs.size)) (EP X pins σ Q) X.xe { s3 with heap:=s3.heap.push { cls:=.type "slice",data:=.fields #[vl,vu,.none] } }
 exact tail_any (ops:=[.ref s3.heap.objs.size,v]) ht hT hg (by with_unfolding_all rfl)
noncomputable def nu (xs:LV)(lo hi:Option Int):LV:=(xs.drop (HT.aN xs.length 0 lo)).take (HT.aN xs.length xs.length hi-HT.aN xs.length 0 lo)
theorem Fi(xs:LV)(lo hi:Option Int):(nu xs lo hi).length<=xs.length:=by
 unfold nu;rw[vB,vC];omega
noncomputable def Pu (K:ae):V->Option Int->Option Int->Hp->VK->Prop:=λx lo hi H Q=>∃a xs,x= .ref a/\bP K H a xs/\
 ¬(HT.aN xs.length 0 lo=0/\HT.aN xs.length xs.length hi=xs.length)/\∀p,H p=none->Q (.ref p) (upd H p (.tup (nu xs lo hi)))
theorem VP:sC X (Pu X.K):=by
 intro pins s σ H x v vl vu lo hi sl Q I rx hs pl pu h;obtain⟨a,xs,rfl,hx,hw,q⟩:=h;cases rx;obtain⟨ab,r,ht,hz⟩:=I.tuple hx;have hlen:ab.toArray.size=xs.length:=by rw[c7];exact r.length.symm
 refine⟨"tuple",_,PyProof.Rows.slot_tuple_getitem.lookup,ht.typeIs,?_⟩;refine HT.cV ht hs pl pu (by rw[hlen];exact hw) ?_ (by rw[hlen];exact hz)
 rw[hlen];refine⟨.ref s.heap.objs.size,_,I.laid (t':=s.toks) (o:=.tup (nu xs lo hi)) (λb ob q=>bT _ q) (aS _) ?_,rfl,q _ (I.au.fresh (aS _))⟩
 exact⟨bG (Fi xs lo hi) hz,_,(r.drop (HT.aN xs.length 0 lo)).take (HT.aN xs.length xs.length hi-HT.aN xs.length 0 lo),IsTup.new _ _⟩
noncomputable def YA (K:ae):R2:=λx y H Q=>∃a b xs ys,x= .ref a/\y= .ref b/\bP K H a xs/\bP K H b ys/\xs≠[]/\xs.length+ys.length<=sizeLine/\
 (ys= []->Q (.ref a) H)/\(ys≠[]->∀p,H p=none->Q (.ref p) (upd H p (.tup (xs++ys))))
theorem Vals.fh{xs:LV}{us:aq}(r:Vals xs us):us= []↔xs= []:=by
 cases r with
 |nil=>simp
 |cons _ _=>simp
theorem UZ:c9 X (binaryOp .Add) (YA X.K):=by
 intro pins s σ H x y v u Q I rx ry h;obtain⟨a,b,xs,ys,rfl,rfl,ha,hb,hx,hz,q1,q2⟩:=h;cases rx;cases ry;obtain⟨ab,r1,p1,_⟩:=I.tuple ha;obtain⟨its2,r2,p2,_⟩:=I.tuple hb;refine HT.jK p1 p2 (λz=>hx (r1.fh.mp z)) (λz=>⟨.ref a,H,I,rfl,q1 (r2.fh.mp z)⟩) (λz=>?_) (by rw[<-r1.length,<-r2.length];exact hz)
 refine⟨.ref s.heap.objs.size,_,I.laid (t':=s.toks) (o:=.tup (xs++ys)) (λb ob q=>bT _ q) (aS _) ?_,rfl,q2 (λw=>z (r2.fh.mpr w)) _ (I.au.fresh (aS _))⟩
 exact⟨by rw[cN];exact hz,_,r1.append r2,IsTup.new _ _⟩
end
noncomputable def fg (n:Nat)(i:Int):Option Nat:=if 0<=i then(if i<n then some i.toNat else none)else if -(n:Int)<=i then some (i+n).toNat else none
noncomputable def bI {α:Type}(xs:List α)(i:Int):Option α:=(fg xs.length i).bind λj=>xs[j]?
theorem HI{n:Nat}{i:Int}{j:Nat}(h:fg n i=some j):seqIndex? i n=some j/\j<n/\-(n:Int)<=i/\i<n:=by
 unfold fg at h
 by_cases h0:0<=i
 . rw[ar h0]at h
   by_cases h1:i<n
   . rw[ar h1]at h
     have e:i.toNat=j:=dP h;exact⟨by rw[seqIndex_of h0 h1,e],∅,∅,h1⟩
   . rw[ag h1]at h;cases h
 . rw[ag h0]at h
   by_cases h1:-(n:Int)<=i
   . rw[ar h1]at h
     have e:(i+n).toNat=j:=dP h;exact⟨by rw[seqIndex_neg ∅ h1,e],∅,h1,∅⟩
   . rw[ag h1]at h;cases h
theorem AF{α:Type}{xs:List α}{i:Int}{v:α}(h:bI xs i=some v):∃j,seqIndex? i xs.length=some j/\xs[j]? =some v/\j<xs.length/\-(xs.length:Int)<=i/\i<xs.length:=by
 unfold bI at h;cases e:fg xs.length i with
 |none=>rw[e]at h;cases h
 |some j=>
  rw[e]at h;obtain⟨h1,h2,h3,h4⟩:=HI e;exact⟨j,h1,h,h2,h3,h4⟩
def HU(b:Expr):Prop:=∀o i,subscripted b false o i=operate [o,i] (getItem o i)
def sj(X:Cx)(r:R2):Prop:=
 ∀(value slice:Expr) (pins:aG) (s:Shared) (σ:St) (H:Hp) (x y:V) (v u:Value) (Q:VK),Inv X pins σ H s->RelV x v->RelV y u->r x y H Q->
  subscripted slice false v u=operate [v,u] (getItem v u)->wpAny (model X.prog X.w) X.A (subscriptTail value slice v u) (EP X pins σ Q) X.xe s
def MU(X:Cx)(id:String)(r:V->LV->Hp->VK->Prop):Prop:=
 ∀(pins:aG) (s:Shared) (σ:St) (H:Hp) (x:V) (xs:LV) (v:Value) (us:aq) (Q:VK),Inv X pins σ H s->RelV x v->Vals xs us->r x xs H Q->
  wpAny (model X.prog X.w) X.A (call (.builtin id) (v::us)) (EP X pins σ Q) X.xe s
section
variable {X:Cx}{a b:Expr}{ta tb:TE}{pos:Pos}
theorem YK{r:R2}(hr:sj X r)(ha:PE X a ta)(hb:PE X b tb)(hs:HU b):PE X (.Subscript a b pos) (rW r ta tb):=by
 intro pins s σ H Q I h;exact Subscript_ (BL ha hb I h λv u s2 x y H2 I2 rx ry q=>hr a b pins s2 σ H2 x y v u Q I2 rx ry q (hs _ _))
def PD(K:ae):R2:=λx y H Q=>∃p xs i v,x= .ref p/\y= .int i/\cg K H p xs/\bI xs i=some v/\Q v H
def Pz(K:ae):R2:=λx y H Q=>∃p xs i v,x= .ref p/\y= .int i/\bP K H p xs/\bI xs i=some v/\Q v H
def PB:R2:=λx y H Q=>∃z i c,x= .str z/\y= .int i/\z.length<=sizeLine/\bI z.cps.toList i=some c/\Q (.str ⟨#[c]⟩) H
theorem HH:sj X (PD X.K):=by
 intro value slice pins s σ H x y v u Q I rx ry h hs;obtain⟨p,xs,i,z,rfl,rfl,hq,he,q⟩:=h;cases rx;obtain⟨t,rfl⟩:=ry;obtain⟨ab,r,pl,hz⟩:=I.list hq;obtain⟨j,h1,h2,h3,h4,h5⟩:=AF he;obtain⟨w,ew,rw'⟩:=r.get h2;have hl:=r.length;have hn:=q9;have fin:EP X pins σ Q w s:=⟨z,H,I,rw',q⟩
 by_cases h0:0<=i
 . have hj:i.toNat=j:=by
    rw[seqIndex_of h0 h5]at h1;exact dP h1
   exact item_listR pl.isList h0 ∅ (by rw[hj];simpa using ew) fin hs
 . have hj:(i+(ab.toArray.size:Int)).toNat=j:=by
    rw[seqIndex_neg ∅ h4]at h1
    rw[c7,<-hl];exact dP h1
   exact subscriptTail_builtinR (x:=w) pl.isList.typeIs slot_list_getitem.lookup
    (wpAny_getItem_list_neg (Q:=λr s'=>r=w/\EP X pins σ Q r s') pl.isList ∅ (by rw[c7]<;>omega) ∅ (by rw[hj];simpa using ew) ⟨rfl,fin⟩) hs
theorem WX:sj X (Pz X.K):=by
 intro value slice pins s σ H x y v u Q I rx ry h hs;obtain⟨p,xs,i,z,rfl,rfl,hq,he,q⟩:=h;cases rx;obtain⟨t,rfl⟩:=ry;obtain⟨ab,r,pl,hz⟩:=I.tuple hq;obtain⟨j,h1,h2,h3,h4,h5⟩:=AF he;obtain⟨w,ew,rw'⟩:=r.get h2;have hl:=r.length;have hn:=q9;have fin:EP X pins σ Q w s:=⟨z,H,I,rw',q⟩;exact subscriptTail_builtinR (x:=w) pl.typeIs slot_tuple_getitem.lookup
  (getItem_tuple (j:=j) (Q:=λr s'=>r=w/\EP X pins σ Q r s') pl ∅ ∅ (by rw[c7,<-hl];exact h1) (by simpa using ew) ⟨rfl,fin⟩) hs
theorem WY:sj X PB:=by
 intro value slice pins s σ H x y v u Q I rx ry h hs;obtain⟨z,i,c,rfl,rfl,hz,he,q⟩:=h;obtain⟨t,rfl⟩:=rx;obtain⟨t',rfl⟩:=ry;obtain⟨j,h1,h2,h3,h4,h5⟩:=AF he;have hl:z.cps.toList.length=z.length:=by simp[Str.length]
 rw[hl]at h1 h4 h5;have hn:=q9;exact tail_any (typeIs_str s z t) slot_str_getitem.lookup (getItem_str (c:=c) (by
  have e1:decide (i< -(2 ^ 63:Int))=false:=fH ∅
  have e2:decide (i ≥ 2 ^ 63)=false:=fH ∅
  rw[e1,e2,Bool.or_false]) (by rw[h1];simpa using h2) ⟨.str ⟨#[c]⟩,H,I.tok _,⟨_,rfl⟩,q⟩) hs
theorem RL(ab:aq)(n j:Nat)(u:Value):Obj.mapSeq (·.setIfInBounds j u) { cls:=.type "list",data:=.seq ab.toArray n }= { cls:=.type "list",data:=.seq (ab.set j u).toArray n }:=by
 simp[Obj.mapSeq]
theorem Inv.lst{pins:aG}{σ:St}{H:Hp}{s:Shared}{p:Addr}{xs:LV}(I:Inv X pins σ H s)(h:H p=some (.lst xs)):
 ∃(ab:aq) (n:Nat),Vals xs ab/\s.heap.get? p=some { cls:=.type "list",data:=.seq ab.toArray n }/\xs.length<=sizeLine:=by
 obtain⟨z,ab,n,r,e⟩:=I.au p _ h;exact⟨ab,n,r,e,z⟩
theorem Inv.o7{pins:aG}{σ:St}{H:Hp}{s:Shared}{p:Addr}{xs ys:LV}{ab its':aq}{n n':Nat}{f:Obj->Obj}(I:Inv X pins σ H s)(h:H p=some (.lst xs))
 (ho:s.heap.get? p=some { cls:=.type "list",data:=.seq ab.toArray n }) (hf:f { cls:=.type "list",data:=.seq ab.toArray n }= { cls:=.type "list",data:=.seq its'.toArray n' }) (r:Vals ys its') (hz:ys.length<=sizeLine) (t:Nat):
 Inv X pins σ (upd H p (.lst ys)) { s with heap:=s.heap.update p f,toks:=t }:=by
 have e:(s.heap.update p f).get? p=some { cls:=.type "list",data:=.seq its'.toArray n' }:=by
  rw[Heap.get?_update_self f ho (by rw[hf]<;>rfl),hf]
 refine I.write (x:=p) (e:=p) (by rw[h];trivial) (.inl rfl) (λb u hb q=>(Heap.get?_update_other _ _ (bC hb)).trans q) ⟨_,e⟩ ?_
 exact⟨hz,its',n',r,e⟩
noncomputable def pL:V->V->V->Hp->(Hp->Prop)->Prop:=λo i v H Q=>∃p xs k j,o= .ref p/\i= .int k/\H p=some (.lst xs)/\fg xs.length k=some j/\Q (upd H p (.lst (xs.set j v)))
theorem set_list:yP X pL:=by
 intro pins s σ H o i v ov iv u Q I ro ri rv h;obtain⟨p,xs,k,j,rfl,rfl,hp,hj,q⟩:=h;cases ro;obtain⟨t,rfl⟩:=ri;obtain⟨ab,n,r,ho,hz⟩:=I.lst hp;obtain⟨h1,h2,h3,h4⟩:=HI hj;have hl:=r.length;have hn:=q9;have I':Inv X pins σ (upd H p (.lst (xs.set j v))) { s with heap:=s.heap.update p (Obj.mapSeq (·.setIfInBounds j u)) }:=
  I.o7 hp ho (RL ab n j u) (r.set rv j) (by rw[List.length_set];exact hz) s.toks
 by_cases h0:0<=k
 . have hk:k.toNat=j:=by
    rw[seqIndex_of h0 h4]at h1;exact dP h1
   exact PySem.W.ki_setAt ho h0 ∅ (by rw[c7,<-hl];exact h4) (by rw[hk];exact⟨_,I',q⟩)
 . have hk:(k+(ab.toArray.size:Int)).toNat=j:=by
    rw[seqIndex_neg ∅ h3]at h1
    rw[c7,<-hl];exact dP h1
   exact PySem.W.ki_setBack ho ∅ (by rw[c7,<-hl];exact h3) ∅ (by rw[hk];exact⟨_,I',q⟩)
theorem QQ(lo hi:Option Int)(n:Nat):(sliceBounds lo hi none n).1=((HT.aN n 0 lo:Nat):Int)/\(sliceBounds lo hi none n).2.1=((HT.aN n n hi:Nat):Int)/\(sliceBounds lo hi none n).2.2=1:=by
 refine⟨?_,?_,rfl⟩
 . cases lo with
   |none=>simp[sliceBounds,HT.aN]
   |some i=>
    simp only[sliceBounds,HT.aN,Option.getD_none,show(1:Int) > 0 by decide,if_true]
    by_cases h:i<0
    . simp only[h,if_true]<;>omega
    . simp only[h,if_false]<;>omega
 . cases hi with
   |none=>simp[sliceBounds,HT.aN]
   |some i=>
    simp only[sliceBounds,HT.aN,Option.getD_none,show(1:Int) > 0 by decide,if_true]
    by_cases h:i<0
    . simp only[h,if_true]<;>omega
    . simp only[h,if_false]<;>omega
theorem Qx(ab:aq)(lo hi:Option Int):slicePick ab.toArray lo hi none=((ab.drop (HT.aN ab.length 0 lo)).take (HT.aN ab.length ab.length hi-HT.aN ab.length 0 lo)).toArray:=by
 obtain⟨h1,h2,h3⟩:=QQ lo hi ab.toArray.size;unfold slicePick;rw[h1,h2,h3];simp only[sliceRange_one,pick_run,c7]<;>rfl
noncomputable def Px (K:ae):V->Option Int->Option Int->Hp->VK->Prop:=λx lo hi H Q=>∃a xs,x= .ref a/\cg K H a xs/\∀p,H p=none->Q (.ref p) (upd H p (.lst (nu xs lo hi)))
theorem Uu:sC X (Px X.K):=by
 intro pins s σ H x v vl vu lo hi sl Q I rx hs pl pu h;obtain⟨a,xs,rfl,hx,q⟩:=h;cases rx;obtain⟨ab,r,ht,hz⟩:=I.list hx;have hlen:=r.length;refine⟨"list",_,slot_list_getitem.lookup,ht.isList.typeIs,?_⟩;refine wpAny_getItem_list_slice ht.isList hs pl pu .none (by simp) ?_ (by rw[c7]<;>omega)
 rw[Qx,<-hlen];refine⟨.ref s.heap.objs.size,_,I.laid (t':=s.toks) (o:=.lst (nu xs lo hi)) (λb ob q=>bT _ q) (aS _) ?_,rfl,q _ (I.au.fresh (aS _))⟩
 exact⟨bG (Fi xs lo hi) hz,_,0,(r.drop (HT.aN xs.length 0 lo)).take (HT.aN xs.length xs.length hi-HT.aN xs.length 0 lo),eJ _ rfl⟩
theorem zX:cZ X (.builtin "len") (λxs H Q=>∃p ys,xs= [.ref p]/\(cg X.K H p ys∨bP X.K H p ys)/\Q (.int ys.length) H):=by
 intro pins s σ H xs us Q I r h;obtain⟨p,ys,rfl,hq,q⟩:=h;obtain⟨u,rfl,rx⟩:=vals1 r;cases rx;have hn:=q9;rcases hq with hq|hq
 . obtain⟨ab,r',pl,hz⟩:=I.list hq
   have hlen:=r'.length;exact Calls.call_len_list pl.isList (by simp only[c7]<;>omega) ⟨.int ys.length,H,I.tok _,⟨s.toks+1,by rw[c7,hlen]⟩,q⟩
 . obtain⟨ab,r',pl,hz⟩:=I.tuple hq
   have hlen:=r'.length;exact len_tuple pl (by simp only[c7]<;>omega) ⟨.int ys.length,H,I.tok _,⟨s.toks+1,by rw[c7,hlen]⟩,q⟩
theorem Q5:cZ X (.builtin "len") (λxs H Q=>∃z,xs= [.str z]/\z.length<=sizeLine/\Q (.int z.length) H):=by
 intro pins s σ H xs us Q I r h;obtain⟨z,rfl,hz,q⟩:=h;obtain⟨u,rfl,t,rfl⟩:=vals1 r;have hn:=q9;exact len_str ∅ ⟨.int z.length,H,I.tok _,⟨_,rfl⟩,q⟩
theorem Q4:cZ X (.type "list") (λxs H Q=>∃p ys,xs= [.ref p]/\(cg X.K H p ys∨bP X.K H p ys)/\∀l,H l=none->Q (.ref l) (upd H l (.lst ys))):=by
 intro pins s σ H xs us Q I r h;obtain⟨p,ys,rfl,hq,q⟩:=h;obtain⟨u,rfl,rx⟩:=vals1 r;cases rx;have fin:∀(ab:aq),Vals ys ab->ys.length<=sizeLine->∀(h':Heap) (c':Nat),(∀b o',s.heap.get? b=some o'->h'.get? b=some o')->
  h'.get? s.heap.objs.size=some { cls:=.type "list",dict:=none,data:=.seq ab.toArray c',slots:=#[] }->EP X pins σ Q (.ref s.heap.objs.size) { s with heap:=h' }:=λab r' hz h' c' kp e=>
  ⟨.ref s.heap.objs.size,_,I.laid (t':=s.toks) kp (aS _) (show aB X.prog X.w _ h' _ (.lst ys)from⟨hz,ab,c',r',e⟩),rfl,q _ (I.au.fresh (aS _))⟩
 rcases hq with hq|hq
 . obtain⟨ab,r',pl,hz⟩:=I.list hq
   have hlen:=r'.length;obtain⟨o,ho,hc,n,hd⟩:=pl.isList;exact call_list_seq p (.inl rfl) ho hc hd (λh' c' kp e=>fin ab r' hz h' c' kp e) (by simp only[c7]<;>omega)
 . obtain⟨ab,r',pl,hz⟩:=I.tuple hq
   have hlen:=r'.length;obtain⟨o,ho,hc,n,hd⟩:=pl;exact call_list_seq p (.inr rfl) ho hc hd (λh' c' kp e=>fin ab r' hz h' c' kp e) (by simp only[c7]<;>omega)
def ML(K:ae)(T:String)(x:V)(H:Hp):Prop:=match x with
 | .str _=>T= "str"
 | .int _=>T= "int"
 | .ref p=>(T= "list"/\∃xs,cg K H p xs)∨(T= "tuple"/\∃o,K.lookup p=some o/\o.cls= .type "tuple"/\o.dict=none)∨
  (T= "dict"/\((∃kvs,H p=some (.dK kvs))∨∃kvs,H p=some (.dT kvs)))∨(T= "set"/\∃S n,H p=some (.set S n))
 |_=>False
theorem V3{pins:aG}{σ:St}{H:Hp}{s:Shared}{T:String}{x:V}{v:Value}(I:Inv X pins σ H s)(r:RelV x v)(ty:ML X.K T x H):
 s.TypeIs v T/\∀a,v= .ref a->∃ob,s.heap.get? a=some ob/\ob.dict=none:=by
 cases x with
 |str z=>
  obtain⟨t,rfl⟩:=r;cases(show T= "str" from ty)
  exact⟨typeIs_str s z t,λ_ e=>nomatch e⟩
 |int i=>
  obtain⟨t,rfl⟩:=r;cases(show T= "int" from ty)
  exact⟨typeIs_int s i t,λ_ e=>nomatch e⟩
 |ref p=>
  cases r;rcases ty with⟨rfl,xs,hq⟩|⟨rfl,o,hk,hc,hd⟩|⟨rfl,hk⟩|⟨rfl,S,n,hk⟩
  . obtain⟨ab,_,pl,_⟩:=I.list hq
    refine⟨pl.isList.typeIs,λa e=>?_⟩
    cases e;obtain⟨o,n,e,c,hd,_⟩:=pl;exact⟨o,e,hd⟩
  . refine⟨⟨o,I.dj p o hk,hc⟩,λa e=>?_⟩
    cases e;exact⟨o,I.dj _ o hk,hd⟩
  . have z:∃o,s.heap.get? p=some o/\o.ExactDict:=by
     rcases hk with⟨kvs,hk⟩|⟨kvs,hk⟩
     . obtain⟨_,_,_,_,o,_,_,e,ex,_⟩:=I.au p _ hk
       exact⟨o,e,ex⟩
     . obtain⟨_,_,_,_,o,_,_,e,ex,_⟩:=I.au p _ hk
       exact⟨o,e,ex⟩
    obtain⟨o,e,ex⟩:=z;refine⟨⟨o,e,ex.1⟩,λa e2=>?_⟩
    cases e2;exact⟨o,e,ex.2.1⟩
  . obtain⟨o,_,_,_,e,ex,_⟩:=I.au p _ hk
    refine⟨⟨o,e,ex.1⟩,λa e2=>?_⟩
    cases e2;exact⟨o,e,ex.2.1⟩
 |_=>exact False.elim ty
noncomputable def ZZ (K:ae)(T:String)(r:V->LV->Hp->VK->Prop)(to:TE)(t:TA):TE:=λσ H Q=>to σ H λx H1=>ML K T x H1/\t σ H1 λxs H2=>r x xs H2 Q
variable {o e:Expr}{es:aX}{to:TE}{t:TA}{name:Str}{apos cpos:Pos}{T id:String}{r:V->LV->Hp->VK->Prop}
theorem Ba(pa:PlainAttrs T)(slot:Slot T name id)(hty:typeOf (.builtin id)=pure (.type "method_descriptor"))(hm:MU X id r)(ho:PE X o to)(ha:PA X (e::es) t)
 (hbase:attributeBase o name X.env (eval o X.env)=eval o X.env:=by rfl)
 (hfew:((backTo cpos (starEach (e::es) X.env)).all (λx=>!x.1)&&(backToKw cpos (keywordEach [] X.env)).all (λx=>x.1.isSome)
  &&decide ((e::es).length+([]:List Keyword).length+(if([]:List Keyword).isEmpty then 0 else 1)<30))=true:=by rfl)
 (hline:(apos.endLine==cpos.line)=true:=by rfl) (hs:starEach (e::es) X.env=(false,eval e X.env)::starEach es X.env:=by rfl) (hplain:(backTo cpos (starEach es X.env)).any (·.1)=false:=by rfl):
 PE X (.Call (.Attribute o name apos) (e::es) [] cpos) (ZZ X.K T r to t):=by
 intro pins s σ H Q I h;refine wpAny_Call_method_late hbase hfew hline rfl (ay (ho pins s σ H _ I h) λv s1 zz=>?_);obtain⟨x,H1,I1,r1,ty,q1⟩:=zz
 obtain⟨h1,h2⟩:=V3 I1 r1 ty;refine⟨T,id,pa,slot,hty,h1,h2,?_⟩;have hA:=ha cpos pins s1 σ H1 _ I1 q1;rw[hs]at hA ⊢;refine Calls.callWith_builtin (by show(false||(backTo cpos (starEach es X.env)).any (·.1))=false;rw[hplain]<;>rfl) (Calls.evalArgs_plain ?_)
 exact ay hA λus s2 ⟨vs,H2,I2,r2,q2⟩=>hm pins s2 σ H2 x vs v us Q I2 r1 r2 q2
end
def zr(X:Cx)(id:String)(r:V->LV->Hp->VK->Prop):Prop:=
 ∀(pins:aG) (s:Shared) (σ:St) (H:Hp) (x:V) (xs:LV) (v:Value) (us:aq) (Q:VK),Inv X pins σ H s->RelV x v->Vals xs us->r x xs H Q->
  wpAny (model X.prog X.w) X.A (call (.builtin id) (v::us)) (EP X pins σ Q) X.xe s
theorem Vals.one:∀{x:V} {us:aq},Vals [x] us->∃u,us= [u]/\RelV x u
 |_,_,.cons r .nil=>⟨_,rfl,r⟩
theorem Vals.two:∀{x y:V} {us:aq},Vals [x,y] us->∃u v,us= [u,v]/\RelV x u/\RelV y v
 |_,_,_,.cons r (.cons q .nil)=>⟨_,_,rfl,r,q⟩
theorem Vals.eraseIdx:∀{xs:LV} {us:aq} (i:Nat),Vals xs us->Vals (xs.eraseIdx i) (us.eraseIdx i)
 |_,_,_,.nil=>.nil
 |_,_,0,.cons _ t=>t
 |_,_,i+1,.cons r t=>.cons r (Vals.eraseIdx i t)
theorem Vals.rep{xs:LV}{us:aq}(h:Vals xs us):∀k:Nat,Vals (List.replicate k xs).flatten (List.replicate k us).flatten
 |0=>.nil
 |k+1=>by
  rw[nJ,nJ,r8,r8];exact Vals.append h (Vals.rep h k)
theorem FR{α:Type}:∀(l:List α) (i:Nat),(l.eraseIdx i).length<=l.length
 | [],_=>aS _
 |_::_,0=>Nat.le_succ _
 |_::r,i+1=>Nat.succ_le_succ (FR r i)
theorem foldl_rep(ab:aq):∀(k:Nat) (acc:aq),
 List.foldl (λx1 x2=>x1++x2) acc.toArray (List.replicate k ab.toArray)=(acc++(List.replicate k ab).flatten).toArray
 |0,acc=>by simp
 |k+1,acc=>by
  have e:acc.toArray++ab.toArray=(acc++ab).toArray:=by simp
  have e2:(acc++ab)++(List.replicate k ab).flatten=acc++(List.replicate (k+1) ab).flatten:=by
   rw[nJ,r8,vo]
  rw[<-e2,<-foldl_rep ab k (acc++ab),<-e,nJ,List.foldl_cons]
section
variable {X:Cx}{pins:aG}{σ:St}{H:Hp}{s:Shared}{l b:Addr}{xs ys zs:LV}
theorem Inv.o6{ab its':aq}{n:Nat}{f:Array Value->Array Value}{t':Nat}(I:Inv X pins σ H s)(hH:H l=some (.lst xs))
 (e:s.heap.get? l=some { cls:=.type "list",data:=.seq ab.toArray n }) (hf:f ab.toArray=its'.toArray) (hv:Vals ys its') (hz:ys.length<=sizeLine):
 Inv X pins σ (upd H l (.lst ys)) { s with heap:=s.heap.update l (Obj.mapSeq f),toks:=t' }:=by
 have q:=PySem.IsL.update e f;rw[hf]at q;refine I.write (x:=l) (e:=l) (by rw[hH];exact trivial) (.inl rfl) (λb' u hb hu=>(Heap.get?_update_other s.heap (Obj.mapSeq f) (bC hb)).trans hu) ⟨_,q⟩ ?_
 exact⟨hz,its',_,hv,q⟩
theorem Inv.zQ{ab:aq}{t':Nat}(I:Inv X pins σ H s)(hv:Vals ys ab)(hz:ys.length<=sizeLine):
 Inv X pins σ (upd H s.heap.objs.size (.lst ys)) { s with heap:=s.heap.push { cls:=.type "list",data:=.seq ab.toArray },toks:=t' }:=
 I.laid (λ_ _ q=>bT _ q) (aS _) ⟨hz,ab,0,hv,eJ _ rfl⟩
theorem Inv.fresh(I:Inv X pins σ H s):H s.heap.objs.size=none:=I.au.fresh (aS _)
theorem Inv.lD(I:Inv X pins σ H s)(hH:H l=some (.lst xs)):xs.length<=sizeLine/\∃(ab:aq) (n:Nat),Vals xs ab/\xs.length=ab.length/\s.heap.get? l=some { cls:=.type "list",data:=.seq ab.toArray n }:=by
 obtain⟨z,ab,n,r,e⟩:=I.au l _ hH;exact⟨z,ab,n,r,r.length,e⟩
theorem T7{n:Nat}(h:n<=sizeLine):Builtin.List.listTooLong n=false:=by
 unfold Builtin.List.listTooLong;exact fH ∅
end
section
variable {X:Cx}
noncomputable def Vk:V->LV->Hp->VK->Prop:=λx vs H Q=>∃l xs y,x= .ref l/\vs= [y]/\H l=some (.lst xs)/\xs.length<sizeLine/\Q .ao (upd H l (.lst (xs++ [y])))
theorem R8:zr X "list.append" Vk:=by
 intro pins s σ H x vs v us Q I rx rv h;obtain⟨l,xs,y,rfl,rfl,hH,hz,q⟩:=h;cases rx;obtain⟨u,rfl,ru⟩:=rv.one;obtain⟨z,ab,n,r,hl,e⟩:=I.lD hH;refine call_meets F.slot_list_append ⟨_,e,rfl⟩ F.entry_list_append (F.args_list_append_2 _ _) (PySem.list_append l ab.toArray n u (by rw[c7];omega)) ⟨e,?_⟩
 refine⟨.ao,_,I.o6 (its':=ab++ [u]) hH e (by simp) (r.append (.cons ru .nil)) ?_,rfl,q⟩
 rw[cN,List.length_singleton];omega
noncomputable def WN:V->LV->Hp->VK->Prop:=λx vs H Q=>∃l xs i k y,x= .ref l/\vs= [.int i]/\H l=some (.lst xs)/\-(2 ^ 63)<=i/\i<2 ^ 63/\seqIndex? i xs.length=some k/\xs[k]? =some y/\Q y (upd H l (.lst (xs.eraseIdx k)))
theorem Ua:zr X "list.pop" WN:=by
 intro pins s σ H x vs v us Q I rx rv h;obtain⟨l,xs,i,k,y,rfl,rfl,hH,h1,h2,hk,hy,q⟩:=h;cases rx;obtain⟨u,rfl,ru⟩:=rv.one;obtain⟨t,rfl⟩:=ru;obtain⟨z,ab,n,r,hl,e⟩:=I.lD hH;obtain⟨w,hw,rw'⟩:=r.get hy;refine call_meets F.slot_list_pop ⟨_,e,rfl⟩ F.entry_list_pop (F.args_list_pop_2 _ _)
  (MeetsSeq.list_pop_at l ab.toArray n i t k w (fitsIndex_both h1 h2) (by rw[c7,<-hl];exact hk) (by rw[<-Array.getElem?_toList];exact hw) (by rw[c7];omega)) ⟨e,?_⟩
 refine⟨y,_,I.o6 (its':=ab.eraseIdx k) hH e ?_ (r.eraseIdx k) ?_,rw',q⟩
 . show ab.toArray.eraseIdxIfInBounds k=(ab.eraseIdx k).toArray
   rw[List.eraseIdxIfInBounds_toArray]
 . have:=FR xs k
   omega
noncomputable def Py:R2:=λx y H Q=>∃l k xs,x= .ref l/\y= .int k/\H l=some (.lst xs)/\-(2 ^ 63)<=k/\k<2 ^ 63/\xs.length*k.toNat<=sizeLine/\
 ∀p,H p=none->Q (.ref p) (upd H p (.lst (List.replicate k.toNat xs).flatten))
theorem len_rep{α:Type}(xs:List α)(k:Nat):(List.replicate k xs).flatten.length=k*xs.length:=by
 induction k with
 |zero=>simp
 |succ k ih=>rw[nJ,r8,cN,ih,Nat.succ_mul,Nat.add_comm]
theorem WD:c9 X (binaryOp .Mult) Py:=by
 intro pins s σ H x y v u Q I rx ry h;obtain⟨l,k,xs,rfl,rfl,hH,h1,h2,hz,q⟩:=h;cases rx;obtain⟨t,rfl⟩:=ry;obtain⟨z,ab,n,r,hl,e⟩:=I.lD hH;have hlen:ab.toArray.size*k.toNat<=sizeLine:=by rw[c7,<-hl];exact hz
 have hcap:¬ab.toArray.size*k.toNat > (2 ^ 63-1) / 8:=by
  have:(sizeLine:Nat)<=(2 ^ 63-1) / 8:=by decide
  omega
 have hfit:¬(!Builtin.List.listFitsIndex k)=true:=by
  rw[fitsIndex_both h1 h2];exact gL
 have hlong:¬Builtin.List.listTooLong (ab.toArray.size*k.toNat)=true:=by
  rw[T7 hlen];exact gL
 have hnew:List.foldl (λx1 x2=>x1++x2) #[] (List.replicate (if ab.toArray.isEmpty=true then 0 else k.toNat) ab.toArray)=(List.replicate k.toNat ab).flatten.toArray:=by
  have f0:∀m:Nat,List.foldl (λx1 x2=>x1++x2) #[] (List.replicate m ab.toArray)=(List.replicate m ab).flatten.toArray:=λm=>by
   have:=foldl_rep ab m [];rw[List.nil_append]at this;exact this
  rw[f0];cases ab with
  |nil=>simp
  |cons a r'=>rw[ag (by simp)]
 refine wpAny_binaryOp_repeat_ref (T:="list") (U:="int") ⋯ ⟨_,e,rfl⟩ (λs'=>typeIs_int s' k t) noFill_list_mul F.fills_int_mul F.slot_int_rmul repeat_list F.slot_int_index.lookup
  (call_meets F.slot_int_rmul (typeIs_int s k t) F.entry_int_rmul (F.args_int_rmul_2 _ _) (int___rmul___int_list k t l ab.toArray n)
   ⟨e,rfl,⟨_,e,rfl⟩,call_meets F.slot_list_mul ⟨_,e,rfl⟩ F.entry_list_mul (F.args_list_mul_2 _ _) (AutoListH.list___mul___list_int_3 l ab.toArray n k t hfit hcap hlong) ⟨e,?_⟩⟩)
 rw[hnew];exact⟨.ref _,_,I.zQ (t':=s.toks) (r.rep k.toNat) (by rw[len_rep,Nat.mul_comm];exact hz),rfl,q _ I.fresh⟩
end
section
variable {κ:Type}[DecidableEq κ]
noncomputable def fA (kvs:List (κ×V))(k:κ):Option V:=(kvs.find? λkv=>decide (kv.1=k)).map (·.2)
noncomputable def putK (kvs:List (κ×V))(k:κ)(v:V):List (κ×V):=
 if(kvs.any λkv=>decide (kv.1=k))=true then kvs.map (λkv=>if kv.1=k then(kv.1,v)else kv)else kvs++ [(k,v)]
noncomputable def ja (kvs:List (κ×V))(k:κ):List (κ×V):=kvs.filter λkv=>decide (kv.1≠k)
theorem ux{p:κ×V}{r:List (κ×V)}{k:κ}(e:p.1=k):fA (p::r) k=some p.2:=by simp[fA,jk,e]
theorem pf{p:κ×V}{r:List (κ×V)}{k:κ}(e:¬p.1=k):fA (p::r) k=fA r k:=by simp[fA,jk,e]
theorem GP(k:κ):∀kvs:List (κ×V),(kvs.any λkv=>decide (kv.1=k))=(fA kvs k).isSome
 | []=>rfl
 |p::r=>by
  rw[nO]
  by_cases e:p.1=k
  . simp only[ux e,eI e,Bool.true_or,Option.isSome_some]
  . rw[pf e,fH e,Bool.false_or];exact GP k r
theorem Fq(kvs:List (κ×V))(k:κ)(v:V):(putK kvs k v).length<=kvs.length+1:=by
 unfold putK;split
 . rw[bw];omega
 . rw[cN,List.length_cons,List.length_nil];omega
theorem bK.ba{o:Option V}{u:cI}(r:bK o u):o.isSome=u.isSome:=by
 cases o with
 |none=>cases u with
  |none=>rfl
  |some _=>exact(show False from r).elim
 |some _=>cases u with
  |none=>exact(show False from r).elim
  |some _=>rfl
theorem bK.getD{o:Option V}{u:cI}{d:V}{d':Value}(r:bK o u)(rd:RelV d d'):RelV (o.getD d) (u.getD d'):=by
 cases o with
 |none=>cases u with
  |none=>exact rd
  |some _=>exact(show False from r).elim
 |some _=>cases u with
  |none=>exact(show False from r).elim
  |some _=>exact r
theorem KV.val{kvs:List (κ×V)}{vs:List (κ×Value)}(r:KV kvs vs)(k:κ):bK (fA kvs k) (valueAt vs k):=by
 unfold KV at r
 induction r with
 |nil=>exact True.intro
 | @cons p q ps qs h t ih=>
  obtain⟨h1,h2⟩:=h
  by_cases e:p.1=k
  . have e':q.1=k:=h1.symm.trans e
    have b:valueAt (q::qs) k=some q.2:=by simp[valueAt,jk,e']
    rw[ux e,b];exact h2
  . have e':¬q.1=k:=λz=>e (h1.trans z)
    have b:valueAt (q::qs) k=valueAt qs k:=by simp[valueAt,jk,e']
    rw[pf e,b];exact ih
theorem KV.any{kvs:List (κ×V)}{vs:List (κ×Value)}(r:KV kvs vs)(k:κ):(kvs.any λkv=>decide (kv.1=k))=vs.any λkv=>decide (kv.1=k):=by
 unfold KV at r
 induction r with
 |nil=>rfl
 |cons h t ih=>rw[nO,nO,ih,h.1]
theorem KV.p9{kvs:List (κ×V)}{vs:List (κ×Value)}(r:KV kvs vs)(k:κ){y:V}{u:Value}(ry:RelV y u):
 KV (kvs.map λkv=>if kv.1=k then(kv.1,y)else kv) (vs.map λkv=>if kv.1=k then(kv.1,u)else kv):=by
 unfold KV at r ⊢
 induction r with
 |nil=>exact .nil
 | @cons p q ps qs h t ih=>
  rw[cj,cj];refine .cons ?_ ih;obtain⟨h1,h2⟩:=h
  by_cases e:p.1=k
  . rw[ar e,ar (h1.symm.trans e)];exact⟨h1,ry⟩
  . rw[ag e,ag (λz=>e (h1.trans z))];exact⟨h1,h2⟩
theorem KV.put{kvs:List (κ×V)}{vs:List (κ×Value)}(r:KV kvs vs)(k:κ){y:V}{u:Value}(ry:RelV y u):KV (putK kvs k y) (stored vs k u):=by
 unfold putK stored;rw[r.any k]
 by_cases e:(vs.any λkv=>decide (kv.1=k))=true
 . rw[ar e,ar e];exact r.p9 k ry
 . rw[ag e,ag e];exact Paired.snoc r ⟨rfl,ry⟩
theorem KV.drop{kvs:List (κ×V)}{vs:List (κ×Value)}(r:KV kvs vs)(k:κ):KV (ja kvs k) (without vs k):=by
 unfold KV at r ⊢;unfold ja without
 induction r with
 |nil=>exact .nil
 | @cons p q ps qs h t ih=>
  obtain⟨h1,h2⟩:=h;rw[fU,fU]
  by_cases e:p.1=k
  . have a:¬decide (p.1≠k)=true:=by simp[e]
    have b:¬decide (q.1≠k)=true:=by simp[h1.symm.trans e]
    rw[ag a,ag b];exact ih
  . have e':¬q.1=k:=λz=>e (h1.trans z)
    have a:decide (p.1≠k)=true:=by simp[e]
    have b:decide (q.1≠k)=true:=by simp[e']
    rw[ar a,ar b];exact .cons ⟨h1,h2⟩ ih
theorem KV.length{kvs:List (κ×V)}{vs:List (κ×Value)}(r:KV kvs vs):kvs.length=vs.length:=Paired.length r
theorem TN(kvs:List (κ×V))(k:κ):(ja kvs k).length<=kvs.length:=jF _ _
end
theorem jd{P:Program}{w:World}{k:Key}{u:Value}(r:RelV (kV k) u):(dW P w).is k u=true:=by
 cases k with
 |inl i=>obtain⟨t,e⟩:=(show ∃t,u=Value.int i t from r);subst e;exact QZ P w i t
 |inr x=>obtain⟨t,e⟩:=(show ∃t,u=Value.str x t from r);subst e;exact Fo P w x t
theorem Yu{P:Program}{w:World}{k:bJ}{u:Value}(r:RelV (oV k) u):(optKind P w).is k u=true:=by
 cases k with
 |none=>cases(show u=Value.none from r);rfl
 |some j=>exact jd (P:=P) (w:=w) r
theorem FK{P:Program}{w:World}:∀{ks:List bJ} {us:aq},Vals (ks.map oV) us->ItemsAre (optKind P w) ks us
 | [],_,r=>by rw[qq]at r;cases r;exact .nil
 |k::ks,_,r=>by
  rw[cj]at r;cases r with
  |cons h t=>exact .cons (Yu h) (FK t)
abbrev KT(H:Hp):List (List bJ×V)->List (List bJ×Addr×Value)->Prop:=Paired λp q=>p.1=q.1/\H q.2.1=some (.tup (p.1.map oV))/\RelV p.2 q.2.2
theorem KT.val{H:Hp}{kvs:List (List bJ×V)}{xs:List (List bJ×Addr×Value)}(r:KT H kvs xs)(k:List bJ):bK (fA kvs k) ((atKey xs k).map (·.2)):=by
 induction r with
 |nil=>exact True.intro
 | @cons p q ps qs h t ih=>
  obtain⟨h1,_,h2⟩:=h
  by_cases e:p.1=k
  . have e':q.1=k:=h1.symm.trans e
    have b:atKey (q::qs) k=some q.2:=by simp[atKey,jk,e']
    rw[ux e,b];exact h2
  . have e':¬q.1=k:=λz=>e (h1.trans z)
    have b:atKey (q::qs) k=atKey qs k:=by simp[atKey,jk,e']
    rw[pf e,b];exact ih
theorem KT.p9{H:Hp}{kvs:List (List bJ×V)}{xs:List (List bJ×Addr×Value)}(r:KT H kvs xs)(k:List bJ){y:V}{u:Value}(ry:RelV y u):
 KT H (kvs.map λkv=>if kv.1=k then(kv.1,y)else kv) (xs.map (putAt k u)):=by
 induction r with
 |nil=>exact .nil
 | @cons p q ps qs h t ih=>
  rw[cj,cj];refine .cons ?_ ih;obtain⟨h1,h2,h3⟩:=h;unfold putAt
  by_cases e:p.1=k
  . rw[ar e,ar (h1.symm.trans e)];exact⟨h1,h2,ry⟩
  . rw[ag e,ag (λz=>e (h1.trans z))];exact⟨h1,h2,h3⟩
theorem KT.put{H:Hp}{kvs:List (List bJ×V)}{xs:List (List bJ×Addr×Value)}(r:KT H kvs xs)(k:List bJ){b:Addr}{y:V}{u:Value}(hb:H b=some (.tup (k.map oV)))(ry:RelV y u):
 KT H (putK kvs k y) (storedH xs k b u):=by
 have e:(kvs.any λkv=>decide (kv.1=k))=(atKey xs k).isSome:=by
  rw[GP,(r.val k).ba,qo]
 unfold putK storedH;rw[e]
 by_cases q:(atKey xs k).isSome=true
 . rw[ar q,ar q];exact r.p9 k ry
 . rw[ag q,ag q];exact Paired.snoc r ⟨rfl,hb,ry⟩
theorem KT.keeps{H H':Hp}{kvs:List (List bJ×V)}{xs:List (List bJ×Addr×Value)}(r:KT H kvs xs)(ht:∀b ys,H b=some (.tup ys)->H' b=some (.tup ys)):KT H' kvs xs:=
 Paired.o8 r λ_ _ z=>⟨z.1,ht _ _ z.2.1,z.2.2⟩
section
variable {P:Program}{w:World}{H:Hp}{h:Heap}{a:Addr}
theorem Jj{u:HO}(ok:cz P w H h)(e:Rd H a u):aB P w H h a u:=e.ok ok
theorem nj{kvs:List (Key×V)}(ok:cz P w H h)(e:Rd H a (.dK kvs)):kvs.length<=sizeLine/\(a==sysModules)=false/\∃vs,KV kvs vs/\h.DictOf (dW P w) a vs:=
 show aB P w H h a (.dK kvs)from Jj ok e
theorem JV{kvs:List (Key×V)}(ok:cz P w H h)(e:H a=some (.dK kvs)):kvs.length<=sizeLine/\(a==sysModules)=false/\∃vs,KV kvs vs/\h.DictOf (dW P w) a vs:=nj ok (.inl e)
theorem pJ{ks:List bJ}(ok:cz P w H h)(e:H a=some (.tup (ks.map oV))):(tupleKind (optKind P w)).is h ks a:=by
 obtain⟨_,ab,r,o,h1,h2,n,h3⟩:=(show aB P w H h a (.tup (ks.map oV))from ok a _ e)
 exact⟨o,ab.toArray,n,h1,h2,h3,by simpa using FK r⟩
theorem pT{kvs:List (List bJ×V)}(ok:cz P w H h)(e:Rd H a (.dT kvs)):kvs.length<=sizeLine/\(a==sysModules)=false/\
 ∃xs,KT H kvs xs/\h.DictOfH (tupleKind (optKind P w)) a xs:=by
 obtain⟨z,y,xs,r,o,es,ep,h1,h2,h3,h4,h5⟩:=(show aB P w H h a (.dT kvs)from Jj ok e)
 refine⟨z,y,xs,r,o,es,ep,h1,h2,h3,h4,λx hx=>?_,h5⟩
 have all:∀{l:List (List bJ×V)} {m:List (List bJ×Addr×Value)},KT H l m->∀x∈m,(tupleKind (optKind P w)).is h x.1 x.2.1:=by
  intro l m q
  induction q with
  |nil=>intro x hx;exact nomatch hx
  | @cons p q ps qs hq t ih=>
   intro x hx;rcases cx.mp hx with e|hx
   . subst e
     exact pJ ok (by rw[<-hq.1];exact hq.2.1)
   . exact ih x hx
 exact all r x hx
theorem Bl{kvs:List (List bJ×V)}(ok:cz P w H h)(e:H a=some (.dT kvs)):kvs.length<=sizeLine/\(a==sysModules)=false/\
 ∃xs,KT H kvs xs/\h.DictOfH (tupleKind (optKind P w)) a xs:=pT ok (.inl e)
end
def bU(H:Hp)(a:Addr)(y:V)(r:Option V):Prop:=
 (∃kvs k,Rd H a (.dK kvs)/\y=kV k/\r=fA kvs k)∨∃kvs k b,Rd H a (.dT kvs)/\y= .ref b/\H b=some (.tup (k.map oV))/\r=fA kvs k
def ff(H:Hp)(a:Addr)(y v:V)(H':Hp):Prop:=
 (∃kvs k,H a=some (.dK kvs)/\y=kV k/\kvs.length<sizeLine/\H'=upd H a (.dK (putK kvs k v)))∨
 ∃kvs k b,H a=some (.dT kvs)/\y= .ref b/\H b=some (.tup (k.map oV))/\kvs.length<sizeLine/\H'=upd H a (.dT (putK kvs k v))
theorem bU.k{H:Hp}{a:Addr}{kvs:List (Key×V)}{k:Key}(e:H a=some (.dK kvs)):bU H a (kV k) (fA kvs k):=.inl ⟨kvs,k,.inl e,rfl,rfl⟩
theorem bU.t{H:Hp}{a b:Addr}{kvs:List (List bJ×V)}{k:List bJ}(e:H a=some (.dT kvs))(eb:H b=some (.tup (k.map oV))):bU H a (.ref b) (fA kvs k):=.inr ⟨kvs,k,b,.inl e,rfl,eb,rfl⟩
theorem ff.k{H:Hp}{a:Addr}{kvs:List (Key×V)}{k:Key}{v:V}(e:H a=some (.dK kvs))(hl:kvs.length<sizeLine):ff H a (kV k) v (upd H a (.dK (putK kvs k v))):=.inl ⟨kvs,k,e,rfl,hl,rfl⟩
theorem ff.t{H:Hp}{a b:Addr}{kvs:List (List bJ×V)}{k:List bJ}{v:V}(e:H a=some (.dT kvs))(eb:H b=some (.tup (k.map oV)))(hl:kvs.length<sizeLine):
 ff H a (.ref b) v (upd H a (.dT (putK kvs k v))):=.inr ⟨kvs,k,b,e,rfl,eb,hl,rfl⟩
section
variable {X:Cx}{pins:aG}{σ:St}{H:Hp}{s:Shared}{a:Addr}{y v:V}{u r:Value}{o:Option V}{A:Around}{E:aP}
theorem Inv.big(I:Inv X pins σ H s):sysModules<s.heap.objs.size:=by
 have h:mainGlobals<s.heap.objs.size:=(I.mod.glob.keeps I.bk).lt;exact d8 ⋯ h
theorem SJ{Q:aP}(hu:A.units+1<cLine)(I:Inv X pins σ H s)(g:bU H a y (some v))(ry:RelV y u)(h:∀w' s',Inv X pins σ H s'->RelV v w'->Q w' s'):
 wpAny (model X.prog X.w) A (getItem (.ref a) u) Q E s:=by
 rcases g with⟨kvs,k,e,ey,l⟩|⟨kvs,k,b,e,ey,eb,l⟩
 . subst ey
   obtain⟨z,hd,vs,rel,dd⟩:=nj I.au e;obtain⟨w',hw,rw'⟩:=bK.some_of (v:=v) (o:=valueAt vs k) (by rw[l];exact rel.val k)
   exact wpAny_getItem_of (jd ry) dd.mapOf hw (h w' _ (I.tok _) rw')
 . subst ey
   cases(show u=Value.ref b from ry)
   obtain⟨z,hd,xs,rel,dd⟩:=pT I.au e;obtain⟨w',hw,rw'⟩:=bK.some_of (v:=v) (o:=(atKey xs k).map (·.2)) (by rw[l];exact rel.val k)
   obtain⟨p,hp,hp2⟩:=Option.map_eq_some_iff.mp hw;refine wpAny_getItem_heap (tupleKind_room_in1 hu) (pJ I.au eb) dd hp ?_;rw[hp2];exact h w' _ (I.tok _) rw'
theorem Pf{Q:aP}(hu:A.units+1<cLine)(I:Inv X pins σ H s)(g:bU H a y o)(ry:RelV y u)(h:∀s',Inv X pins σ H s'->Q (.bool o.isSome) s'):
 wpAny (model X.prog X.w) A (compareOp .In u (.ref a)) Q E s:=by
 rcases g with⟨kvs,k,e,ey,l⟩|⟨kvs,k,b,e,ey,eb,l⟩
 . subst ey
   obtain⟨z,hd,vs,rel,dd⟩:=nj I.au e;refine wpAny_in_of (jd ry) hd dd.mapOf ?_;rw[<-(rel.val k).ba,<-l];exact h _ (I.tok _)
 . subst ey
   cases(show u=Value.ref b from ry)
   obtain⟨z,hd,xs,rel,dd⟩:=pT I.au e;refine wpAny_in_heap (tupleKind_room_in1 hu) (pJ I.au eb) hd dd ?_;have q:=(rel.val k).ba;rw[qo]at q;rw[<-q,<-l];exact h _ (I.tok _)
theorem Vq{Q:aP}(hu:A.units+1<cLine)(I:Inv X pins σ H s)(g:bU H a y o)(ry:RelV y u)(h:∀s',Inv X pins σ H s'->Q (.bool (!o.isSome)) s'):
 wpAny (model X.prog X.w) A (compareOp .NotIn u (.ref a)) Q E s:=by
 rcases g with⟨kvs,k,e,ey,l⟩|⟨kvs,k,b,e,ey,eb,l⟩
 . subst ey
   obtain⟨z,hd,vs,rel,dd⟩:=nj I.au e;refine wpAny_notIn_of (jd ry) hd dd.mapOf ?_;rw[<-(rel.val k).ba,<-l];exact h _ (I.tok _)
 . subst ey
   cases(show u=Value.ref b from ry)
   obtain⟨z,hd,xs,rel,dd⟩:=pT I.au e;refine wpAny_notIn_heap (tupleKind_room_in1 hu) (pJ I.au eb) hd dd ?_;have q:=(rel.val k).ba;rw[qo]at q;rw[<-q,<-l];exact h _ (I.tok _)
theorem xJ{h':Heap}{t':Nat}{ob:HO}(I:Inv X pins σ H s)(mu:sm (H a))(hs:Heap.SameBut a s.heap h')(he:∃q,h'.get? a=some q)(new:aB X.prog X.w (upd H a ob) h' a ob):
 Inv X pins σ (upd H a ob) { s with heap:=h',toks:=t' }:=
 I.write (x:=a) (e:=a) mu (.inl rfl) (λb q hb z=>(hs.2 b hb).trans z) he new
theorem Iu{P:Program}{w:World}{H':Hp}{h':Heap}{kvs:List (Key×V)}{vs:List (Key×Value)}(z:kvs.length<=sizeLine)(hd:(a==sysModules)=false)(rel:KV kvs vs)(dd:h'.DictOf (dW P w) a vs):
 aB P w H' h' a (.dK kvs):=⟨z,hd,vs,rel,dd⟩
theorem SH{H':Hp}{Q:Unit->Shared->Prop}(hu:A.units+1<cLine)(I:Inv X pins σ H s)(g:ff H a y v H')(ry:RelV y u)(rv:RelV v r)(h:∀s',Inv X pins σ H' s'->Q () s'):
 wpAny (model X.prog X.w) A (setItem (.ref a) u r) Q E s:=by
 rcases g with⟨kvs,k,e,ey,l,eH⟩|⟨kvs,k,b,e,ey,eb,l,eH⟩
 . subst ey eH
   obtain⟨z,hd,vs,rel,dd⟩:=JV I.au e;have hz:vs.length<=sizeLine:=by rw[<-rel.length];exact z
   have hl:(putK kvs k v).length<=sizeLine:=by have:=Fq kvs k v;omega
   refine wpAny_setItem_pairs (hsz:=hz) (jd ry) dd λh' dd' hs=>h _ ?_
   have he:∃q,h'.get? a=some q:=let⟨q,_,_,hq,_⟩:=dd';⟨q,hq⟩;exact xJ I (by rw[e];exact True.intro) hs he (Iu hl hd (rel.put k rv) dd')
 . subst ey eH
   cases(show u=Value.ref b from ry)
   obtain⟨z,hd,xs,rel,dd⟩:=Bl I.au e;have hz:xs.length<=sizeLine:=by rw[<-Paired.length rel];exact z
   have hl:(putK kvs k v).length<=sizeLine:=by have:=Fq kvs k v;omega
   refine wpAny_setItem_heap (hsz:=hz) (tupleKind_room_in1 hu) (pJ I.au eb) dd λh' dd' hs=>h _ ?_
   obtain⟨q,es,ep,hq,h2,h3,h4,_,h5⟩:=dd';refine xJ I (by rw[e];exact True.intro) hs ⟨q,hq⟩ ⟨hl,hd,_,(rel.put k eb rv).keeps λc ys ec=>?_,q,es,ep,hq,h2,h3,h4,h5⟩
   rw[aD (jb ec e (λz=>nomatch z))]
   exact ec
end
section
variable {X:Cx}{pins:aG}{σ:St}{H:Hp}{s:Shared}{a:Addr}{kvs:List (Key×V)}{k:Key}{u:Value}{A:Around}{E:aP}
theorem SK{Q:Unit->Shared->Prop}(I:Inv X pins σ H s)(e:H a=some (.dK kvs))(ry:RelV (kV k) u)(l:(fA kvs k).isSome=true)(h:∀s',Inv X pins σ (upd H a (.dK (ja kvs k))) s'->Q () s'):
 wpAny (model X.prog X.w) A (delItem (.ref a) u) Q E s:=by
 obtain⟨z,hd,vs,rel,dd⟩:=JV I.au e;refine wpAny_delItem_slot dd.typeIs ⋯ PySem.F.slot_dict_delitem
  (call_meetsIn PySem.F.slot_dict_delitem dd.typeIs PySem.F.entry_dict_delitem (PySem.F.args_dict_delitem_2 _ _) (meets_dict_delitem_pairs (dW X.prog X.w) a (jd ry)) ⟨vs,dd,by rw[<-rel.length];exact z,by rw[<-(rel.val k).ba];exact l,λh' dd' hs=>h _ ?_⟩)
 have he:∃q,h'.get? a=some q:=let⟨q,_,_,hq,_⟩:=dd';⟨q,hq⟩;exact xJ I (by rw[e];exact True.intro) hs he (Iu (bG (TN kvs k) z) hd (rel.drop k) dd')
theorem ZN{Q:aP}(I:Inv X pins σ H s)(e:Rd H a (.dK kvs))(h:∀t s',Inv X pins σ H s'->Q (.int kvs.length t) s'):wpAny (model X.prog X.w) A (call (.builtin "len") [.ref a]) Q E s:=by
 obtain⟨z,hd,vs,rel,dd⟩:=nj I.au e;refine call_len_dict hd dd (by rw[<-rel.length];rw[sizeLine_eq]at z;omega) ?_
 rw[<-rel.length];exact h _ _ (I.tok _)
end
def yQ(i:Expr):Prop:=∀ov iv,subscripted i false ov iv=operate [ov,iv] (getItem ov iv)
theorem GV{prog:Program}{w:World}{A:Around}{E:aP}{s:Shared}{env:Env}{value slice:Expr}{pos:Pos}{T id:String}{Q:aP}
 (hl:typeLookup (.type T) "__getitem__" =pure (some (.builtin id))) (hs:yQ slice)
 (h:wpAny (model prog w) A (eval value env) (λo s₁=>wpAny (model prog w) A (eval slice env) (λi s₂=>s₂.TypeIs o T/\wpAny (model prog w) A (getItem o i) Q E s₂) E s₁) E s):
 wpAny (model prog w) A (eval (.Subscript value slice pos) env) Q E s:=by
 refine Subscript_ (gq h (λo s₁ h₁=>gq h₁ (λi s₂ h₂=>?_) λ_ _ x=>x) λ_ _ x=>x)
 obtain⟨hT,h₂⟩:=h₂;unfold subscriptTail;refine ai ?_;rw[getitemInPython_of_ne hT.not_modules];refine ai (wpAny_specialOf hT hl ?_);have fin:wpAny (model prog w) A (subscripted slice false o i) (λr s₃=>wpAny (model prog w) A (letTemporaryGo value o r >>= λ_=>pure r) Q E s₃) E s₂:=by
  rw[hs o i];exact wpAny_operating (gq h₂ (λr s₃ h₃=>ai (wpAny_letTemporaryGo (aJ h₃))) λ_ _ x=>x)
 first
  |exact aJ (ai fin)
  |exact ai (aJ (ai fin))
  |exact ai fin
theorem Rk{X:Cx}{pins:aG}{σ:St}{H:Hp}{s:Shared}{a:Addr}{y:V}{o:Option V}(I:Inv X pins σ H s)(g:bU H a y o):s.TypeIs (.ref a) "dict":=by
 rcases g with⟨kvs,k,e,_,_⟩|⟨kvs,k,b,e,_,_,_⟩
 . obtain⟨_,_,vs,_,dd⟩:=nj I.au e
   exact dd.typeIs
 . obtain⟨_,_,xs,_,dd⟩:=pT I.au e
   exact dd.typeIs
def X7(td ty:TE):TE:=λσ H Q=>td σ H λx H1=>ty σ H1 λy H2=>∃a v,x= .ref a/\bU H2 a y (some v)/\Q v H2
def OK(ty td:TE):TE:=λσ H Q=>ty σ H λy H1=>td σ H1 λx H2=>∃a o,x= .ref a/\bU H2 a y o/\Q (.bl o.isSome) H2
def Ur(ty td:TE):TE:=λσ H Q=>ty σ H λy H1=>td σ H1 λx H2=>∃a o,x= .ref a/\bU H2 a y o/\Q (.bl (!o.isSome)) H2
def XF(td ty tv:TE):TS:=λD σ H=>tv σ H λv H1=>td σ H1 λx H2=>ty σ H2 λy H3=>∃a H4,x= .ref a/\ff H3 a y v H4/\D.nx σ H4
section
variable {X:Cx}{o i e value:Expr}{pos pos' tpos:Pos}{td ty tv:TE}
theorem UQ(hu:X.A.units+1<cLine)(ho:PE X o td)(hi:PE X i ty)(hs:yQ i):PE X (.Subscript o i pos) (X7 td ty):=by
 intro pins s σ H Q I h;refine GV PySem.F.slot_dict_getitem.lookup hs (ay (ho pins s σ H _ I h) λu s1 ⟨x,H1,I1,rx,q1⟩=>ay (hi pins s1 σ H1 _ I1 q1) λiv s2 zz=>?_);obtain⟨y,H2,I2,ry,a,v,ex,g,q2⟩:=zz
 subst ex;obtain rfl:u=Value.ref a:=rx;exact⟨Rk I2 g,SJ hu I2 g ry λw' s3 I3 rw'=>⟨v,H2,I3,rw',q2⟩⟩
theorem IP(hu:X.A.units+1<cLine)(hi:PE X i ty)(ho:PE X o td):PC X .In i o (OK ty td):=by
 intro pins s σ H Q I h;refine ay (hi pins s σ H _ I h) λiv s1 ⟨y,H1,I1,ry,q1⟩=>ay (ho pins s1 σ H1 _ I1 q1) λu s2 zz=>?_;obtain⟨x,H2,I2,rx,a,ov,ex,g,q2⟩:=zz
 subst ex;obtain rfl:u=Value.ref a:=rx;exact Pf hu I2 g ry λs3 I3=>⟨.bl ov.isSome,H2,I3,rfl,q2⟩
theorem FN(hu:X.A.units+1<cLine)(hi:PE X i ty)(ho:PE X o td):PC X .NotIn i o (Ur ty td):=by
 intro pins s σ H Q I h;refine ay (hi pins s σ H _ I h) λiv s1 ⟨y,H1,I1,ry,q1⟩=>ay (ho pins s1 σ H1 _ I1 q1) λu s2 zz=>?_;obtain⟨x,H2,I2,rx,a,ov,ex,g,q2⟩:=zz
 subst ex;obtain rfl:u=Value.ref a:=rx;exact Vq hu I2 g ry λs3 I3=>⟨.bl (!ov.isSome),H2,I3,rfl,q2⟩
theorem UI(hu:X.A.units+1<cLine)(ho:PE X o td)(hi:PE X i ty)(hv:PE X value tv)(hs:swapsWith value (some (.Subscript o i pos')) pos.line X.env=pure false):
 PS X (.Assign [.Subscript o i pos'] value pos) (XF td ty tv):=by
 intro pins s σ H D I h;refine wpAny_Assign_Subscript (ay (hv pins s σ H _ I h) λr s1 ⟨v,H1,I1,rv,q1⟩=>ay (ho pins s1 σ H1 _ I1 q1) λu s2 ⟨x,H2,I2,rx,q2⟩=>ay (hi pins s2 σ H2 _ I2 q2) λiv s3 zz=>?_) hs;obtain⟨y,H3,I3,ry,a,H4,ex,g,q3⟩:=zz
 subst ex;obtain rfl:u=Value.ref a:=rx;exact SH hu I3 g ry rv λs4 I4=>⟨σ,H4,I4,q3⟩
end
theorem TQ{P:Program}{w:World}{H:Hp}(h:Heap)(hb:sysModules<h.objs.size):aB P w H (h.push { cls:=.type "dict",data:=.dict #[] }) h.objs.size (.dK []):=
 ⟨qj _,mq.mpr (bC (cS hb)),[],.nil,Heap.DictOf.new h⟩
theorem TM{P:Program}{w:World}{H:Hp}(h:Heap)(hb:sysModules<h.objs.size):aB P w H (h.push { cls:=.type "dict",data:=.dict #[] }) h.objs.size (.dT []):=
 ⟨qj _,mq.mpr (bC (cS hb)),[],.nil,_,#[],0,eJ _ rfl,⟨rfl,rfl,rfl⟩,rfl,rfl,jI⟩
def VM:TE:=λ_ H Q=>∀p,H p=none->Q (.ref p) (upd H p (.dK []))
def VL:TE:=λ_ H Q=>∀p,H p=none->Q (.ref p) (upd H p (.dT []))
section
variable {X:Cx}{pos:Pos}
theorem SV:PE X (.Dict [] [] pos) VM:=λpins s σ H Q I h=>
 wpAny_Dict_empty ⟨.ref s.heap.objs.size,_,I.laid (a:=s.heap.objs.size) (o:=.dK []) (t':=s.toks) (λ_ _ q=>bT _ q) (aS _) (TQ s.heap I.big),rfl,h _ (I.au.fresh (aS _))⟩
theorem SU:PE X (.Dict [] [] pos) VL:=λpins s σ H Q I h=>
 wpAny_Dict_empty ⟨.ref s.heap.objs.size,_,I.laid (a:=s.heap.objs.size) (o:=.dT []) (t':=s.toks) (λ_ _ q=>bT _ q) (aS _) (TM s.heap I.big),rfl,h _ (I.au.fresh (aS _))⟩
end
structure M1(X:Cx)(o:Expr)(m:Str)(apos:Pos)(e:Expr)(cpos:Pos):Prop where
 base:attributeBase o m X.env (eval o X.env)=eval o X.env
 sL:((backTo cpos (starEach [e] X.env)).all (λx=>!x.1)&&(backToKw cpos (keywordEach [] X.env)).all (λx=>x.1.isSome)
  &&decide (([e]:aX).length+([]:List Keyword).length+(if([]:List Keyword).isEmpty then 0 else 1)<30))=true
 line:(apos.endLine==cpos.line)=true
 trees:backTo cpos (starEach [e] X.env)= [(false,eval e X.env)]
structure M2(X:Cx)(o:Expr)(m:Str)(apos:Pos)(e f:Expr)(cpos:Pos):Prop where
 base:attributeBase o m X.env (eval o X.env)=eval o X.env
 sL:((backTo cpos (starEach [e,f] X.env)).all (λx=>!x.1)&&(backToKw cpos (keywordEach [] X.env)).all (λx=>x.1.isSome)
  &&decide (([e,f]:aX).length+([]:List Keyword).length+(if([]:List Keyword).isEmpty then 0 else 1)<30))=true
 line:(apos.endLine==cpos.line)=true
 trees:backTo cpos (starEach [e,f] X.env)= [(false,eval e X.env),(false,eval f X.env)]
def zp(H:Hp)(a:Addr):Prop:=(∃kvs,Rd H a (.dK kvs))∨∃kvs,Rd H a (.dT kvs)
theorem W4{X:Cx}{pins:aG}{σ:St}{H:Hp}{s:Shared}{a:Addr}(I:Inv X pins σ H s)(d:zp H a):
 s.TypeIs (.ref a) "dict"/\(∀b,Value.ref a= .ref b->∃ob,s.heap.get? b=some ob/\ob.dict=none)/\(a==sysModules)=false:=by
 rcases d with⟨kvs,e⟩|⟨kvs,e⟩
 . obtain⟨_,hd,vs,_,dd⟩:=nj I.au e
   refine⟨dd.typeIs,λb q=>?_,hd⟩
   cases q;obtain⟨ob,_,_,h1,h2,_⟩:=dd;exact⟨ob,h1,h2.2.1⟩
 . obtain⟨_,hd,xs,_,dd⟩:=pT I.au e
   refine⟨dd.typeIs,λb q=>?_,hd⟩
   cases q;obtain⟨ob,_,_,h1,h2,_⟩:=dd;exact⟨ob,h1,h2.2.1⟩
section
variable {X:Cx}{pins:aG}{σ:St}{H:Hp}{s:Shared}{a:Addr}{y d:V}{u r:Value}{o:Option V}{A:Around}{E:aP}
theorem WU{Q:aP}(hu:A.units+1<cLine)(I:Inv X pins σ H s)(g:bU H a y o)(ry:RelV y u)(h:∀w' s',Inv X pins σ H s'->RelV (o.getD .ao) w'->Q w' s'):
 wpAny (model X.prog X.w) A (call (.builtin "dict.get") [.ref a,u]) Q E s:=by
 rcases g with⟨kvs,k,e,ey,l⟩|⟨kvs,k,b,e,ey,eb,l⟩
 . subst ey
   obtain⟨z,hd,vs,rel,dd⟩:=nj I.au e;refine call_meetsIn PySem.F.slot_dict_get dd.typeIs PySem.F.entry_dict_get (PySem.F.args_dict_get_2 _ _) (meets_dict_get (dW X.prog X.w) a (jd ry) hd) ⟨_,dd.mapOf,h _ _ (I.tok _) ?_⟩;rw[l];exact(rel.val k).getD rfl
 . subst ey
   cases(show u=Value.ref b from ry)
   obtain⟨z,hd,xs,rel,dd⟩:=pT I.au e;refine call_meetsIn PySem.F.slot_dict_get dd.typeIs PySem.F.entry_dict_get (PySem.F.args_dict_get_2 _ _) (meetsH_dict_get (tupleKind (optKind X.prog X.w)) a b hd) ⟨tupleKind_room_in1 hu,k,xs,pJ I.au eb,dd,h _ _ (I.tok _) ?_⟩;rw[l];exact(rel.val k).getD rfl
end
def VN(td ty:TE):TE:=λσ H Q=>td σ H λx H1=>∃a,x= .ref a/\zp H1 a/\ty σ H1 λy H2=>∃o,bU H2 a y o/\Q (o.getD .ao) H2
section
variable {X:Cx}{o e f:Expr}{apos cpos:Pos}{td ty tx:TE}
theorem SW(hu:X.A.units+1<cLine)(ho:PE X o td)(he:PE X e ty)(m:M1 X o "get" apos e cpos):PE X (.Call (.Attribute o "get" apos) [e] [] cpos) (VN td ty):=by
 intro pins s σ H Q I h;refine wpAny_Call_method m.base m.sL m.line PySem.F.plainAttrs_dict PySem.F.slot_dict_get PySem.F.type_dict_get (ay (ho pins s σ H _ I h) λu s1 zz=>?_);obtain⟨x,H1,I1,rx,a,ex,d,q1⟩:=zz
 subst ex;obtain rfl:u=Value.ref a:=rx;obtain⟨t1,t2,_⟩:=W4 I1 d;refine⟨t1,t2,?_⟩;rw[m.trees];refine Calls.callWith_builtin rfl (Calls.evalArgs_plain (Calls.spliced_cons (ay (he pins s1 σ H1 _ I1 q1) λiv s2 ⟨y,H2,I2,ry,ov,g,q2⟩=>Calls.spliced_nil ?_)))
 exact WU hu I2 g ry λw' s3 I3 rw'=>⟨_,H2,I3,rw',q2⟩
end
end L2
namespace Att
open PySem PySem.W PySem.Calls PyProof.Rows
theorem Qq{P:Params}{h:Heap}:∀(ns:List Int) (vs:aq),WellAll P h vs (ns.map WData.int)->IntsAre vs ns:=by
 intro ns
 induction ns with
 |nil=>
  intro vs w;rw[qq]at w;cases w;exact .nil
 |cons n ns ih=>
  intro vs w;rw[cj]at w;cases w with
  |cons a b=>
   cases a;exact .cons _ _ (ih _ b)
theorem Sa{l:OpenLaw}{n:Nat}(hn:l.most=some n){P:Params}{h:Heap}{args:List WData}{vals:aq}
 (hpre:l.row.toRowW.claim.pre args=true) (hwl:WellAll P h vals args):
 ∃a vs ns,vals= [Value.ref a]/\args= [WData.list (ns.map WData.int)]/\h.get? a=some { cls:=.type "list",data:=.seq vs.toArray }/\IntsAre vs ns/\ns.length<=n:=by
 have hsh:WShape.hasAll [] args [.list .int]=true:=(pre_splitW hpre).1;have hc:l.pre.holds [] { args:=args }=true:=(pre_splitW hpre).2;obtain⟨d,r,rfl,h1,h2⟩:=hasAllW_cons hsh;obtain rfl:=hasAllW_nil h2;obtain⟨xs,rfl,h3⟩:=hasW_list h1;obtain⟨ns,rfl⟩:=items_int h3;have hlen:ns.length<=n:=by
  unfold OpenLaw.pre at hc;have h4:(WTm.not (.lt (.lit (.int (n:Int))) (.len (.arg 0)))).holds [] { args:=[.list (ns.map .int)] }=true:=by
   have h4:=(holds_andW hc).1;rw[hn]at h4;exact h4
  have h5:=condW_of h4 (w_not (w_lt w_lit (w_len_list (w_arg rfl))));rw[bw]at h5;refine Nat.le_of_not_lt λq=>?_
  have q':(n:Int)<((ns.length:Nat):Int):=by omega
  first
   |(rw[eI q']at h5;exact bp h5 ⋯)
   |(simp at h5;omega)
 cases hwl with
 |cons w1 w2=>
  cases w2;cases w1 with
  |list ho hall=>exact⟨_,_,ns,rfl,rfl,ho,Qq ns _ hall,hlen⟩
theorem R0(l:OpenLaw)(args:List WData):l.row.toRowW.claim.post args (.bool true) args=true:=
 postW_of (r:=l.row.toRowW) (X:=(true==true))
  (show WShape.has [] (.bool true) .bool=true by first|rfl|decide|simp[WShape.has,WShape.arms,WShape.armsAll])
  (show(WTm.eq .res (.lit (.bool true))).value [] { args:=args,res:=some (.bool true),after:=args }=some (.bool (true==true))from w_eq_bool (w_res rfl) w_lit) rfl
theorem dw{l:OpenLaw}{n:Nat}{q:Program}{loose:az}{XP:(bj)->Heap->Prop}{YP:World->Heap->Prop}{d:DefRec}
 (hn:l.most=some n) (hdf:d.params.defaults= [])
 (call:∀(w:World) (s₀ s₁:Shared) (mg mb:bj) (fa:Addr) (o:Obj) (pm cd doc:Value) (a:Addr) (vs:aq) (ns:List Int),
  Ground q loose [] XP w s₀ mg mb s₁.heap->YP w s₁.heap->
  s₁.heap.get? fa=some o->o.data= .func (docDef d.name d.params d.body d.scope pm cd doc)->s₁.heap.CodeRec cd d.name->mg d.name=some (.ref fa)->
  s₁.heap.get? a=some { cls:=.type "list",data:=.seq vs.toArray }->IntsAre vs ns->ns.length<=n->s₁.gens= #[]->
  codeAny (model l.prog w) callerA (.call (.ref fa) ⟨[.ref a],[]⟩) (λr s'=>r= .ok (.ret (.bool true))/\OldK s₁.heap s'.heap/\s'.os=s₁.os/\AllBare s'.gens) s₁):
 WalkO q loose XP YP l.row.toRowW d [] (λf vs=>PySem.call f vs):=by
 intro w s₀ s₁ mg mb G Y fa o pm cd doc dV kV ho hd hcd hD hmg hg args vals as hpre hlay hrd hwl hlo;obtain rfl:dV= .none:=Dflts.none hD hdf;obtain rfl:kV= .none:=Dflts.noKw hD;obtain⟨a,vs,ns,rfl,rfl,hobj,hints,hlen⟩:=Sa hn hpre hwl;refine enter_call (codeAny_mono (call w s₀ s₁ mg mb fa o pm cd doc a vs ns G Y ho (fd_plain hd) hcd hmg hobj hints hlen hg) λr s' hq=>?_)
 obtain⟨rfl,h2,h3,h4⟩:=hq;exact⟨.inl ⟨.bool true,.bool true,[],rfl,λ_=>rfl,.bool true,R0 l _,λ_=>⟨List.Pairwise.nil,λ_ hm=>(nomatch hm)⟩⟩,h2,h3,h4⟩
section
variable {prog:Program}{w:World}{A:Around}{E:aP}{s:Shared}{K:Frag}
noncomputable def ledger (h:Heap)(L d:Addr):aG:=(List.range h.objs.size).filterMap λa=>if a=L∨a=d then none else(h.get? a).map λo=>(a,o)
end
end Att
namespace L2
open PySem PySem.Spec PyProof.Rows
theorem dv:∀{vs:aq} {ns:List Int},IntsAre vs ns->Vals (ns.map V.int) vs
 |_,_,.nil=>.nil
 |_,_,.cons n t h=>.cons ⟨t,rfl⟩ (dv h)
def BG(H:Hp):Prop:=∀b,H b=none∨∃o xs,H b=some (.aV o (.lst xs))
theorem Ug{P:Program}{w:World}{K:ae}{mg mb:bj}{CX:iU}{k:Nat}{fa a:Addr}{fd:FuncData}{x:Str}{sp:Sp}{s₁:Shared}{vs:aq}{ns:List Int}
 (KX:K.In s₁.heap) (hns:s₁.heap.Ns mainGlobals mg) (hb:s₁.heap.Ns builtinsNs mb) (hbb:∀x:Str,x≠"__name__"->mb x=bootBuiltins x) (hlim:s₁.heap.NoLimit) (hg:s₁.gens= #[])
 (ha:s₁.heap.get? a=some { cls:=.type "list",data:=.seq vs.toArray }) (hi:IntsAre vs ns) (hl:ns.length<=sizeLine) (hr:aH k callerA)
 (F:∀base:Heap,K.In base->base.Ns mainGlobals mg->c6 P w K mg base CX k fa fd [x] sp) (hbind:∀(s:Shared) (u:Value),BindsTo s fd ⟨[u],[]⟩ [(x,u)])
 (hsp:∀H:Hp,BG H->cg K H a (ns.map V.int)->sp [.ref a] H (λv _=>v= .bl true) λ_ _ _=>False)
 (hCX:∀H e s',CX [] H s₁ (λ_ _ _=>False) e s'->False):
 codeAny (model P w) callerA (.call (.ref fa) ⟨[.ref a],[]⟩) (λr s'=>r= .ok (.ret (.bool true))/\OldK s₁.heap s'.heap/\s'.os=s₁.os/\AllBare s'.gens) s₁:=by
 have rv:=dv hi;have lenV:=hi.length;have core:∀H:Hp,BG H->cg K H a (ns.map V.int)->cz P w H s₁.heap->(∀b,H b≠none->b=a)->(H a≠none->K.lookup a=none)->
  codeAny (model P w) callerA (.call (.ref fa) ⟨[.ref a],[]⟩) (λr s'=>r= .ok (.ret (.bool true))/\OldK s₁.heap s'.heap/\s'.os=s₁.os/\AllBare s'.gens) s₁:=by
  intro H hO hS au hA hK;have base_of:∀{b:Addr} {o:Obj},s₁.heap.get? b=some o->H b=none->(ik s₁.heap H).get? b=some o:=λe n=>Ao e n
  have noA:∀{b:Addr} {o:Obj} {es:Array DictEntry} {ep:Nat},s₁.heap.get? b=some o->o.data= .dict es ep->H b=none:=λ{b o es ep} e d=>by
   cases q:H b with
   |none=>rfl
   |some u=>
    have e':b=a:=hA b (by rw[q];simp)
    subst e';rw[ha]at e;cases e;have d':Data.seq vs.toArray _=Data.dict es ep:=d;cases d'
  have nsK:∀{b:Addr} {m:bj},s₁.heap.Ns b m->(ik s₁.heap H).Ns b m:=λ{b m} ⟨o,es,ep,e,d,r⟩=>⟨o,es,ep,base_of e (noA e d),d,r⟩
  have hKb:K.In (ik s₁.heap H):=λb o e=>base_of (KX b o e) (by
   cases q:H b with
   |none=>rfl
   |some u=>
    have e':b=a:=hA b (by rw[q];simp)
    subst e';rw[hK (by rw[q];simp)]at e;cases e)
  have hM:Mod K mg (ik s₁.heap H):=⟨hKb,nsK hns,⟨mb,nsK hb,hbb⟩,let⟨mc,h1,h2⟩:=hlim;⟨mc,nsK h1,h2⟩⟩;have e0:fJ P w K mg (ik s₁.heap H) callerA [] s₁ H:=⟨rfl,hM,λb o e=>Hh e,Nat.le_of_eq (FL _ _),trivial,λb hb=>bp (show b∈([]:List Addr)from hb) (by simp),au,.of_eq hg⟩
  refine codeAny_mono ((F _ hKb (nsK hns)).run callerA [] s₁ H ⟨[.ref a],[]⟩ [.ref a] [.ref a] _ _ hr e0 (hbind s₁ (.ref a)) (.cons rfl .nil) (hsp H hO hS)) λr s' h=>?_
  cases r with
  |error e=>exact(hCX H e s' h).elim
  |ok fl=>
   cases fl with
   |next=>exact False.elim h
   |brk=>exact False.elim h
   |cont=>exact False.elim h
   |ret u=>
    obtain⟨v,H',os,bare,un,hok',r',q⟩:=h;have q':v= .bl true:=q;subst q';obtain rfl:u=Value.bool true:=r';refine⟨rfl,OldK.of_keep λb o e=>?_,os,bare⟩
    cases q:H b with
    |none=>exact un.keep b o e q (by intro z;exact bp (show b∈([]:List Addr)from z) (by simp)) (by simp)
    |some u=>
     rcases hO b with z|⟨ob,xs,z⟩
     . rw[q]at z;cases z
     . have z2:=un.aI b ob _ z
       obtain⟨e1,_⟩:=au b _ z;obtain⟨e2,_⟩:=hok' b _ z2;rw[e]at e1;cases e1;exact e2
 cases hk:K.lookup a with
 |some o=>
  have e:=KX a o hk;rw[ha]at e;cases e;refine core (λ_=>none) (λ_=>.inl rfl) (.inr ⟨_,vs.toArray,_,hk,rfl,rfl,rfl,by rw[c7,lenV];exact hl,by simpa using rv⟩) (λb u z=>by have z':(none:Option HO)=some u:=z;cases z') (λb z=>bp rfl z) λz=>bp rfl z
 |none=>
  refine core (λb=>if b=a then some (.aV { cls:=.type "list",data:=.seq vs.toArray } (.lst (ns.map V.int)))else none) (λb=>?_) (.inl (.inr ⟨{ cls:=.type "list",data:=.seq vs.toArray },ar rfl⟩)) (λb u z=>?_) (λb z=>?_) λ_=>hk
  . by_cases hb:b=a
    . exact .inr ⟨_,_,ar hb⟩
    . exact .inl (ag hb)
  . by_cases hb:b=a
    . have z':=(ar hb).symm.trans z
      cases z';subst hb;exact⟨ha,by rw[bw];exact hl,vs,_,rv,ha⟩
    . have z':=(ag hb).symm.trans z
      cases z'
  . by_cases hb:b=a
    . exact hb
    . exact bp (ag hb) z
noncomputable abbrev KOf {K:ae} {h:Heap} (_:K.In h):ae:=K
theorem qvq{l:PySem.W.OpenLaw}{n k:Nat}{q:Program}{loose:az}{XP:(bj)->Heap->Prop}{YP:World->Heap->Prop}{d:DefRec}{K:Params->ae}{CX:World->iU}{sp:World->Sp}{x:Str}
 (hn:l.most=some n) (hn2:n<=sizeLine) (hdf:d.params.defaults= []) (hr:aH k callerA)
 (hY:∀(w:World) (h:Heap),YP w h->(K w.params).In h)
 (F:∀(w:World) (mg:bj) (fa:Addr) (h:Heap),(K w.params).In h->h.Ns mainGlobals mg->mg d.name=some (.ref fa)->
  ∃fd:FuncData,(∀(s:Shared) (u:Value),BindsTo s fd ⟨[u],[]⟩ [(x,u)])/\
   ∀base:Heap,(K w.params).In base->base.Ns mainGlobals mg->c6 l.prog w (K w.params) mg base (CX w) k fa fd [x] (sp w))
 (hsp:∀(w:World) (H:Hp) (a:Addr) (ns:List Int),ns.length<=n->BG H->cg (K w.params) H a (ns.map V.int)->sp w [.ref a] H (λv _=>v= .bl true) λ_ _ _=>False)
 (hCX:∀(w:World) (H:Hp) (s:Shared) (e:Value) (s':Shared),CX w [] H s (λ_ _ _=>False) e s'->False):
 PySem.W.WalkO q loose XP YP l.row.toRowW d [] (λf vs=>PySem.call f vs):=by
 refine Att.dw hn hdf λw s₀ s₁ mg mb fa o pm cd doc a vs ns G Y ho hd hcd hmg hobj hints hlen hg=>?_
 have KX:=hY w _ Y;obtain⟨fd,hb,hF⟩:=F w mg fa _ KX G.T.g hmg;exact Ug KX G.T.g G.T.b G.T.builtins G.T.nolimit hg hobj hints (bG hlen hn2) hr hF hb (λH hO hS=>hsp w H a ns hlen hO hS) λH e s'=>hCX w H s₁ e s'
noncomputable def inClass (s:Stmt)(j:Nat):Stmt:=match s with
 | .ClassDef _ _ _ body _ _ _ _ _ _ _=>body.getD j (.Pass ⟨0,0,0,0⟩)
 |_=>.Pass ⟨0,0,0,0⟩
noncomputable def HE (s:Stmt):Arguments:=match s with
 | .FunctionDef _ a _ _ _ _ _ _ _ _=>a
 |_=>{ posonlyargs:=[],args:=[],vararg:=none,kwonlyargs:=[],kw_defaults:=[],kwarg:=none,defaults:=[] }
noncomputable def pA (s:Stmt):List Stmt:=match s with
 | .FunctionDef _ _ b _ _ _ _ _ _ _=>b
 |_=>[]
noncomputable def fz (s:Stmt):Scope:=match s with
 | .FunctionDef _ _ _ _ _ _ sc _ _ _=>sc
 |_=>{ kind:=.function,names:=[],isGenerator:=false,isCoroutine:=false }
abbrev eS:iU:=λ_ _ _ _ _ _=>False
abbrev E0:XK:=λ_ _ _=>False
theorem pN{X:Cx}:Passes eS X E0:=λ_ _ _ _ _ _ _ h=>h.elim
structure sh(K:ae)(x qual:Str)(st:Stmt)(f:Addr)(fd:FuncData):Prop where
 ex:∃(oc:Value) (od:Option Addr) (kV doc pm:Value) (an:Option Addr) (cdv ct:Value) (osl:Array (cI)),
  fd=PySem.W.fnOf x qual (HE st) (pA st) (fz st) .none kV doc pm an cdv ct/\K.lookup f=some ⟨oc,od,.func fd,osl⟩/\PySem.W.codeIn K cdv qual=true
 kp:PySem.W.keepIn K (.ref f)=true
section
variable {P:Program}{w:World}{K:ae}{mg:bj}{base:Heap}
theorem sh.ok{x qual:Str}{st:Stmt}{f:Addr}{fd:FuncData}{N ps:az}{k:Nat}{sp:Sp}(F:sh K x qual st f fd)(S:qW N ps (fz st))(len:∀vs H Q E,sp vs H Q E->vs.length=ps.length)
 (hbody:∀(cdv:Value),fd.code=cdv->∀(A:Around) (outer:List Env) (s:Shared) (H:Hp) (vs:LV) (Q:VK) (E:XK),aH k (A.deeper (envOfC qual (fz st) s.heap.objs.size f cdv))->sp vs H Q E->
  ∃t,fx (nq eS P w K mg base N qual (fz st) f cdv A outer s H E).qG (pA st) t/\t { nx:=λ_ H'=>Q .ao H',rt:=Q } (start N vs) H):c6 P w K mg base eS (k+1) f fd ps sp:=by
 obtain⟨oc,od,kV,doc,pm,an,cdv,ct,osl,rfl,lk,hcd⟩:=F.ex;refine ZG lk hcd S len λA outer s H vs Q E hr hsp=>?_
 obtain⟨t,h,q⟩:=hbody cdv rfl A outer s H vs Q E hr hsp;exact⟨t,h.qG,q⟩
end
theorem m9{A:Around}{k:Nat}(hr:aH k A):A.units+1<cLine:=jm (Nat.add_le_add_left (by decide:1<=64) _) hr.units
theorem p8{A B:Prop}(h:B):if false=true then A else B:=by
 rw[ag gL];exact h
theorem p7{A B:Prop}(h:A):if true=true then A else B:=by
 rw[ar rfl];exact h
section
variable {X:Cx}
theorem Tu:cZ X (.builtin "len") (λxs H Q=>∃a kvs,xs= [V.ref a]/\H a=some (.dK kvs)/\Q (.int kvs.length) H):=by
 intro pins s σ H xs us Q I r h;obtain⟨a,kvs,rfl,ha,q⟩:=h;obtain⟨u,rfl,ru⟩:=vals1 r;cases ru;exact ZN I (.inl ha) λt s' I'=>⟨.int kvs.length,H,I',⟨t,rfl⟩,q⟩
end
end L2
namespace R
open PySem PySem.Spec PyProof.Rows L2
inductive RV where
 |ao|bl (b:Bool)|int (i:Int)|str (x:Str)|ref (a:Addr)|ty (n:String)
 |tup (xs:List RV)|ls (xs:List RV)
abbrev LR:=List RV
abbrev bH:=List (Key×RV)
def Fz(K:ae)(H:Hp)(a:Addr)(vs:LV):Prop:=
 (∃o,H a=some (.aV o (.lst vs)))∨
  ∃(o:Obj) (ab:Array Value) (n:Nat),K.lookup a=some o/\o.cls= .type "list"/\o.dict=Option.none/\o.data= .seq ab n/\ab.size<=sizeLine/\Vals vs ab.toList
theorem Fz.sq{K:ae}{H:Hp}{a:Addr}{vs:LV}(h:Fz K H a vs):cg K H a vs:=by
 rcases h with⟨o,h⟩|h
 . exact .inl (.inr ⟨o,h⟩)
 . exact .inr h
instance {K:ae} {H:Hp} {a:Addr} {xs:LV}:Coe (H a=some (HO.tup xs)) (bP K H a xs):=⟨bP.of⟩
mutual
def Rep(K:ae)(H:Hp):RV->V->Prop
 | .ao,v=>v= .ao
 | .bl b,v=>v= .bl b
 | .int i,v=>v= .int i
 | .str x,v=>v= .str x
 | .ref a,v=>v= .ref a
 | .ty n,v=>v= .ty n
 | .tup xs,v=>∃a vs,v= .ref a/\H a=some (.tup vs)/\aa K H xs vs
 | .ls xs,v=>∃a vs,v= .ref a/\Fz K H a vs/\aa K H xs vs
def aa(K:ae)(H:Hp):LR->LV->Prop
 | [],vs=>vs= []
 |x::xs,vs=>∃v r,vs=v::r/\Rep K H x v/\aa K H xs r
end
noncomputable def je:HO->Bool
 | .dK _=>true
 | .dT _=>true
 |_=>false
structure bg(H H':Hp):Prop where
 bb:∀b xs,H b=some (.tup xs)->H' b=some (.tup xs)
 aI:∀b o u,je u=false->H b=some (.aV o u)->H' b=some (.aV o u)
structure Ext(H H':Hp):Prop where
 bb:∀b xs,H b=some (.tup xs)->H' b=some (.tup xs)
 aI:∀b o u,H b=some (.aV o u)->H' b=some (.aV o u)
theorem Ext.w{H H':Hp}(e:Ext H H'):bg H H':=⟨e.bb,λb o u _ h=>e.aI b o u h⟩
theorem Ext.refl(H:Hp):Ext H H:=⟨λ_ _ h=>h,λ_ _ _ h=>h⟩
theorem Ext.trans{H H1 H2:Hp}(a:Ext H H1)(b:Ext H1 H2):Ext H H2:=⟨λc x h=>b.bb c x (a.bb c x h),λc o x h=>b.aI c o x (a.aI c o x h)⟩
theorem bg.trans{H H1 H2:Hp}(a:bg H H1)(b:bg H1 H2):bg H H2:=⟨λc x h=>b.bb c x (a.bb c x h),λc o x n h=>b.aI c o x n (a.aI c o x n h)⟩
theorem Ext.new{H:Hp}{p:Addr}{o:HO}(h:H p=none):Ext H (upd H p o):=
 ⟨λb xs e=>by rw[aD (fb e h)];exact e,λb o xs e=>by rw[aD (fb e h)];exact e⟩
noncomputable def PZ:HO->Bool
 | .tup _=>false
 | .aV _ _=>false
 |_=>true
theorem bg.bY{H:Hp}{p:Addr}{o:Obj}{u:HO}(h:H p=some (.aV o u))(s:je u=true){v:HO}:bg H (upd H p v):=by
 refine⟨λb xs e=>?_,λb ob xs nd e=>?_⟩
 . have n:b≠p:=by rintro rfl;rw[h]at e;cases e
   rw[aD n];exact e
 . have n:b≠p:=by rintro rfl;rw[h]at e;cases e;rw[s]at nd;cases nd
   rw[aD n];exact e
theorem Ext.write{H:Hp}{p:Addr}{o o':HO}(h:H p=some o)(s:PZ o=true):Ext H (upd H p o'):=by
 refine⟨λb xs e=>?_,λb ob xs e=>?_⟩
 . have n:b≠p:=by rintro rfl;rw[h]at e;cases e;cases s
   rw[aD n];exact e
 . have n:b≠p:=by rintro rfl;rw[h]at e;cases e;cases s
   rw[aD n];exact e
theorem bP.aR{K:ae}{H H':Hp}{a:Addr}{vs:LV}(e:bg H H')(h:bP K H a vs):bP K H' a vs:=by
 rcases h with(h|⟨o,h⟩)|h
 . exact .inl (.inl (e.bb _ _ h))
 . exact .inl (.inr ⟨o,e.aI _ _ _ rfl h⟩)
 . exact .inr h
theorem Fz.aR{K:ae}{H H':Hp}{a:Addr}{vs:LV}(e:bg H H')(h:Fz K H a vs):Fz K H' a vs:=by
 rcases h with⟨o,h⟩|h
 . exact .inl ⟨o,e.aI _ _ _ rfl h⟩
 . exact .inr h
mutual
theorem Rep.aR{K:ae}{H H':Hp}(e:bg H H'):∀(r:RV) (v:V),Rep K H r v->Rep K H' r v
 | .ao,v,h=>by simpa only[Rep]using h
 | .bl _,v,h=>by simpa only[Rep]using h
 | .int _,v,h=>by simpa only[Rep]using h
 | .str _,v,h=>by simpa only[Rep]using h
 | .ref _,v,h=>by simpa only[Rep]using h
 | .ty _,v,h=>by simpa only[Rep]using h
 | .tup xs,v,h=>by
  simp only[Rep]at h ⊢;obtain⟨a,vs,e1,h1,h2⟩:=h;exact⟨a,vs,e1,e.bb _ _ h1,aa.aR e xs vs h2⟩
 | .ls xs,v,h=>by
  simp only[Rep]at h ⊢;obtain⟨a,vs,e1,h1,h2⟩:=h;exact⟨a,vs,e1,h1.aR e,aa.aR e xs vs h2⟩
theorem aa.aR{K:ae}{H H':Hp}(e:bg H H'):∀(rs:LR) (vs:LV),aa K H rs vs->aa K H' rs vs
 | [],vs,h=>by simpa only[aa]using h
 |x::xs,vs,h=>by
  simp only[aa]at h ⊢;obtain⟨v,r,e1,h1,h2⟩:=h;exact⟨v,r,e1,Rep.aR e x v h1,aa.aR e xs r h2⟩
end
section
variable {K:ae}{H:Hp}
theorem aa.cons{x:RV}{xs:LR}{v:V}{vs:LV}(h:Rep K H x v)(t:aa K H xs vs):aa K H (x::xs) (v::vs):=by
 simp only[aa];exact⟨v,vs,rfl,h,t⟩
theorem aa.nil:aa K H [] []:=by simp only[aa]
theorem aa.length:∀{xs:LR} {vs:LV},aa K H xs vs->xs.length=vs.length
 | [],vs,h=>by simp only[aa]at h;subst h;rfl
 |x::xs,vs,h=>by
  simp only[aa]at h;obtain⟨v,r,rfl,_,t⟩:=h;simp[aa.length t]
theorem aa.get:∀{xs:LR} {vs:LV} {i:Nat} {x:RV},aa K H xs vs->xs[i]? =some x->∃v,vs[i]? =some v/\Rep K H x v
 | [],_,_,_,_,e=>by simp at e
 |y::xs,vs,0,x,h,e=>by
  simp only[aa]at h;obtain⟨v,r,rfl,h1,_⟩:=h;simp at e;subst e;exact⟨v,by simp,h1⟩
 |y::xs,vs,i+1,x,h,e=>by
  simp only[aa]at h;obtain⟨v,r,rfl,_,t⟩:=h;obtain⟨u,h1,h2⟩:=aa.get (i:=i) t (by simpa using e)
  exact⟨u,by simpa using h1,h2⟩
theorem aa.append:∀{xs ys:LR} {vs ws:LV},aa K H xs vs->aa K H ys ws->aa K H (xs++ys) (vs++ws)
 | [],_,vs,_,h,t=>by simp only[aa]at h;subst h;simpa using t
 |x::xs,ys,vs,ws,h,t=>by
  simp only[aa]at h;obtain⟨v,r,rfl,h1,h2⟩:=h;exact aa.cons h1 (aa.append h2 t)
theorem aa.take:∀{xs:LR} {vs:LV} (n:Nat),aa K H xs vs->aa K H (xs.take n) (vs.take n)
 |_,_,0,_=>by simpa using aa.nil
 | [],vs,n+1,h=>by simp only[aa]at h;subst h;simpa using aa.nil
 |x::xs,vs,n+1,h=>by
  simp only[aa]at h;obtain⟨v,r,rfl,h1,h2⟩:=h;exact aa.cons h1 (aa.take n h2)
theorem aa.drop:∀{xs:LR} {vs:LV} (n:Nat),aa K H xs vs->aa K H (xs.drop n) (vs.drop n)
 |_,_,0,h=>by simpa using h
 | [],vs,n+1,h=>by simp only[aa]at h;subst h;simpa using aa.nil
 |x::xs,vs,n+1,h=>by
  simp only[aa]at h;obtain⟨v,r,rfl,h1,h2⟩:=h;exact aa.drop n h2
theorem aa.set{x:RV}{v:V}(hx:Rep K H x v):∀{xs:LR} {vs:LV} (i:Nat),aa K H xs vs->aa K H (xs.set i x) (vs.set i v)
 | [],vs,i,h=>by simp only[aa]at h;subst h;simpa using aa.nil
 |y::xs,vs,0,h=>by
  simp only[aa]at h;obtain⟨w,r,rfl,h1,h2⟩:=h;exact aa.cons hx h2
 |y::xs,vs,i+1,h=>by
  simp only[aa]at h;obtain⟨w,r,rfl,h1,h2⟩:=h;exact aa.cons h1 (aa.set hx i h2)
theorem aa.bI{xs:LR}{vs:LV}{i:Int}{x:RV}(h:aa K H xs vs)(e:L2.bI xs i=some x):∃v,L2.bI vs i=some v/\Rep K H x v:=by
 unfold L2.bI at e ⊢;rw[<-h.length];cases q:fg xs.length i with
 |none=>rw[q]at e;cases e
 |some j=>rw[q]at e;exact h.get (by simpa using e)
end
inductive RO where
 |lst (xs:LR)
 |dk (kvs:bH)
 |dt (kvs:List (List bJ×RV))
 |ins (C:Addr) (fs:List (Str×RV))
 |fk (kvs:bH)
 |ft (kvs:List (List bJ×RV))
 |tb (P:Addr) (pos:Pos) (q:Str)
noncomputable def fC (P:Addr)(pos:Pos)(x:Option Addr):Heap->Prop:=λh=>h.get? P=some { cls:=.none,data:=.fields (match x with|none=>#[]|some c=>#[rawInt pos.line,rawInt pos.col,.ref c]) }
abbrev RM:=Addr->Option RO
noncomputable def put (M:RM)(a:Addr)(o:RO):RM:=λb=>if b=a then some o else M b
theorem br{M:RM}{a:Addr}{o:RO}:put M a o a=some o:=by unfold put;rw[ar rfl]
theorem put_ne{M:RM}{a b:Addr}{o:RO}(h:b≠a):put M a o b=M b:=by unfold put;rw[ag h]
theorem eF{M:RM}{a:Addr}{o o':RO}:put (put M a o) a o'=put M a o':=by
 funext b;unfold put;split<;>rfl
noncomputable def aF {κ:Type}(K:ae)(H:Hp):List (κ×RV)->List (κ×V)->Prop
 | [],ws=>ws= []
 |(k,x)::r,ws=>∃v t,ws=(k,v)::t/\Rep K H x v/\aF K H r t
theorem aF.aR{κ:Type}{K:ae}{H H':Hp}(e:bg H H'):∀{xs:List (κ×RV)} {ws:List (κ×V)},aF K H xs ws->aF K H' xs ws
 | [],_,h=>h
 |(k,x)::r,ws,h=>by
  obtain⟨v,t,e1,h1,h2⟩:=h;exact⟨v,t,e1,Rep.aR e x v h1,aF.aR e h2⟩
noncomputable def cK (K:ae)(H:Hp):RO->HO->Prop
 | .lst xs,o=>∃vs,o= .lst vs/\aa K H xs vs
 | .dk kvs,o=>∃ws,o= .dK ws/\aF K H kvs ws
 | .dt kvs,o=>∃ws,o= .dT ws/\aF K H kvs ws
 | .ins C fs,o=>∃dx gs,o= .ins C dx gs/\aF K H fs gs
 | .fk kvs,o=>∃ob ws,o= .aV ob (.dK ws)/\aF K H kvs ws
 | .ft kvs,o=>∃ob ws,o= .aV ob (.dT ws)/\aF K H kvs ws
 | .tb P pos q,o=>o= .ext (fC P pos none)∨∃c oc vs t,o= .ext (fC P pos (some c))/\H c=some (.aV oc (.own c))/\oc.data= .fields vs/\vs[1]? =some (.str q t)
theorem cK.aR{K:ae}{H H':Hp}(e:bg H H'):∀{o:RO} {ho:HO},cK K H o ho->cK K H' o ho
 | .lst xs,_,h=>by obtain⟨vs,e1,h1⟩:=h;exact⟨vs,e1,aa.aR e xs vs h1⟩
 | .dk _,_,h=>by obtain⟨ws,e1,h1⟩:=h;exact⟨ws,e1,h1.aR e⟩
 | .dt _,_,h=>by obtain⟨ws,e1,h1⟩:=h;exact⟨ws,e1,h1.aR e⟩
 | .ins _ _,_,h=>by obtain⟨dx,gs,e1,h1⟩:=h;exact⟨dx,gs,e1,h1.aR e⟩
 | .fk _,_,h=>by obtain⟨dx,gs,e1,h1⟩:=h;exact⟨dx,gs,e1,h1.aR e⟩
 | .ft _,_,h=>by obtain⟨dx,gs,e1,h1⟩:=h;exact⟨dx,gs,e1,h1.aR e⟩
 | .tb _ _ _,_,h=>h.imp id λ⟨c,oc,vs,t,e1,h1,h2⟩=>⟨c,oc,vs,t,e1,e.aI _ _ _ rfl h1,h2⟩
theorem cK.zJ{K:ae}{H:Hp}{p:Addr}{v:HO}:∀{o:RO} {ho:HO},cK K H o ho->H p=some ho->bg H (upd H p v)
 | .lst _,_,h,e=>by obtain⟨_,rfl,_⟩:=h;exact(Ext.write e rfl).w
 | .dk _,_,h,e=>by obtain⟨_,rfl,_⟩:=h;exact(Ext.write e rfl).w
 | .dt _,_,h,e=>by obtain⟨_,rfl,_⟩:=h;exact(Ext.write e rfl).w
 | .ins _ _,_,h,e=>by obtain⟨_,_,rfl,_⟩:=h;exact(Ext.write e rfl).w
 | .fk _,_,h,e=>by obtain⟨_,_,rfl,_⟩:=h;exact bg.bY e rfl
 | .ft _,_,h,e=>by obtain⟨_,_,rfl,_⟩:=h;exact bg.bY e rfl
 | .tb _ _ _,_,h,e=>by rcases h with rfl|⟨_,_,_,_,rfl,_⟩<;>exact(Ext.write e rfl).w
section
variable {K:ae}{H H':Hp}
theorem bP.ext{a:Addr}{vs:LV}(e:Ext H H')(h:bP K H a vs):bP K H' a vs:=bP.aR e.w h
theorem Fz.ext{a:Addr}{vs:LV}(h:Fz K H a vs)(e:Ext H H'):Fz K H' a vs:=h.aR e.w
theorem Rep.ext(e:Ext H H')(r:RV)(v:V)(h:Rep K H r v):Rep K H' r v:=Rep.aR e.w r v h
theorem aa.ext(e:Ext H H')(r:LR)(v:LV)(h:aa K H r v):aa K H' r v:=aa.aR e.w r v h
theorem aF.ext{κ:Type}{xs:List (κ×RV)}{ws:List (κ×V)}(h:aF K H xs ws)(e:Ext H H'):aF K H' xs ws:=aF.aR e.w h
theorem cK.ext{o:RO}{ho:HO}(h:cK K H o ho)(e:Ext H H'):cK K H' o ho:=cK.aR e.w h
end
def View(K:ae)(H:Hp)(M:RM):Prop:=∀a o,M a=some o->∃ho,H a=some ho/\cK K H o ho
section
variable {K:ae}{H H':Hp}{M:RM}{p:Addr}{ho:HO}{o:RO}
theorem View.free(w:View K H M)(h:H p=none):M p=none:=by
 cases q:M p with
 |none=>rfl
 |some o=>obtain⟨ho,e,_⟩:=w p o q;rw[h]at e;cases e
theorem View.new(w:View K H M)(h:H p=none):View K (upd H p ho) M:=λa o e=>by
 obtain⟨ho',e1,r⟩:=w a o e;exact⟨ho',by rw[aD (fb e1 h)];exact e1,r.ext (Ext.new h)⟩
theorem View.cM(w:View K H M)(h:H p=none)(r:cK K (upd H p ho) o ho):View K (upd H p ho) (put M p o):=λa o' e=>by
 by_cases ha:a=p
 . subst ha;rw[br]at e;cases e;exact⟨ho,c0,r⟩
 . rw[put_ne ha]at e;exact w.new h a o' e
theorem View.write{o':RO}(w:View K H M)(h:M p=some o')(r:cK K (upd H p ho) o ho):View K (upd H p ho) (put M p o):=λa o'' e=>by
 by_cases ha:a=p
 . subst ha;rw[br]at e;cases e;exact⟨ho,c0,r⟩
 . rw[put_ne ha]at e
   obtain⟨ho',e1,r1⟩:=w a o'' e;obtain⟨hp,e2,r2⟩:=w p o' h;exact⟨ho',by rw[aD ha];exact e1,cK.aR (r2.zJ e2) r1⟩
end
abbrev aY:=List (Option RV)
abbrev aj:=RV->RM->Prop
abbrev ak:=aY->RM->aj->Prop
abbrev cU:=aY->RM->(Bool->RM->Prop)->Prop
abbrev bA:=aY->RM->(LR->RM->Prop)->Prop
def aK(K:ae)(H:Hp)(σ:aY)(σ0:L2.St):Prop:=σ.length=σ0.length/\∀(i:Nat) r,σ[i]? =some (some r)->∃v,σ0[i]? =some (some v)/\Rep K H r v
theorem aK.aR{K:ae}{H H':Hp}{σ:aY}{σ0:L2.St}(h:aK K H σ σ0)(e:bg H H'):aK K H' σ σ0:=
 ⟨h.1,λi r q=>by obtain⟨v,e1,h1⟩:=h.2 i r q;exact⟨v,e1,Rep.aR e r v h1⟩⟩
theorem aK.ext{K:ae}{H H':Hp}{σ:aY}{σ0:L2.St}(h:aK K H σ σ0)(e:Ext H H'):aK K H' σ σ0:=h.aR e.w
theorem aK.set{K:ae}{H:Hp}{σ:aY}{σ0:L2.St}{r:RV}{v:V}(h:aK K H σ σ0)(hr:Rep K H r v)(i:Nat):aK K H (σ.set i (some r)) (σ0.set i (some v)):=by
 refine⟨by simp[h.1],λj r' q=>?_⟩
 by_cases hj:i=j
 . subst hj
   rw[List.getElem?_set]at q;split at q
   . split at q
     . cases q;rename_i hl _ ;exact⟨v,by rw[List.getElem?_set_self (by rw[<-h.1];assumption)],hr⟩
     . cases q
   . rename_i z;exact bp rfl z
 . rw[List.getElem?_set_ne hj]at q
   obtain⟨w,e1,h1⟩:=h.2 j r' q;exact⟨w,by rw[List.getElem?_set_ne hj];exact e1,h1⟩
def iX(K:ae)(H:Hp)(Q:aj)(Q0:VK):Prop:=∀rv M' v H',Q rv M'->Ext H H'->View K H' M'->Rep K H' rv v->Q0 v H'
theorem iX.ext{K:ae}{H H':Hp}{Q:aj}{Q0:VK}(h:iX K H Q Q0)(e:Ext H H'):iX K H' Q Q0:=λrv M' v H2 q e2 w r=>h rv M' v H2 q (e.trans e2) w r
def up(K:ae)(t:ak):TE:=λσ0 H Q0=>∃σ M Q,aK K H σ σ0/\View K H M/\t σ M Q/\iX K H Q Q0
def Cc(K:ae)(t:cU):TT:=λσ0 H Q0=>∃σ M Q,aK K H σ σ0/\View K H M/\t σ M Q/\∀b M' H',Q b M'->Ext H H'->View K H' M'->Q0 b H'
noncomputable def Cb (K:ae)(t:bA):TA:=λσ0 H Q0=>∃σ M Q,aK K H σ σ0/\View K H M/\t σ M Q/\∀rs M' vs H',Q rs M'->Ext H H'->View K H' M'->aa K H' rs vs->Q0 vs H'
structure RD where
 nx:aY->RM->Prop
 rt:aj
 bk:aY->RM->Prop:=λ_ _=>False
 ct:aY->RM->Prop:=λ_ _=>False
abbrev cD:=RD->aY->RM->Prop
def nW(K:ae)(H:Hp)(q:aY->RM->Prop)(q0:L2.St->Hp->Prop):Prop:=∀σ M σ0 H',q σ M->Ext H H'->View K H' M->aK K H' σ σ0->q0 σ0 H'
theorem nW.ext{K:ae}{H H':Hp}{Q:aY->RM->Prop}{Q0:L2.St->Hp->Prop}(h:nW K H Q Q0)(e:Ext H H'):nW K H' Q Q0:=λσ M σ0 H2 q e2 w r=>h σ M σ0 H2 q (e.trans e2) w r
structure vM(K:ae)(H:Hp)(D:RD)(D0:Ends):Prop where
 nx:nW K H D.nx D0.nx
 rt:iX K H D.rt D0.rt
 bk:nW K H D.bk D0.bk
 ct:nW K H D.ct D0.ct
theorem vM.ext{K:ae}{H H':Hp}{D:RD}{D0:Ends}(h:vM K H D D0)(e:Ext H H'):vM K H' D D0:=⟨h.nx.ext e,h.rt.ext e,h.bk.ext e,h.ct.ext e⟩
def MO(K:ae)(t:cD):TS:=λD0 σ0 H=>∃σ M D,aK K H σ σ0/\View K H M/\t D σ M/\vM K H D D0
def ah(X:Cx)(e:Expr)(t:ak):Prop:=PE X e (up X.K t)
def de(X:Cx)(e:Expr)(t:cU):Prop:=PT X e (Cc X.K t)
def mF(X:Cx)(e:Expr)(t:cU):Prop:=PW X e (Cc X.K t)
def d9(X:Cx)(es:aX)(t:bA):Prop:=PA X es (Cb X.K t)
def ee(X:Cx)(s:Stmt)(t:cD):Prop:=PS X s (MO X.K t)
def jg(X:Cx)(s:List Stmt)(t:cD):Prop:=fx X s (MO X.K t)
section
variable {X:Cx}
theorem PE.imp{e:Expr}{t t':TE}(h:PE X e t)(i:∀σ H Q,t' σ H Q->t σ H Q):PE X e t':=λpins s σ H Q I w=>h pins s σ H Q I (i σ H Q w)
theorem PT.imp{e:Expr}{t t':TT}(h:PT X e t)(i:∀σ H Q,t' σ H Q->t σ H Q):PT X e t':=λpins s σ H Q I w=>h pins s σ H Q I (i σ H Q w)
theorem PW.imp{e:Expr}{t t':TT}(h:PW X e t)(i:∀σ H Q,t' σ H Q->t σ H Q):PW X e t':=λwh pins s σ H Q I w=>h wh pins s σ H Q I (i σ H Q w)
theorem PA.imp{e:aX}{t t':TA}(h:PA X e t)(i:∀σ H Q,t' σ H Q->t σ H Q):PA X e t':=λpos pins s σ H Q I w=>h pos pins s σ H Q I (i σ H Q w)
theorem PS.imp{e:Stmt}{t t':TS}(h:PS X e t)(i:∀D σ H,t' D σ H->t D σ H):PS X e t':=λpins s σ H D I w=>h pins s σ H D I (i D σ H w)
theorem fx.imp{e:List Stmt}{t t':TS}(h:fx X e t)(i:∀D σ H,t' D σ H->t D σ H):fx X e t':=λpins s σ H D I w=>h pins s σ H D I (i D σ H w)
end
section
variable {X:Cx}{a b c:Expr}{ta tb tc:ak}{tA tB:cU}{pos:Pos}{rest:aX}
def pY(i:Nat):ak:=λσ M Q=>match σ[i]? with|some (some v)=>Q v M|_=>False
def rC(v:RV):ak:=λ_ M Q=>Q v M
theorem rv(i:Nat){x:Str}{pos:Pos}(hN:X.N[i]? =some x:=by rfl)(hv:qx X.env.scope x)(hd:(x==("__debug__":Str))=false:=by decide)
 (hcd:(x==("__classdict__":Str))=false:=by decide):ah X (.Name x pos) (pY i):=PE.imp (Wn hN hv hd hcd) λσ0 H Q h=>by
 obtain⟨σ,M,Qr,hs,hv,ht,hk⟩:=h;unfold pY at ht;split at ht
 . rename_i r e
   obtain⟨v,e1,h1⟩:=hs.2 i r e;exact⟨v,e1,hk r M v H ht (.refl H) hv h1⟩
 . exact ht.elim
theorem qX{e:Expr}{v:V}{r:RV}(h:PE X e (tC v))(hr:∀H,Rep X.K H r v):ah X e (rC r):=PE.imp h λσ0 H Q h=>by
 obtain⟨σ,M,Qr,hs,hv,ht,hk⟩:=h;exact hk r M v H ht (.refl H) hv (hr H)
theorem ri{i j pos}:ah X (.Constant (.int i) j pos) (rC (.int i)):=qX Wu λH=>by simp only[Rep]
theorem rb{b j pos}:ah X (.Constant (.bool b) j pos) (rC (.bl b)):=qX YL λH=>by simp only[Rep]
theorem rn{j pos}:ah X (.Constant .none j pos) (rC .ao):=qX Wt λH=>by simp only[Rep]
theorem rs{x j pos}:ah X (.Constant (.str x) j pos) (rC (.str x)):=qX Wq λH=>by simp only[Rep]
theorem Jg{x:Str}{v:V}{r:RV}{u:Value}{pos:Pos}(hm:X.mg x=some u)(rl:RelV v u)(hr:∀H,Rep X.K H r v)(hg:Gl X x:=by rfl)(hd:(x==("__debug__":Str))=false:=by decide):ah X (.Name x pos) (rC r):=
 qX (UP hg hm rl hd) hr
theorem uS{x:Str}{v:V}{r:RV}{u:Value}{pos:Pos}(hm:X.mg x=none)(hv:bootBuiltins x=some u)(rl:RelV v u)(hr:∀H,Rep X.K H r v)(hg:Gl X x:=by rfl)(hn:x≠"__name__":=by decide)(hd:(x==("__debug__":Str))=false:=by decide):ah X (.Name x pos) (rC r):=
 qX (US hg hm hv rl hn hd) hr
abbrev cb:=RV->RV->RM->aj->Prop
def rX(K:ae)(rr:cb):R2:=λx y H Q0=>∃rx ry M Q,Rep K H rx x/\Rep K H ry y/\View K H M/\rr rx ry M Q/\iX K H Q Q0
def cJ(X:Cx)(f:Value->Value->Sem Value)(rr:cb):Prop:=c9 X f (rX X.K rr)
def nz(rr:cb)(ta tb:ak):ak:=λσ M Q=>ta σ M λx M1=>tb σ M1 λy M2=>rr x y M2 Q
theorem xM{K:ae}{rr:cb}{σ0:L2.St}{H:Hp}{Q0:VK}(h:up K (nz rr ta tb) σ0 H Q0):rW (rX K rr) (up K ta) (up K tb) σ0 H Q0:=by
 obtain⟨σ,M,Q,hs,hv,ht,hk⟩:=h;refine⟨σ,M,_,hs,hv,ht,λrx M1 x H1 hb e1 v1 r1=>?_⟩
 refine⟨σ,M1,_,hs.ext e1,v1,hb,λry M2 y H2 hr e2 v2 r2=>?_⟩
 exact⟨rx,ry,M2,Q,Rep.ext e2 rx x r1,r2,v2,hr,hk.ext (e1.trans e2)⟩
theorem ZU{op:Operator}{rr:cb}(ho:cJ X (binaryOp op) rr)(ha:ah X a ta)(hb:ah X b tb):ah X (.BinOp a op b pos) (nz rr ta tb):=PE.imp (YJ ho ha hb) λ_ _ _ h=>xM h
theorem Pq{op:CmpOp}{rr:cb}(ho:cJ X (compareOp op) rr)(ha:ah X a ta)(hb:ah X b tb)(hm:behindInMarks op b=false):ah X (.Compare a [op] [b] pos) (nz rr ta tb):=
 PE.imp (He ho ha hb hm) λ_ _ _ h=>xM h
def jw(t:ak):cU:=λσ M Q=>t σ M λv M'=>match v with| .bl k=>Q k M'|_=>False
theorem mM{K:ae}{H:Hp}{Q:Bool->RM->Prop}{Q0:Bool->Hp->Prop}(hk:∀b M' H',Q b M'->Ext H H'->View K H' M'->Q0 b H'):
 iX K H (λv M'=>match v with| .bl k=>Q k M'|_=>False) (λx H'=>∃k,x= .bl k/\Q0 k H'):=λrv M' v H' q e w r=>by
 cases rv with
 |bl k=>simp only[Rep]at r;exact⟨k,r,hk k M' H' q e w⟩
 |_=>exact q.elim
theorem Y1{op:CmpOp}{rr:cb}(ho:cJ X (compareOp op) rr)(ha:ah X a ta)(hb:ah X b tb)(hm:behindInMarks op b=false):de X (.Compare a [op] [b] pos) (jw (nz rr ta tb)):=
 PT.imp (Hb ho ha hb hm) λσ0 H Q0 h=>by
  obtain⟨σ,M,Q,hs,hv,ht,hk⟩:=h;exact xM ⟨σ,M,_,hs,hv,ht,mM hk⟩
theorem YZ{e:Expr}{t:ak}(h:ah X e t)(he:∀whole,isTrue e X.env whole=(do let v<-whole;standAt e.pos;holding [v] (truthy v)):=by intro _;rfl):de X e (jw t):=
 PT.imp (WS h he) λσ0 H Q0 h=>by
  obtain⟨σ,M,Q,hs,hv,ht,hk⟩:=h;exact⟨σ,M,_,hs,hv,ht,mM hk⟩
noncomputable def qZ (rr rr':cb)(ta tb tc:ak):ak:=λσ M Q=>ta σ M λx M1=>tb σ M1 λy M2=>rr x y M2 λz M3=>match z with
 | .bl k=>(k=true->tc σ M3 λw M4=>rr' y w M4 Q)/\(k=false->Q (.bl false) M3)
 |_=>False
theorem Gh{K:ae}{rr rr':cb}{σ0:L2.St}{H:Hp}{Q0:VK}(h:up K (qZ rr rr' ta tb tc) σ0 H Q0):AH (rX K rr) (rX K rr') (up K ta) (up K tb) (up K tc) σ0 H Q0:=by
 obtain⟨σ,M,Q,hs,hv,ht,hk⟩:=h;refine⟨σ,M,_,hs,hv,ht,λrx M1 x H1 hb e1 v1 r1=>?_⟩
 refine⟨σ,M1,_,hs.ext e1,v1,hb,λry M2 y H2 hr e2 v2 r2=>?_⟩
 refine⟨rx,ry,M2,_,Rep.ext e2 rx x r1,r2,v2,hr,λrz M3 z H3 hz e3 v3 r3=>?_⟩
 cases rz with
 |bl k=>
  simp only[Rep]at r3;refine⟨k,r3,?_⟩;have e13:=(e1.trans e2).trans e3;cases k with
  |true=>
   refine p7 ?_;refine⟨σ,M3,_,hs.ext e13,v3,hz.1 rfl,λrw M4 w H4 hw e4 v4 r4=>?_⟩
   exact⟨ry,rw,M4,Q,Rep.ext (e3.trans e4) ry y r2,r4,v4,hw,hk.ext (e13.trans e4)⟩
  |false=>exact p8 (hk _ M3 _ H3 (hz.2 rfl) e13 v3 (by simp only[Rep]))
 |_=>exact hz.elim
theorem VH{op op':CmpOp}{rr rr':cb}(ho:cJ X (compareOp op) rr)(ho':cJ X (compareOp op') rr')(ha:ah X a ta)(hb:ah X b tb)(hc:ah X c tc)(hm:lastMarks [op,op'] [b,c]=false:=by with_unfolding_all rfl):
 ah X (.Compare a [op,op'] [b,c] pos) (qZ rr rr' ta tb tc):=PE.imp (SX ho ho' ha hb hc hm) λ_ _ _ h=>Gh h
theorem U9{op op':CmpOp}{rr rr':cb}(ho:cJ X (compareOp op) rr)(ho':cJ X (compareOp op') rr')(ha:ah X a ta)(hb:ah X b tb)(hc:ah X c tc)(hm:lastMarks [op,op'] [b,c]=false:=by with_unfolding_all rfl):
 de X (.Compare a [op,op'] [b,c] pos) (jw (qZ rr rr' ta tb tc)):=PT.imp (To ho ho' ha hb hc hm) λσ0 H Q0 h=>by
 obtain⟨σ,M,Q,hs,hv,ht,hk⟩:=h;exact Gh ⟨σ,M,_,hs,hv,ht,mM hk⟩
def B6(g:RV->RM->aj->Prop)(ta:ak):ak:=λσ M Q=>ta σ M λx M1=>g x M1 Q
def Cd(K:ae)(g:RV->RM->aj->Prop):V->Hp->VK->Prop:=λx H Q0=>∃rx M Q,Rep K H rx x/\View K H M/\g rx M Q/\iX K H Q Q0
theorem U5{K:ae}{g:RV->RM->aj->Prop}{σ0:L2.St}{H:Hp}{Q0:VK}(h:up K (B6 g ta) σ0 H Q0):MK (Cd K g) (up K ta) σ0 H Q0:=by
 obtain⟨σ,M,Q,hs,hv,ht,hk⟩:=h;exact⟨σ,M,_,hs,hv,ht,λrx M1 x H1 hb e1 v1 r1=>⟨rx,M1,Q,r1,v1,hb,hk.ext e1⟩⟩
theorem run{op:UnaryOp}{g:RV->RM->aj->Prop}(ho:sD X (unaryOp op) (Cd X.K g))(ha:ah X a ta):ah X (.UnaryOp op a pos) (B6 g ta):=PE.imp (YH ho ha) λ_ _ _ h=>U5 h
def yt(t u:cU):cU:=λσ M Q=>t σ M λc M1=>(c=true->u σ M1 Q)/\(c=false->Q false M1)
def yV(t u:cU):cU:=λσ M Q=>t σ M λc M1=>(c=true->Q true M1)/\(c=false->u σ M1 Q)
def DM(t:cU):cU:=λσ M Q=>t σ M λc M1=>Q (!c) M1
theorem Y9(ha:de X a tA):mF X (.BoolOp .And [a] pos) tA:=Vl ha
theorem Pl(ha:de X a tA):mF X (.BoolOp .Or [a] pos) tA:=WO ha
theorem rand(ha:de X a tA)(hb:mF X (.BoolOp .And (b::rest) pos) tB):mF X (.BoolOp .And (a::b::rest) pos) (yt tA tB):=PW.imp (WQ ha hb) λσ0 H Q0 h=>by
 obtain⟨σ,M,Q,hs,hv,ht,hk⟩:=h;refine⟨σ,M,_,hs,hv,ht,λk M1 H1 q e1 v1=>?_⟩
 cases k with
 |true=>exact p7 ⟨σ,M1,Q,hs.ext e1,v1,q.1 rfl,λb M' H' z e2 w=>hk b M' H' z (e1.trans e2) w⟩
 |false=>exact p8 (hk false M1 H1 (q.2 rfl) e1 v1)
theorem MJ(ha:de X a tA)(hb:mF X (.BoolOp .Or (b::rest) pos) tB):mF X (.BoolOp .Or (a::b::rest) pos) (yV tA tB):=PW.imp (YB ha hb) λσ0 H Q0 h=>by
 obtain⟨σ,M,Q,hs,hv,ht,hk⟩:=h;refine⟨σ,M,_,hs,hv,ht,λk M1 H1 q e1 v1=>?_⟩
 cases k with
 |true=>exact p7 (hk true M1 H1 (q.1 rfl) e1 v1)
 |false=>exact p8 ⟨σ,M1,Q,hs.ext e1,v1,q.2 rfl,λb M' H' z e2 w=>hk b M' H' z (e1.trans e2) w⟩
theorem yX(h:mF X a tA):de X a tA:=PW.pt h
theorem Y0(ha:de X a tA):de X (.UnaryOp .Not a pos) (DM tA):=PT.imp (WT ha) λσ0 H Q0 h=>by
 obtain⟨σ,M,Q,hs,hv,ht,hk⟩:=h;exact⟨σ,M,_,hs,hv,ht,λk M1 H1 q e1 v1=>hk (!k) M1 H1 q e1 v1⟩
def ya(ta tb:ak):ak:=λσ M Q=>ta σ M λx M1=>match x with| .bl c=>(c=true->tb σ M1 Q)/\(c=false->Q (.bl false) M1)|_=>False
def yD(ta tb:ak):ak:=λσ M Q=>ta σ M λx M1=>match x with| .bl c=>(c=true->Q (.bl true) M1)/\(c=false->tb σ M1 Q)|_=>False
def JH(ta:ak):ak:=λσ M Q=>ta σ M λx M1=>match x with| .bl c=>Q (.bl (!c)) M1|_=>False
theorem DC{op}{t:ak}(h:ah X a t):ah X (.BoolOp op [a] pos) t:=Wr h
theorem JC(ha:ah X a ta)(hb:ah X (.BoolOp .And (b::rest) pos) tb):ah X (.BoolOp .And (a::b::rest) pos) (ya ta tb):=PE.imp (Ww ha hb) λσ0 H Q0 h=>by
 obtain⟨σ,M,Q,hs,hv,ht,hk⟩:=h;refine⟨σ,M,_,hs,hv,ht,λrx M1 x H1 q e1 v1 r1=>?_⟩
 cases rx with
 |bl k=>
  simp only[Rep]at r1;refine⟨k,r1,?_⟩;cases k with
  |true=>exact p7 ⟨σ,M1,Q,hs.ext e1,v1,q.1 rfl,hk.ext e1⟩
  |false=>exact p8 (hk _ M1 _ H1 (q.2 rfl) e1 v1 (by simp only[Rep]))
 |_=>exact q.elim
theorem DB(ha:ah X a ta)(hb:ah X (.BoolOp .Or (b::rest) pos) tb):ah X (.BoolOp .Or (a::b::rest) pos) (yD ta tb):=PE.imp (YI ha hb) λσ0 H Q0 h=>by
 obtain⟨σ,M,Q,hs,hv,ht,hk⟩:=h;refine⟨σ,M,_,hs,hv,ht,λrx M1 x H1 q e1 v1 r1=>?_⟩
 cases rx with
 |bl k=>
  simp only[Rep]at r1;refine⟨k,r1,?_⟩;cases k with
  |true=>exact p7 (hk _ M1 _ H1 (q.1 rfl) e1 v1 (by simp only[Rep]))
  |false=>exact p8 ⟨σ,M1,Q,hs.ext e1,v1,q.2 rfl,hk.ext e1⟩
 |_=>exact q.elim
theorem Y3(ha:ah X a ta):ah X (.UnaryOp .Not a pos) (JH ta):=PE.imp (Ws ha) λσ0 H Q0 h=>by
 obtain⟨σ,M,Q,hs,hv,ht,hk⟩:=h;refine⟨σ,M,_,hs,hv,ht,λrx M1 x H1 q e1 v1 r1=>?_⟩
 cases rx with
 |bl k=>simp only[Rep]at r1;exact⟨k,r1,hk _ M1 _ H1 q e1 v1 (by simp only[Rep])⟩
 |_=>exact q.elim
def yU(t:cU)(ta tb:ak):ak:=λσ M Q=>t σ M λc M1=>(c=true->ta σ M1 Q)/\(c=false->tb σ M1 Q)
theorem ZR{c:Expr}(hc:de X c tA)(ha:ah X a ta)(hb:ah X b tb):ah X (.IfExp c a b pos) (yU tA ta tb):=PE.imp (SS hc ha hb) λσ0 H Q0 h=>by
 obtain⟨σ,M,Q,hs,hv,ht,hk⟩:=h;refine⟨σ,M,_,hs,hv,ht,λk M1 H1 q e1 v1=>?_⟩
 cases k with
 |true=>exact p7 ⟨σ,M1,Q,hs.ext e1,v1,q.1 rfl,hk.ext e1⟩
 |false=>exact p8 ⟨σ,M1,Q,hs.ext e1,v1,q.2 rfl,hk.ext e1⟩
variable {e:Expr}{es:aX}{te:ak}{t:bA}
def mh:bA:=λ_ M Q=>Q [] M
def rB(ta:ak)(tr:bA):bA:=λσ M Q=>ta σ M λx M1=>tr σ M1 λxs M2=>Q (x::xs) M2
theorem BB:d9 X [] mh:=PA.imp Wx λσ0 H Q0 h=>by
 obtain⟨σ,M,Q,hs,hv,ht,hk⟩:=h;exact hk [] M [] H ht (.refl H) hv aa.nil
theorem yg(ha:ah X e te)(hr:d9 X es t)(hs:starEach (e::es) X.env=(false,eval e X.env)::starEach es X.env:=by rfl):d9 X (e::es) (rB te t):=PA.imp (UT ha hr hs) λσ0 H Q0 h=>by
 obtain⟨σ,M,Q,hs,hv,ht,hk⟩:=h;refine⟨σ,M,_,hs,hv,ht,λrx M1 x H1 q e1 v1 r1=>?_⟩
 refine⟨σ,M1,_,hs.ext e1,v1,q,λrs M2 vs H2 q2 e2 v2 r2=>?_⟩
 exact hk (rx::rs) M2 (x::vs) H2 q2 (e1.trans e2) v2 (aa.cons (Rep.ext e2 rx x r1) r2)
def DE(t:bA):ak:=λσ M Q=>t σ M λrs M1=>rs.length<=sizeLine/\Q (.tup rs) M1
theorem xN{K:ae}{H:Hp}{p:Addr}{rs:LR}{vs:LV}(h:H p=none)(r:aa K H rs vs):Rep K (upd H p (.tup vs)) (.tup rs) (.ref p):=by
 simp only[Rep];exact⟨p,vs,rfl,c0,aa.ext (Ext.new h) rs vs r⟩
theorem lS{K:ae}{H:Hp}{p:Addr}{o:Obj}{rs:LR}{vs:LV}(h:H p=none)(r:aa K H rs vs):Rep K (upd H p (.aV o (.lst vs))) (.ls rs) (.ref p):=by
 simp only[Rep];exact⟨p,vs,rfl,.inl ⟨o,c0⟩,aa.ext (Ext.new h) rs vs r⟩
theorem OE{x1}(h:d9 X es t):ah X (.Tuple es x1 pos) (DE t):=PE.imp (Wo h) λσ0 H Q0 h=>by
 obtain⟨σ,M,Q,hs,hv,ht,hk⟩:=h;refine⟨σ,M,_,hs,hv,ht,λrs M1 vs H1 q e1 v1 r1=>⟨by rw[<-r1.length];exact q.1,λp hp=>?_⟩⟩
 exact hk _ M1 _ _ q.2 (e1.trans (Ext.new hp)) (v1.new hp) (xN hp r1)
def CU(t:bA):ak:=λσ M Q=>t σ M λrs M1=>rs.length<=sizeLine/\∀p,M1 p=none->Q (.ref p) (put M1 p (.lst rs))
theorem Pn(h:d9 X es t):ah X (.List es pos) (CU t):=PE.imp (IL h) λσ0 H Q0 h=>by
 obtain⟨σ,M,Q,hs,hv,ht,hk⟩:=h;refine⟨σ,M,_,hs,hv,ht,λrs M1 vs H1 q e1 v1 r1=>⟨by rw[<-r1.length];exact q.1,λp hp=>?_⟩⟩
 exact hk _ _ _ _ (q.2 p (v1.free hp)) (e1.trans (Ext.new hp)) (v1.cM hp ⟨vs,rfl,aa.ext (Ext.new hp) rs vs r1⟩) (by simp only[Rep])
end
section
variable {X:Cx}{pins:aG}{σ:L2.St}{H:Hp}{s:Shared}
theorem freeze{p:Addr}{xs:LV}(I:Inv X pins σ H s)(h:H p=some (.lst xs)):∃o,Inv X pins σ (upd H p (.aV o (.lst xs))) s:=by
 have hz:xs.length<=sizeLine/\∃(ab:aq) (n:Nat),Vals xs ab/\s.heap.get? p=some { cls:=.type "list",data:=.seq ab.toArray n }:=I.au p _ h;obtain⟨z,ab,n,r,e⟩:=id hz;have np:∀b,H b=none->b≠p:=λb q w=>by subst w;rw[h]at q;cases q
 refine⟨{ cls:=.type "list",data:=.seq ab.toArray n },⟨I.ok,I.os,I.bare,⟨I.base.keep,I.base.slot,λb o q w x=>?_,I.base.there,λb xs' q=>?_,λb o u q=>?_,λb ps q=>?_⟩,I.loc,I.cell,?_,λx c q=>?_,λq hq=>?_,λb u q=>?_,I.len⟩⟩
 . have:=I.base.free b o q w x
   rw[aD (np b this)];exact this
 . have e1:=I.base.bb b xs' q
   rw[aD (jb e1 h (by intro z;cases z))];exact e1
 . have e1:=I.base.aI b o u q
   rw[aD (jb e1 h (by intro z;cases z))];exact e1
 . obtain⟨more,e1⟩:=I.base.d7 b ps q
   exact⟨more,by rw[aD (jb e1 h (by intro z;cases z))];exact e1⟩
 . rw[aD (np _ I.free)];exact I.free
 . have:=I.bL x c q
   rw[aD (np _ this)];exact this
 . obtain⟨a1,a2,a3⟩:=I.pin q hq
   exact⟨a1,by rw[aD (np _ a2)];exact a2,a3⟩
 . by_cases hb:b=p
   . subst hb
     rw[c0]at q;cases q;exact⟨e,z,ab,n,r,e⟩
   . rw[aD hb]at q
     refine(I.au b u q).eG (λ_ _ _ q=>q) (λc q=>?_) λc ys q=>?_
     . rw[aD (jb q h (by intro z;cases z))];exact q
     . rw[aD (jb q h (by intro z;cases z))];exact q
theorem frozen{Q:VK}{u:Value}(h:EP X pins σ (λv H'=>∃H1 p xs,v= .ref p/\H1 p=none/\H'=upd H1 p (.lst xs)/\∀o,Q (.ref p) (upd H1 p (.aV o (.lst xs)))) u s):EP X pins σ Q u s:=by
 obtain⟨v,H',I,r,H1,p,xs,rfl,hn,rfl,q⟩:=h;obtain⟨o,I'⟩:=freeze I (p:=p) (xs:=xs) c0;rw[Uw]at I';exact⟨.ref p,_,I',r,q o⟩
end
section
variable {X:Cx}{es:aX}{t:bA}{pos:Pos}
def CV(t:bA):ak:=λσ M Q=>t σ M λrs M1=>rs.length<=sizeLine/\Q (.ls rs) M1
theorem Po(h:d9 X es t):ah X (.List es pos) (CV t):=λpins s σ0 H Q0 I hw=>by
 obtain⟨σ,M,Q,hs,hv,ht,hk⟩:=hw;refine ay (IL h pins s σ0 H (λv H'=>∃H1 p xs,v= .ref p/\H1 p=none/\H'=upd H1 p (.lst xs)/\∀o,Q0 (.ref p) (upd H1 p (.aV o (.lst xs)))) I ?_) λ_ _ e=>frozen e
 refine⟨σ,M,_,hs,hv,ht,λrs M1 vs H1 q e1 v1 r1=>⟨by rw[<-r1.length];exact q.1,λp hp=>⟨H1,p,vs,rfl,hp,rfl,λo=>?_⟩⟩⟩
 exact hk _ M1 _ _ q.2 (e1.trans (Ext.new hp)) (v1.new hp) (lS hp r1)
end
section
variable {X:Cx}{st:Stmt}{rest:List Stmt}{t u:cD}{e:Expr}{te:ak}{pos:Pos}
def JI:cD:=λD σ M=>D.nx σ M
def DH(t u:cD):cD:=λD σ M=>t { D with nx:=u D } σ M
theorem OP:jg X [] JI:=fx.imp Vm λD0 σ0 H h=>by
 obtain⟨σ,M,D,hs,hv,ht,hd⟩:=h;exact hd.nx σ M σ0 H ht (.refl H) hv hs
theorem XE(h1:ee X st t)(h2:jg X rest u):jg X (st::rest) (DH t u):=fx.imp (Tp h1 h2) λD0 σ0 H h=>by
 obtain⟨σ,M,D,hs,hv,ht,hd⟩:=h;refine⟨σ,M,_,hs,hv,ht,⟨λσ' M' σ0' H' q e w r=>?_,hd.rt,hd.bk,hd.ct⟩⟩
 exact⟨σ',M',D,r,w,q,hd.ext e⟩
def JM(te:ak):cD:=λD σ M=>te σ M λ_ M1=>D.nx σ M1
theorem Yl(he:ah X e te)(hs:swapsWith e none pos.line X.env=pure false:=by rfl):ee X (.Expr e pos) (JM te):=PS.imp (UH he hs) λD0 σ0 H h=>by
 obtain⟨σ,M,D,hs,hv,ht,hd⟩:=h;exact⟨σ,M,_,hs,hv,ht,λrx M1 x H1 q e1 v1 r1=>hd.nx σ M1 σ0 H1 q e1 v1 (hs.ext e1)⟩
def DI(te:ak):cD:=λD σ M=>te σ M D.rt
theorem ON(he:ah X e te):ee X (.Return (some e) pos) (DI te):=PS.imp (Wg he) λD0 σ0 H h=>by
 obtain⟨σ,M,D,hs,hv,ht,hd⟩:=h;exact⟨σ,M,_,hs,hv,ht,hd.rt⟩
def JE:cD:=λD _ M=>D.rt .ao M
theorem Yh:ee X (.Return none pos) JE:=PS.imp Vn λD0 σ0 H h=>by
 obtain⟨σ,M,D,hs,hv,ht,hd⟩:=h;exact hd.rt .ao M .ao H ht (.refl H) hv (by simp only[Rep])
def yq(c:cU)(t u:cD):cD:=λD σ M=>c σ M λb M1=>(b=true->t D σ M1)/\(b=false->u D σ M1)
theorem ZX{c:Expr}{a b:List Stmt}{tc:cU}(hc:de X c tc)(ha:jg X a t)(hb:jg X b u):ee X (.If c a b pos) (yq tc t u):=PS.imp (YD hc ha hb) λD0 σ0 H h=>by
 obtain⟨σ,M,D,hs,hv,ht,hd⟩:=h;refine⟨σ,M,_,hs,hv,ht,λk M1 H1 q e1 v1=>?_⟩
 cases k with
 |true=>exact p7 ⟨σ,M1,D,hs.ext e1,v1,q.1 rfl,hd.ext e1⟩
 |false=>exact p8 ⟨σ,M1,D,hs.ext e1,v1,q.2 rfl,hd.ext e1⟩
def ve(i:Nat)(te:ak):cD:=λD σ M=>te σ M λx M1=>D.nx (σ.set i (some x)) M1
theorem sset(i:Nat){x:Str}{pos':Pos}(he:ah X e te)(hN:X.N.Nodup)(hi:X.N[i]? =some x:=by rfl)(hx:Loc X.env.scope x)(hs:swapsWith e (some (.Name x pos')) pos.line X.env=pure false:=by rfl)
 (hf:X.fn x=true∨X.env.scope.names.lookup x=some .local):ee X (.Assign [.Name x pos'] e pos) (ve i te):=PS.imp (Wf hN hi hx he hs hf) λD0 σ0 H h=>by
 obtain⟨σ,M,D,hs,hv,ht,hd⟩:=h;exact⟨σ,M,_,hs,hv,ht,λrx M1 x H1 q e1 v1 r1=>hd.nx _ M1 _ H1 q e1 v1 ((hs.ext e1).set r1 i)⟩
abbrev iW:=RV->aY->RM->(aY->RM->Prop)->Prop
def Z8(K:ae)(g:iW):TG:=λv σ0 H Q0=>∃rv σ M Q,Rep K H rv v/\aK K H σ σ0/\View K H M/\g rv σ M Q/\nW K H Q Q0
def nU(X:Cx)(target:Expr)(g:iW):Prop:=PG X target (Z8 X.K g)
theorem PG.imp{tg:Expr}{t t':TG}(h:PG X tg t)(i:∀v σ H Q,t' v σ H Q->t v σ H Q):PG X tg t':=λpins s σ H v u Q I r w=>h pins s σ H v u Q I r (i v σ H Q w)
def jh(i:Nat):iW:=λx σ M Q=>Q (σ.set i (some x)) M
theorem ZE(i:Nat){x:Str}{pos:Pos}(hN:X.N.Nodup)(hi:X.N[i]? =some x:=by rfl)(hx:Loc X.env.scope x)
 (hf:X.fn x=true∨X.env.scope.names.lookup x=some .local):nU X (.Name x pos) (jh i):=PG.imp (xG hN hi hx hf) λv σ0 H Q0 h=>by
 obtain⟨rv,σ,M,Q,hr,hs,hv,hg,hk⟩:=h;exact hk _ M _ H hg (.refl H) hv (hs.set hr i)
noncomputable def uy:aY->List Nat->LR->aY
 |σ,i::is,x::xs=>uy (σ.set i (some x)) is xs
 |σ,_,_=>σ
def mn:List Nat->mG
 | []=>Dj
 |i::is=>JT (Bu i) (mn is)
theorem Hy{K:ae}{H:Hp}{Q0:L2.St->Hp->Prop}:∀{is:List Nat} {rs:LR} {vs:LV} {σ:aY} {σ0:L2.St},rs.length=is.length->aa K H rs vs->aK K H σ σ0->
 (∀σ0',aK K H (uy σ is rs) σ0'->Q0 σ0' H)->mn is vs σ0 H Q0
 | [],[],vs,σ,σ0,_,r,hs,k=>by
  simp only[aa]at r;exact⟨r,k σ0 hs⟩
 |i::is,x::rs,vs,σ,σ0,hl,r,hs,k=>by
  simp only[aa]at r;obtain⟨v,vs',rfl,h1,h2⟩:=r;refine⟨v,vs',rfl,?_⟩;show mn is vs' (σ0.set i (some v)) H Q0;exact Hy (σ:=σ.set i (some x)) (by simpa using hl) h2 (hs.set h1 i) k
def iQ(is:List Nat):iW:=λx σ M Q=>match x with| .tup xs=>xs.length=is.length/\Q (uy σ is xs) M|_=>False
theorem Pa{es:aX}{k:Nat}{is:List Nat}{n:Nat}{pos:Pos}(hc:X.calm=true)(h:nT X es (mn is))(hl:n=is.length:=by rfl)
 (hn:(assignEach es X.env).length=n:=by rfl) (hst:(assignEach es X.env).findIdx? (·.1)=none:=by rfl):nU X (.Tuple es k pos) (iQ is):=PG.imp (IK hc h hn hst) λv σ0 H Q0 h=>by
 obtain⟨rv,σ,M,Q,hr,hs,hv,hg,hk⟩:=h;cases rv with
 |tup xs=>
  simp only[Rep]at hr;obtain⟨a,vs,rfl,h1,h2⟩:=hr;exact⟨a,vs,rfl,bP.of h1,by rw[<-h2.length,hl];exact hg.1,Hy hg.1 h2 hs λσ0' q=>hk _ M σ0' H hg.2 (.refl H) hv q⟩
 |_=>exact hg.elim
def By(te:ak)(g:iW):cD:=λD σ M=>te σ M λx M1=>g x σ M1 D.nx
theorem Dz{tg e:Expr}{te:ak}{g:iW}{pos:Pos}(he:ah X e te)(hg:nU X tg g)(hs:swapsWithSole [tg] e pos.line X.env=pure false:=by rfl)(hw:swappedStores [tg] e X.env=pure none:=by rfl)
 (h1:(assignEach [tg] X.env).map (·.2)= [assign tg X.env]:=by rfl):ee X (.Assign [tg] e pos) (By te g):=PS.imp (Wk he hg hs hw h1) λD0 σ0 H h=>by
 obtain⟨σ,M,D,hs,hv,ht,hd⟩:=h;exact⟨σ,M,_,hs,hv,ht,λrx M1 x H1 q e1 v1 r1=>⟨rx,σ,M1,D.nx,r1,hs.ext e1,v1,q,hd.nx.ext e1⟩⟩
abbrev yh:=RV->RV->RV->RM->(RM->Prop)->Prop
noncomputable def JA (K:ae)(g:yh):yO:=λo i v H Q0=>∃ro ri rx M Q,Rep K H ro o/\Rep K H ri i/\Rep K H rx v/\View K H M/\g ro ri rx M Q/\∀M' H',Q M'->Ext H H'->View K H' M'->Q0 H'
def Jh(to ti:ak)(g:yh):iW:=λv σ M Q=>to σ M λo M1=>ti σ M1 λi M2=>g o i v M2 λM3=>Q σ M3
theorem Pb{o i:Expr}{to ti:ak}{g:yh}{pos:Pos}(ho:ah X o to)(hi:ah X i ti)(hs:yP X (JA X.K g))
 (ha:∀v,assign (.Subscript o i pos) X.env v=(do
  let ov<-holding [v] (eval o X.env)
  let iv<-holding [v,ov] (eval i X.env)
  standAt pos
  holding [v,ov,iv] (setItem ov iv v)
  release [v,ov,iv] []):=by intro _;rfl):nU X (.Subscript o i pos) (Jh to ti g):=PG.imp (Wm ho hi hs ha) λv σ0 H Q0 h=>by
 obtain⟨rv,σ,M,Q,hr,hs,hv,hg,hk⟩:=h;refine⟨σ,M,_,hs,hv,hg,λro M1 o H1 q e1 v1 r1=>?_⟩
 refine⟨σ,M1,_,hs.ext e1,v1,q,λri M2 i H2 q2 e2 v2 r2=>?_⟩
 refine⟨ro,ri,rv,M2,_,Rep.ext e2 ro o r1,r2,Rep.ext (e1.trans e2) rv v hr,v2,q2,λM3 H3 q3 e3 v3=>?_⟩
 have e:=(e1.trans e2).trans e3;exact hk σ M3 σ0 H3 q3 e v3 (hs.ext e)
noncomputable def gG (g:iW)(tb:cD)(D:RD)(ok:RM->Prop)(un:RM->RM):LR->aY->RM->Prop
 | [],σ,M=>ok M/\D.nx σ (un M)
 |x::r,σ,M=>ok M/\g x σ M λσ2 M2=>tb { D with nx:=gG g tb D ok un r,ct:=gG g tb D ok un r,bk:=λσ M=>ok M/\D.nx σ (un M),rt:=λv M=>ok M/\D.rt v (un M) } σ2 M2
end
open PySem.SeqAt (EqAt RcAt RcNeAt)
mutual
def bq:RV->RV->Bool
 | .ao,.ao=>true
 | .bl a,.bl b=>a==b
 | .bl a,.int b=>(if a then 1 else 0)==b
 | .int a,.bl b=>a==(if b then 1 else 0)
 | .int a,.int b=>a==b
 | .str a,.str b=>a==b
 | .tup xs,.tup ys=>fE xs ys
 | .ls xs,.ls ys=>fE xs ys
 |_,_=>false
def fE:LR->LR->Bool
 | [],[]=>true
 |x::xs,y::ys=>bq x y&&fE xs ys
 |_,_=>false
end
noncomputable def aA:Nat->RV->Bool
 |_,.ao=>true
 |_,.bl _=>true
 |_,.int _=>true
 |_,.str _=>true
 |n+1,.tup xs=>xs.all (aA n)
 |n+1,.ls xs=>xs.all (aA n)
 |_,_=>false
mutual
def Den(h:Heap):RV->Value->Prop
 | .ao,u=>u= .none
 | .bl b,u=>u= .bool b
 | .int i,u=>∃t,u= .int i t
 | .str x,u=>∃t,u= .str x t
 | .tup xs,u=>∃a ab,u= .ref a/\h.IsTuple a ab.toArray/\aw h xs ab
 | .ls xs,u=>∃a ab,u= .ref a/\h.IsList a ab.toArray/\aw h xs ab
 | .ref _,_=>False
 | .ty _,_=>False
def aw(h:Heap):LR->aq->Prop
 | [],us=>us= []
 |x::xs,us=>∃u r,us=u::r/\Den h x u/\aw h xs r
end
theorem aw.length{h:Heap}:∀{xs:LR} {us:aq},aw h xs us->xs.length=us.length
 | [],us,d=>by simp only[aw]at d;subst d;rfl
 |x::xs,us,d=>by
  simp only[aw]at d;obtain⟨u,r,rfl,_,t⟩:=d;simp[aw.length t]
theorem aw.get{h:Heap}:∀{xs:LR} {us:aq} {j:Nat} {u:Value},aw h xs us->us[j]? =some u->Den h (xs.getD j .ao) u/\xs.getD j .ao∈xs
 | [],us,_,_,d,e=>by simp only[aw]at d;subst d;simp at e
 |x::xs,us,0,u,d,e=>by
  simp only[aw]at d;obtain⟨v,r,rfl,h1,_⟩:=d;simp at e;subst e;exact⟨by simpa using h1,by simp⟩
 |x::xs,us,j+1,u,d,e=>by
  simp only[aw]at d;obtain⟨v,r,rfl,_,t⟩:=d;obtain⟨a,b⟩:=aw.get (j:=j) t (by simpa using e)
  exact⟨by simpa using a,by simp only[List.getD_cons_succ];exact gk _ b⟩
section
variable {X:Cx}{pins:aG}{σ:L2.St}{H:Hp}{s:Shared}
theorem Vals.cons_inv{v:V}{vs:LV}{us:aq}(r:Vals (v::vs) us):∃u us',us=u::us'/\RelV v u/\Vals vs us':=by
 cases r with
 |cons a b=>exact⟨_,_,rfl,a,b⟩
theorem i8(I:Inv X pins σ H s):∀(n:Nat),(∀(r:RV) (v:V) (u:Value),aA n r=true->Rep X.K H r v->RelV v u->Den s.heap r u):=by
 intro n
 induction n with
 |zero=>
  intro r v u o h w;cases r with
  |ao=>simp only[Rep]at h;subst h;simp only[Den];exact w
  |bl b=>simp only[Rep]at h;subst h;simp only[Den];exact w
  |int i=>simp only[Rep]at h;subst h;simp only[Den];exact w
  |str x=>simp only[Rep]at h;subst h;simp only[Den];exact w
  |_=>simp[aA]at o
 |succ n ih=>
  have all:∀(rs:LR) (vs:LV) (us:aq),rs.all (aA n)=true->aa X.K H rs vs->Vals vs us->aw s.heap rs us:=by
   intro rs
   induction rs with
   |nil=>
    intro vs us _ h w;simp only[aa]at h;subst h;cases w;simp only[aw]
   |cons x xs ihx=>
    intro vs us o h w;simp only[aa]at h;obtain⟨v,r,rfl,h1,h2⟩:=h;obtain⟨u,us',rfl,w1,w2⟩:=Vals.cons_inv w;rw[eC,aU]at o;simp only[aw];exact⟨u,us',rfl,ih x v u o.1 h1 w1,ihx r us' o.2 h2 w2⟩
  intro r v u o h w;cases r with
  |ao=>simp only[Rep]at h;subst h;simp only[Den];exact w
  |bl b=>simp only[Rep]at h;subst h;simp only[Den];exact w
  |int i=>simp only[Rep]at h;subst h;simp only[Den];exact w
  |str x=>simp only[Rep]at h;subst h;simp only[Den];exact w
  |tup xs=>
   simp only[Rep]at h;obtain⟨a,vs,rfl,h1,h2⟩:=h;obtain⟨ab,rv,ht,_⟩:=I.tuple (bP.of h1);simp only[Den];exact⟨a,ab,w,ht,all xs vs ab o h2 rv⟩
  |ls xs=>
   simp only[Rep]at h;obtain⟨a,vs,rfl,h1,h2⟩:=h;obtain⟨ab,rv,ht,_⟩:=I.list h1.sq;simp only[Den];exact⟨a,ab,w,ht.isList,all xs vs ab o h2 rv⟩
  |_=>simp[aA]at o
end
theorem Hn{h:Heap}{a:Addr}{xs ys:aq}(p:h.IsTuple a xs.toArray)(q:h.IsTuple a ys.toArray):xs=ys:=by
 obtain⟨o,e,_,n,d⟩:=p;obtain⟨o',e',_,n',d'⟩:=q;rw[e]at e';cases e';rw[d]at d';injection d' with d1 _
 simpa using congrArg Array.toList d1
theorem GY{h:Heap}{a:Addr}{xs ys:aq}(p:h.IsList a xs.toArray)(q:h.IsList a ys.toArray):xs=ys:=by
 obtain⟨o,e,_,n,d⟩:=p;obtain⟨o',e',_,n',d'⟩:=q;rw[e]at e';cases e';rw[d]at d';injection d' with d1 _
 simpa using congrArg Array.toList d1
theorem GJ{h:Heap}{a:Addr}{xs ys:Array Value}(p:h.IsList a xs)(q:h.IsTuple a ys):False:=by
 obtain⟨o,e,c,_⟩:=p;obtain⟨o',e',c',_⟩:=q;rw[e]at e';cases e';rw[c]at c';exact bp c' (by decide+kernel)
noncomputable def oU:RV->Bool
 | .ao=>true
 | .bl _=>true
 | .int _=>true
 | .str _=>true
 |_=>false
noncomputable def Eo:Value->Option RV
 | .none=>some .ao
 | .bool b=>some (.bl b)
 | .int i _=>some (.int i)
 | .str x _=>some (.str x)
 |_=>none
theorem JW{h:Heap}{u:Value}:∀{x:RV},oU x=true->Den h x u->Eo u=some x
 | .ao,_,d=>by simp only[Den]at d;subst d;rfl
 | .bl _,_,d=>by simp only[Den]at d;subst d;rfl
 | .int _,_,d=>by simp only[Den]at d;obtain⟨t,rfl⟩:=d;rfl
 | .str _,_,d=>by simp only[Den]at d;obtain⟨t,rfl⟩:=d;rfl
theorem ZM{h:Heap}{u:Value}:∀{x:RV},oU x=false->Den h x u->Eo u=none
 | .tup _,_,d=>by simp only[Den]at d;obtain⟨a,ab,rfl,_⟩:=d;rfl
 | .ls _,_,d=>by simp only[Den]at d;obtain⟨a,ab,rfl,_⟩:=d;rfl
 | .ref _,_,d=>by simp only[Den]at d
 | .ty _,_,d=>by simp only[Den]at d
theorem AB{h:Heap}:∀(n:Nat) (x y:RV) (u:Value),aA n x=true->aA n y=true->Den h x u->Den h y u->x=y:=by
 intro n;have sc:∀(x y:RV) (u:Value),oU x=true->Den h x u->Den h y u->x=y:=by
  intro x y u sx dx dy;have ex:=JW sx dx;cases sy:oU y with
  |true=>
   have ey:=JW sy dy;rw[ex]at ey;exact dP ey
  |false=>
   have ey:=ZM sy dy;rw[ex]at ey;cases ey
 induction n with
 |zero=>
  intro x y u ox oy dx dy;have sx:oU x=true:=by cases x<;>first|rfl|(simp[aA]at ox)
  exact sc x y u sx dx dy
 |succ n ih=>
  have all:∀(xs ys:LR) (us:aq),xs.all (aA n)=true->ys.all (aA n)=true->aw h xs us->aw h ys us->xs=ys:=by
   intro xs
   induction xs with
   |nil=>
    intro ys us _ _ d e;simp only[aw]at d;subst d;cases ys with
    |nil=>rfl
    |cons y ys=>simp only[aw]at e;obtain⟨_,_,z,_⟩:=e;cases z
   |cons x xs ihx=>
    intro ys us ox oy d e;simp only[aw]at d;obtain⟨u,r,rfl,d1,d2⟩:=d;cases ys with
    |nil=>simp only[aw]at e;cases e
    |cons y ys=>
     simp only[aw]at e;obtain⟨u',r',z,e1,e2⟩:=e;cases z;rw[eC,aU]at ox oy;rw[ih x y u ox.1 oy.1 d1 e1,ihx ys r ox.2 oy.2 d2 e2]
  intro x y u ox oy dx dy;cases sx:oU x with
  |true=>exact sc x y u sx dx dy
  |false=>
   cases sy:oU y with
   |true=>exact(sc y x u sy dy dx).symm
   |false=>
    cases x with
    |tup xs=>
     simp only[Den]at dx;obtain⟨a,ab,rfl,p,d⟩:=dx;cases y with
     |tup ys=>
      simp only[Den]at dy;obtain⟨a',its',z,p',d'⟩:=dy;cases z;obtain rfl:=Hn p p';rw[all xs ys ab ox oy d d']
     |ls ys=>
      simp only[Den]at dy;obtain⟨a',its',z,p',d'⟩:=dy;cases z;exact(GJ p' p).elim
     |ref _=>simp only[Den]at dy
     |ty _=>simp only[Den]at dy
     |_=>cases sy
    |ls xs=>
     simp only[Den]at dx;obtain⟨a,ab,rfl,p,d⟩:=dx;cases y with
     |ls ys=>
      simp only[Den]at dy;obtain⟨a',its',z,p',d'⟩:=dy;cases z;obtain rfl:=GY p p';rw[all xs ys ab ox oy d d']
     |tup ys=>
      simp only[Den]at dy;obtain⟨a',its',z,p',d'⟩:=dy;cases z;exact(GJ p p').elim
     |ref _=>simp only[Den]at dy
     |ty _=>simp only[Den]at dy
     |_=>cases sy
    |ref _=>simp only[Den]at dx
    |ty _=>simp only[Den]at dx
    |_=>cases sx
mutual
theorem mR:∀(x:RV),(∃n,aA n x=true)->bq x x=true
 | .ao,_=>by simp[bq]
 | .bl _,_=>by simp[bq]
 | .int _,_=>by simp[bq]
 | .str _,_=>by simp[bq]
 | .tup xs,⟨n,o⟩=>by
  rw[bq];refine Ad xs ?_;cases n with
  |zero=>simp[aA]at o
  |succ n=>exact⟨n,o⟩
 | .ls xs,⟨n,o⟩=>by
  rw[bq];refine Ad xs ?_;cases n with
  |zero=>simp[aA]at o
  |succ n=>exact⟨n,o⟩
 | .ref _,⟨n,o⟩=>by cases n<;>simp[aA]at o
 | .ty _,⟨n,o⟩=>by cases n<;>simp[aA]at o
theorem Ad:∀(xs:LR),(∃n,xs.all (aA n)=true)->fE xs xs=true
 | [],_=>by simp[fE]
 |x::xs,⟨n,o⟩=>by
  rw[eC,aU]at o;rw[fE,mR x ⟨n,o.1⟩,Ad xs ⟨n,o.2⟩];rfl
end
noncomputable abbrev pP (xs ys:LR) (j:Nat):Bool:=bq (xs.getD j .ao) (ys.getD j .ao)
theorem qV:∀xs ys:LR,((List.range (min xs.length ys.length)).all (pP xs ys)&&xs.length==ys.length)=fE xs ys
 | [],[]=>by simp[fE]
 | [],_::_=>by simp[fE]
 |_::_,[]=>by simp[fE]
 |x::xs,y::ys=>by
  have ih:=qV xs ys;have e1:min (x::xs).length (y::ys).length=min xs.length ys.length+1:=by simp only[List.length_cons];omega
  have e2:((x::xs).length==(y::ys).length)=(xs.length==ys.length):=by simp
  have e3:(List.range (min xs.length ys.length+1)).all (pP (x::xs) (y::ys))=(bq x y&&(List.range (min xs.length ys.length)).all (pP xs ys)):=by
   rw[List.range_succ_eq_map,eC,List.all_map];rfl
  rw[e1,e2,e3,fE,<-ih,Bool.and_assoc]
theorem Ac{xs ys:LR}(h:xs.length=ys.length):(List.range xs.length).all (pP xs ys)=fE xs ys:=by
 have:=qV xs ys;rw[<-h,Nat.min_self]at this;simpa using this
theorem Ab{xs ys:LR}(h:xs.length≠ys.length):fE xs ys=false:=by
 have:=qV xs ys;rw[<-this];simp[h]
theorem in1_units(A:Around):A.in1.units=A.units+1:=rfl
theorem Aq:∀(n:Nat) (x y:RV) (A:Around) (s:Shared) (u w:Value),aA n x=true->aA n y=true->Den s.heap x u->Den s.heap y w->A.units+n<cLine->EqAt A s u w (bq x y):=by
 intro n
 induction n with
 |zero=>
  intro x y A s u w ox oy dx dy hu;cases x<;>cases y<;>first|(simp only[Den]at dx;done)|(simp only[Den]at dy;done)|(simp[aA]at ox;done)|(simp[aA]at oy;done)|(simp only[Den]at dx dy;(first|subst dx|obtain⟨t1,rfl⟩:=dx|obtain⟨a1,its1,rfl,p1,d1⟩:=dx);(first|subst dy|obtain⟨t2,rfl⟩:=dy|obtain⟨a2,its2,rfl,p2,d2⟩:=dy);first|(simp only[bq,Bool.not_false,Bool.not_true];with_reducible first|exact EqAt.same _|exact EqAt.none_bool _|exact EqAt.none_int _ _|exact EqAt.none_str _ _|exact EqAt.bool_none _|exact EqAt.bool_bool _ _|exact EqAt.bool_int _ _ _|exact EqAt.bool_str _ _ _|exact EqAt.int_none _ _|exact EqAt.int_bool _ _ _|exact EqAt.int_int _ _ _ _|exact EqAt.int_str _ _ _ _|exact EqAt.str_none _ _|exact EqAt.str_bool _ _ _|exact EqAt.str_int _ _ _ _|exact EqAt.str_str _ _ _ _))
 |succ n ih=>
  intro x y A s u w ox oy dx dy hu;have hu0:A.units<cLine:=by omega
  have item:∀(xs ys:LR) (us ws:aq),xs.all (aA n)=true->ys.all (aA n)=true->aw s.heap xs us->aw s.heap ys ws->
   ∀j (j1:j<us.toArray.size) (j2:j<ws.toArray.size),EqAt A.in1 s us.toArray[j] ws.toArray[j] (pP xs ys j):=λxs ys us ws o1 o2 d1 d2 j j1 j2=>by
   obtain⟨a1,b1⟩:=d1.get (j:=j) (u:=us.toArray[j]) (by simp)
   obtain⟨a2,b2⟩:=d2.get (j:=j) (u:=ws.toArray[j]) (by simp)
   exact ih _ _ A.in1 s _ _ (fG.mp o1 _ b1) (fG.mp o2 _ b2) a1 a2 (by rw[in1_units];omega)
  have same_EqAt_tup:∀(xs ys:LR) (a a':Addr) (ab its':aq),s.heap.IsTuple a ab.toArray->s.heap.IsTuple a' its'.toArray->aw s.heap xs ab->aw s.heap ys its'->aA (n+1) (.tup xs)=true->aA (n+1) (.tup ys)=true->EqAt A s (.ref a) (.ref a') (bq (RV.tup xs) (RV.tup ys)):=by
   intro xs ys a a' ab its' p p' d d' ox oy
   by_cases ha:a=a'
   . subst ha
     obtain rfl:=Hn p p';have e:RV.tup xs=RV.tup ys:=AB (n+1) _ _ (.ref a) ox oy (by simp only[Den];exact⟨a,ab,rfl,p,d⟩) (by simp only[Den];exact⟨a,ab,rfl,p,d'⟩)
     rw[<-e,mR _ ⟨_,ox⟩];exact EqAt.same _
   refine EqAt.of_refs ha ?_;rw[bq,<-qV,d.length,d'.length];have:=RcAt.tuples p p' hu0 (item xs ys ab its' ox oy d d');simpa using this
  have same_EqAt_ls:∀(xs ys:LR) (a a':Addr) (ab its':aq),s.heap.IsList a ab.toArray->s.heap.IsList a' its'.toArray->aw s.heap xs ab->aw s.heap ys its'->aA (n+1) (.ls xs)=true->aA (n+1) (.ls ys)=true->EqAt A s (.ref a) (.ref a') (bq (RV.ls xs) (RV.ls ys)):=by
   intro xs ys a a' ab its' p p' d d' ox oy
   by_cases ha:a=a'
   . subst ha
     obtain rfl:=GY p p';have e:RV.ls xs=RV.ls ys:=AB (n+1) _ _ (.ref a) ox oy (by simp only[Den];exact⟨a,ab,rfl,p,d⟩) (by simp only[Den];exact⟨a,ab,rfl,p,d'⟩)
     rw[<-e,mR _ ⟨_,ox⟩];exact EqAt.same _
   refine EqAt.of_refs ha ?_;rw[bq]
   by_cases hz:xs.length=ys.length
   . rw[<-Ac hz,d.length]
     have:=RcAt.lists p p' (by simp[<-d.length,<-d'.length,hz]) hu0 (item xs ys ab its' ox oy d d')
     simpa using this
   . rw[Ab hz]
     exact RcAt.lists_lengths p p' (by simp[<-d.length,<-d'.length,hz]) hu0
  cases x<;>cases y<;>first|(simp only[Den]at dx;done)|(simp only[Den]at dy;done)|(simp only[Den]at dx dy;(first|subst dx|obtain⟨t1,rfl⟩:=dx|obtain⟨a1,its1,rfl,p1,d1⟩:=dx);(first|subst dy|obtain⟨t2,rfl⟩:=dy|obtain⟨a2,its2,rfl,p2,d2⟩:=dy);first|with_reducible exact same_EqAt_tup _ _ _ _ _ _ p1 p2 d1 d2 ox oy|with_reducible exact same_EqAt_ls _ _ _ _ _ _ p1 p2 d1 d2 ox oy|(simp only[bq,Bool.not_false,Bool.not_true];with_reducible first|exact EqAt.same _|exact EqAt.none_bool _|exact EqAt.none_int _ _|exact EqAt.none_str _ _|exact EqAt.bool_none _|exact EqAt.bool_bool _ _|exact EqAt.bool_int _ _ _|exact EqAt.bool_str _ _ _|exact EqAt.int_none _ _|exact EqAt.int_bool _ _ _|exact EqAt.int_int _ _ _ _|exact EqAt.int_str _ _ _ _|exact EqAt.str_none _ _|exact EqAt.str_bool _ _ _|exact EqAt.str_int _ _ _ _|exact EqAt.str_str _ _ _ _|exact EqAt.tuple_none p1 hu0|exact EqAt.tuple_bool _ p1 hu0|exact EqAt.tuple_int _ _ p1 hu0|exact EqAt.tuple_str _ _ p1 hu0|exact EqAt.list_none p1 hu0|exact EqAt.list_bool _ p1 hu0|exact EqAt.list_int _ _ p1 hu0|exact EqAt.list_str _ _ p1 hu0|exact EqAt.none_tuple p2 hu0|exact EqAt.bool_tuple _ p2 hu0|exact EqAt.int_tuple _ _ p2 hu0|exact EqAt.str_tuple _ _ p2 hu0|exact EqAt.none_list p2 hu0|exact EqAt.bool_list _ p2 hu0|exact EqAt.int_list _ _ p2 hu0|exact EqAt.str_list _ _ p2 hu0|exact EqAt.tuple_list p1 p2 hu0|exact EqAt.list_tuple p1 p2 hu0))
theorem RF(n:Nat)(x y:RV)(A:Around)(s:Shared)(u w:Value)(ox:aA (n+1) x=true)(oy:aA (n+1) y=true)(dx:Den s.heap x u)(dy:Den s.heap y w)(hu:A.units+(n+1)<cLine):RcNeAt A s u w (!bq x y):=by
 have hu0:A.units<cLine:=by omega
 have item:∀(xs ys:LR) (us ws:aq),xs.all (aA n)=true->ys.all (aA n)=true->aw s.heap xs us->aw s.heap ys ws->
  ∀j (j1:j<us.toArray.size) (j2:j<ws.toArray.size),EqAt A.in1 s us.toArray[j] ws.toArray[j] (pP xs ys j):=λxs ys us ws o1 o2 d1 d2 j j1 j2=>by
  obtain⟨a1,b1⟩:=d1.get (j:=j) (u:=us.toArray[j]) (by simp)
  obtain⟨a2,b2⟩:=d2.get (j:=j) (u:=ws.toArray[j]) (by simp)
  exact Aq n _ _ A.in1 s _ _ (fG.mp o1 _ b1) (fG.mp o2 _ b2) a1 a2 (by rw[in1_units];omega)
 have same_RcNeAt_tup:∀(xs ys:LR) (a a':Addr) (ab its':aq),s.heap.IsTuple a ab.toArray->s.heap.IsTuple a' its'.toArray->aw s.heap xs ab->aw s.heap ys its'->aA (n+1) (.tup xs)=true->aA (n+1) (.tup ys)=true->RcNeAt A s (.ref a) (.ref a') (!bq (RV.tup xs) (RV.tup ys)):=by
  intro xs ys a a' ab its' p p' d d' ox oy;rw[bq,<-qV,d.length,d'.length];have:=RcNeAt.tuples p p' hu0 (item xs ys ab its' ox oy d d');simpa using this
 have same_RcNeAt_ls:∀(xs ys:LR) (a a':Addr) (ab its':aq),s.heap.IsList a ab.toArray->s.heap.IsList a' its'.toArray->aw s.heap xs ab->aw s.heap ys its'->aA (n+1) (.ls xs)=true->aA (n+1) (.ls ys)=true->RcNeAt A s (.ref a) (.ref a') (!bq (RV.ls xs) (RV.ls ys)):=by
  intro xs ys a a' ab its' p p' d d' ox oy;rw[bq]
  by_cases hz:xs.length=ys.length
  . rw[<-Ac hz,d.length]
    have:=RcNeAt.lists p p' (by simp[<-d.length,<-d'.length,hz]) hu0 (item xs ys ab its' ox oy d d')
    simpa using this
  . rw[Ab hz]
    exact RcNeAt.lists_lengths p p' (by simp[<-d.length,<-d'.length,hz]) hu0
 cases x<;>cases y<;>first|(simp only[Den]at dx;done)|(simp only[Den]at dy;done)|(simp only[Den]at dx dy;(first|subst dx|obtain⟨t1,rfl⟩:=dx|obtain⟨a1,its1,rfl,p1,d1⟩:=dx);(first|subst dy|obtain⟨t2,rfl⟩:=dy|obtain⟨a2,its2,rfl,p2,d2⟩:=dy);first|with_reducible exact same_RcNeAt_tup _ _ _ _ _ _ p1 p2 d1 d2 ox oy|with_reducible exact same_RcNeAt_ls _ _ _ _ _ _ p1 p2 d1 d2 ox oy|(simp only[bq,Bool.not_false,Bool.not_true];with_reducible first|exact RcNeAt.none_none|exact RcNeAt.none_bool _|exact RcNeAt.none_int _ _|exact RcNeAt.none_str _ _|exact RcNeAt.bool_none _|exact RcNeAt.bool_bool _ _|exact RcNeAt.bool_int _ _ _|exact RcNeAt.bool_str _ _ _|exact RcNeAt.int_none _ _|exact RcNeAt.int_bool _ _ _|exact RcNeAt.int_int _ _ _ _|exact RcNeAt.int_str _ _ _ _|exact RcNeAt.str_none _ _|exact RcNeAt.str_bool _ _ _|exact RcNeAt.str_int _ _ _ _|exact RcNeAt.str_str _ _ _ _|exact RcNeAt.tuple_none p1 hu0|exact RcNeAt.tuple_bool _ p1 hu0|exact RcNeAt.tuple_int _ _ p1 hu0|exact RcNeAt.tuple_str _ _ p1 hu0|exact RcNeAt.list_none p1 hu0|exact RcNeAt.list_bool _ p1 hu0|exact RcNeAt.list_int _ _ p1 hu0|exact RcNeAt.list_str _ _ p1 hu0|exact RcNeAt.none_tuple p2 hu0|exact RcNeAt.bool_tuple _ p2 hu0|exact RcNeAt.int_tuple _ _ p2 hu0|exact RcNeAt.str_tuple _ _ p2 hu0|exact RcNeAt.none_list p2 hu0|exact RcNeAt.bool_list _ p2 hu0|exact RcNeAt.int_list _ _ p2 hu0|exact RcNeAt.str_list _ _ p2 hu0|exact RcNeAt.tuple_list p1 p2 hu0|exact RcNeAt.list_tuple p1 p2 hu0))
theorem Tc(n:Nat)(x y:RV)(A:Around)(s:Shared)(u w:Value)(ox:aA (n+1) x=true)(oy:aA (n+1) y=true)(dx:Den s.heap x u)(dy:Den s.heap y w)(hu:A.units+(n+1)<cLine):RcAt A s u w (bq x y):=by
 have hu0:A.units<cLine:=by omega
 have item:∀(xs ys:LR) (us ws:aq),xs.all (aA n)=true->ys.all (aA n)=true->aw s.heap xs us->aw s.heap ys ws->
  ∀j (j1:j<us.toArray.size) (j2:j<ws.toArray.size),EqAt A.in1 s us.toArray[j] ws.toArray[j] (pP xs ys j):=λxs ys us ws o1 o2 d1 d2 j j1 j2=>by
  obtain⟨a1,b1⟩:=d1.get (j:=j) (u:=us.toArray[j]) (by simp)
  obtain⟨a2,b2⟩:=d2.get (j:=j) (u:=ws.toArray[j]) (by simp)
  exact Aq n _ _ A.in1 s _ _ (fG.mp o1 _ b1) (fG.mp o2 _ b2) a1 a2 (by rw[in1_units];omega)
 have same_RcAt_tup:∀(xs ys:LR) (a a':Addr) (ab its':aq),s.heap.IsTuple a ab.toArray->s.heap.IsTuple a' its'.toArray->aw s.heap xs ab->aw s.heap ys its'->aA (n+1) (.tup xs)=true->aA (n+1) (.tup ys)=true->RcAt A s (.ref a) (.ref a') (bq (RV.tup xs) (RV.tup ys)):=by
  intro xs ys a a' ab its' p p' d d' ox oy;rw[bq,<-qV,d.length,d'.length];have:=RcAt.tuples p p' hu0 (item xs ys ab its' ox oy d d');simpa using this
 have same_RcAt_ls:∀(xs ys:LR) (a a':Addr) (ab its':aq),s.heap.IsList a ab.toArray->s.heap.IsList a' its'.toArray->aw s.heap xs ab->aw s.heap ys its'->aA (n+1) (.ls xs)=true->aA (n+1) (.ls ys)=true->RcAt A s (.ref a) (.ref a') (bq (RV.ls xs) (RV.ls ys)):=by
  intro xs ys a a' ab its' p p' d d' ox oy;rw[bq]
  by_cases hz:xs.length=ys.length
  . rw[<-Ac hz,d.length]
    have:=RcAt.lists p p' (by simp[<-d.length,<-d'.length,hz]) hu0 (item xs ys ab its' ox oy d d')
    simpa using this
  . rw[Ab hz]
    exact RcAt.lists_lengths p p' (by simp[<-d.length,<-d'.length,hz]) hu0
 cases x<;>cases y<;>first|(simp only[Den]at dx;done)|(simp only[Den]at dy;done)|(simp only[Den]at dx dy;(first|subst dx|obtain⟨t1,rfl⟩:=dx|obtain⟨a1,its1,rfl,p1,d1⟩:=dx);(first|subst dy|obtain⟨t2,rfl⟩:=dy|obtain⟨a2,its2,rfl,p2,d2⟩:=dy);first|with_reducible exact same_RcAt_tup _ _ _ _ _ _ p1 p2 d1 d2 ox oy|with_reducible exact same_RcAt_ls _ _ _ _ _ _ p1 p2 d1 d2 ox oy|(simp only[bq,Bool.not_false,Bool.not_true];with_reducible first|exact RcAt.none_none|exact RcAt.none_bool _|exact RcAt.none_int _ _|exact RcAt.none_str _ _|exact RcAt.bool_none _|exact RcAt.bool_bool _ _|exact RcAt.bool_int _ _ _|exact RcAt.bool_str _ _ _|exact RcAt.int_none _ _|exact RcAt.int_bool _ _ _|exact RcAt.int_int _ _ _ _|exact RcAt.int_str _ _ _ _|exact RcAt.str_none _ _|exact RcAt.str_bool _ _ _|exact RcAt.str_int _ _ _ _|exact RcAt.str_str _ _ _ _|exact RcAt.tuple_none p1 hu0|exact RcAt.tuple_bool _ p1 hu0|exact RcAt.tuple_int _ _ p1 hu0|exact RcAt.tuple_str _ _ p1 hu0|exact RcAt.list_none p1 hu0|exact RcAt.list_bool _ p1 hu0|exact RcAt.list_int _ _ p1 hu0|exact RcAt.list_str _ _ p1 hu0|exact RcAt.none_tuple p2 hu0|exact RcAt.bool_tuple _ p2 hu0|exact RcAt.int_tuple _ _ p2 hu0|exact RcAt.str_tuple _ _ p2 hu0|exact RcAt.none_list p2 hu0|exact RcAt.bool_list _ p2 hu0|exact RcAt.int_list _ _ p2 hu0|exact RcAt.str_list _ _ p2 hu0|exact RcAt.tuple_list p1 p2 hu0|exact RcAt.list_tuple p1 p2 hu0))
section
variable {X:Cx}
theorem nk{f:Value->Value->Sem Value}{r:R2}{rr:cb}(h:c9 X f r)(ri:∀(i j:Int) M Q (H:Hp) (Q0:VK),rr (.int i) (.int j) M Q->(∀z:RV,Q z M->∀v,Rep X.K H z v->Q0 v H)->r (.int i) (.int j) H Q0)
 (no:∀x y M Q,rr x y M Q->∃i j,x= .int i/\y= .int j):cJ X f rr:=by
 intro pins s σ H x y v u Q0 I rx ry h';obtain⟨a,b,M,Q,ra,rb,hv,hq,hk⟩:=h';obtain⟨i,j,rfl,rfl⟩:=no a b M Q hq;simp only[Rep]at ra rb;subst ra;subst rb;exact h pins s σ H _ _ v u Q0 I rx ry (ri i j M Q H Q0 hq λz q v' rz=>hk z M v' H q (.refl H) hv rz)
def uP(C:Int->Int->Prop)(g:Int->Int->RV):cb:=λx y M Q=>match x,y with| .int i,.int j=>C i j/\Q (g i j) M|_,_=>False
def pM(g:Int->Int->RV):cb:=λx y M Q=>match x,y with| .int i,.int j=>Q (g i j) M|_,_=>False
theorem Aj{C:Int->Int->Prop}{g:Int->Int->RV}(x y:RV)(M:RM)(Q:aj)(h:uP C g x y M Q):∃i j,x= .int i/\y= .int j:=by
 unfold uP at h;split at h
 . exact⟨_,_,rfl,rfl⟩
 . exact h.elim
theorem um{g:Int->Int->RV}(x y:RV)(M:RM)(Q:aj)(h:pM g x y M Q):∃i j,x= .int i/\y= .int j:=by
 unfold pM at h;split at h
 . exact⟨_,_,rfl,rfl⟩
 . exact h.elim
abbrev DG:cb:=pM λi j=>.int (i-j)
theorem PH:cJ X (binaryOp .Sub) DG:=nk WC (λi j M Q H Q0 h k=>⟨i,j,rfl,rfl,k _ h _ (by simp only[Rep])⟩) um
abbrev CT:cb:=uP (λ_ j=>0<j) λi j=>.int (i % j)
theorem PQ:cJ X (binaryOp .Mod) CT:=nk V5 (λi j M Q H Q0 h k=>⟨i,j,rfl,rfl,h.1,k _ h.2 _ (by simp only[Rep])⟩) Aj
abbrev C5:cb:=uP (λ_ j=>0<j/\j<1073741824) λi j=>.int (i / j)
theorem PX:cJ X (binaryOp .FloorDiv) C5:=nk UY (λi j M Q H Q0 h k=>⟨i,j,rfl,rfl,h.1,k _ h.2 _ (by simp only[Rep])⟩) Aj
abbrev DJ:cb:=uP (λi j=>0<=j/\j<=1000000/\i.natAbs<2 ^ 64) λi j=>.int (i ^ j.toNat)
theorem PK:cJ X (binaryOp .Pow) DJ:=nk WE (λi j M Q H Q0 h k=>⟨i,j,rfl,rfl,h.1,k _ h.2 _ (by simp only[Rep])⟩) Aj
abbrev ME:cb:=pM λi j=>.bl (decide (i<j))
theorem NS:cJ X (compareOp .Lt) ME:=nk YO (λi j M Q H Q0 h k=>⟨i,j,rfl,rfl,k _ h _ (by simp only[Rep])⟩) um
abbrev MD:cb:=pM λi j=>.bl (decide (i<=j))
theorem NR:cJ X (compareOp .LtE) MD:=nk YQ (λi j M Q H Q0 h k=>⟨i,j,rfl,rfl,k _ h _ (by simp only[Rep])⟩) um
abbrev MB:cb:=pM λi j=>.bl (decide (j<i))
theorem NL:cJ X (compareOp .Gt) MB:=nk YR (λi j M Q H Q0 h k=>⟨i,j,rfl,rfl,k _ h _ (by simp only[Rep])⟩) um
abbrev MA:cb:=pM λi j=>.bl (decide (j<=i))
theorem NK:cJ X (compareOp .GtE) MA:=nk YS (λi j M Q H Q0 h k=>⟨i,j,rfl,rfl,k _ h _ (by simp only[Rep])⟩) um
def Ji:RV->RM->aj->Prop:=λx M Q=>match x with| .int i=>Q (.int (-i)) M|_=>False
theorem PL:sD X (unaryOp .USub) (Cd X.K Ji):=by
 intro pins s σ H x v Q0 I rx h;obtain⟨a,M,Q,ra,hv,hq,hk⟩:=h;cases a with
 |int i=>simp only[Rep]at ra;exact V1 pins s σ H x v Q0 I rx ⟨i,ra,hk _ M _ H hq (.refl H) hv (by simp only[Rep])⟩
 |_=>exact(show False from hq).elim
noncomputable def lZ (x:Str)(n:Nat):Str:=⟨(List.replicate n x.cps).foldl (. ++ ·) #[]⟩
def Zd:cb:=λx y M Q=>match x,y with
 | .str z,.int k=>2<=k/\k<=1000/\z.length=1/\Q (.str (lZ z k.toNat)) M
 |_,_=>False
theorem size_rep{α:Type}(a:Array α):∀(n:Nat) (acc:Array α),((List.replicate n a).foldl (. ++ ·) acc).size=acc.size+n*a.size
 |0,acc=>by simp
 |n+1,acc=>by
  rw[nJ,List.foldl_cons,size_rep a n,Array.size_append,Nat.succ_mul];omega
theorem YT:cJ X (binaryOp .Mult) Zd:=by
 intro pins s σ H x y v u Q0 I rx ry h;obtain⟨a,b,M,Q,ra,rb,hv,hq,hk⟩:=h;cases a with
 |str z=>cases b with
  |int k=>
   simp only[Rep]at ra rb;subst ra;subst rb;obtain⟨t,rfl⟩:=rx;obtain⟨t',rfl⟩:=ry;obtain⟨h1,h2,h3,hq⟩:=hq;have hn:¬k<1:=by omega
   have hn1:(k==1||z.length==0)=false:=by
    rw[h3];have:(k==1)=false:=by simp;omega
    rw[this];rfl
   refine PySem.P.mul_str ?_ ?_ ?_ ?_
   . rw[fH ∅,fH ∅];rfl
   . intro _ _ hgt
     rw[h3]at hgt;have h5:(2 ^ 63-1) / k ≥ 1:=by
      have:(1:Int)*k<=2 ^ 63-1:=by omega
      exact Int.le_ediv_of_mul_le ∅ this
     have h6:((1:Nat):Int)=1:=rfl;omega
   . intro _ _
     rw[h3];unfold Builtin.Str.tooLong;exact fH (by have:(1000:Nat)<=sizeLine:=(by decide);omega)
   . rw[ag hn,hn1]
     simp only[jl,if_false];refine⟨?_,⟨.str (lZ z k.toNat),H,I.tok _,⟨_,rfl⟩,hk _ M _ H hq (.refl H) hv (by simp only[Rep])⟩⟩
     show Array.size (List.foldl _ _ _)<=sizeLine;rw[size_rep];have:z.cps.size=1:=h3;rw[this];have h7:(1000:Nat)<=sizeLine:=by decide
     simp only[Array.size_empty];omega
  |_=>exact(show False from hq).elim
 |_=>cases b<;>exact(show False from hq).elim
noncomputable def CS:cb:=λx y M Q=>match x,y with
 | .int i,.int j=>gM i j/\Q (.int (i*j)) M
 | .str z,.int k=>2<=k/\k<=1000/\z.length=1/\Q (.str (lZ z k.toNat)) M
 | .ref a,.int k=>∃xs,M a=some (.lst xs)/\-(2 ^ 63)<=k/\k<2 ^ 63/\xs.length*k.toNat<=sizeLine/\Q (.ls (List.replicate k.toNat xs).flatten) M
 |_,_=>False
theorem FX{K:ae}{H:Hp}{xs:LR}{vs:LV}(r:aa K H xs vs):∀n:Nat,aa K H (List.replicate n xs).flatten (List.replicate n vs).flatten
 |0=>by simpa using aa.nil
 |n+1=>by
  rw[nJ,r8,nJ,r8];exact r.append (FX r n)
theorem PN:cJ X (binaryOp .Mult) CS:=by
 intro pins s σ H x y v u Q0 I rx ry h;obtain⟨a,b,M,Q,ra,rb,hv,hq,hk⟩:=h;cases a with
 |int i=>
  cases b with
  |int j=>simp only[Rep]at ra rb;exact V4 pins s σ H x y v u Q0 I rx ry ⟨i,j,ra,rb,hq.1,hk _ M _ H hq.2 (.refl H) hv (by simp only[Rep])⟩
  |_=>exact(show False from hq).elim
 |str z=>
  cases b with
  |int k=>exact YT pins s σ H x y v u Q0 I rx ry ⟨.str z,.int k,M,Q,ra,rb,hv,hq,hk⟩
  |_=>exact(show False from hq).elim
 |ref p=>
  cases b with
  |int k=>
   simp only[Rep]at ra rb;obtain⟨xs,hm,h1,h2,h3,h4⟩:=hq;obtain⟨ho,e,r⟩:=hv p _ hm;obtain⟨vs,rfl,rr⟩:=r;refine ay (WD pins s σ H x y v u (λv H'=>∃H1 p xs,v= .ref p/\H1 p=none/\H'=upd H1 p (.lst xs)/\∀o,Q0 (.ref p) (upd H1 p (.aV o (.lst xs)))) I rx ry ⟨p,k,vs,ra,rb,e,h1,h2,by rw[<-rr.length];exact h3,λq hq=>⟨H,q,_,rfl,hq,rfl,λo=>?_⟩⟩) λ_ _ e=>frozen e
   exact hk _ M _ _ h4 (Ext.new hq) (hv.new hq) (lS hq (FX rr _))
  |_=>exact(show False from hq).elim
 |_=>cases b<;>exact(show False from hq).elim
noncomputable def yu:cb:=λx y M Q=>match x,y with
 | .int i,.int j=>Q (.int (i+j)) M
 | .str i,.str j=>i.length+j.length<=sizeLine/\Q (.str (i++j)) M
 | .tup xs,.tup ys=>xs.length+ys.length<=sizeLine/\Q (.tup (xs++ys)) M
 | .ls xs,.ls ys=>xs.length+ys.length<=sizeLine/\Q (.ls (xs++ys)) M
 |_,_=>False
theorem TX{prog:Program}{w:World}{A:Around}{E:aP}{s:Shared}{t b:Addr}{ws:aq}{Q:aP}(ht:IsTup s.heap t ([]:aq).toArray)(hb:IsTup s.heap b ws.toArray)(h:Q (.ref b) s):
 wpAny (model prog w) A (binaryOp .Add (.ref t) (.ref b)) Q E s:=by
 obtain⟨⟨cls,dd,data,sl⟩,ho,hc,n,hd⟩:=id ht;obtain⟨⟨cls2,dd2,data2,sl2⟩,ho2,hc2,n2,hd2⟩:=id hb;simp only at hc hd hc2 hd2;subst hc hd hc2 hd2;exact concat_meets ⟨_,ho,rfl⟩ ⟨_,ho2,rfl⟩ noFill_tuple_add seq_tuple_add PySem.F.slot_tuple_add PySem.F.entry_tuple_add (PySem.F.args_tuple_add_2 _ _)
  (tuple_addW0 t b [].toArray ws.toArray n n2 dd dd2 sl sl2 (by simp)) ⟨ho,ho2,h⟩
theorem Vs{prog:Program}{w:World}{A:Around}{E:aP}{s:Shared}{l b:Addr}{vs ws:aq}{Q:aP}(hl:s.heap.IsList l vs.toArray)(hb:s.heap.IsList b ws.toArray)
 (h:Q (.ref s.heap.objs.size) { s with heap:=s.heap.push { cls:=.type "list",data:=.seq (vs++ws).toArray } }) (hsz:vs.length+ws.length<=sizeLine):
 wpAny (model prog w) A (binaryOp .Add (.ref l) (.ref b)) Q E s:=by
 obtain⟨⟨cls,dd,data,sl⟩,ho,hc,n,hd⟩:=id hl;obtain⟨⟨cls2,dd2,data2,sl2⟩,ho2,hc2,n2,hd2⟩:=id hb;simp only at hc hd hc2 hd2;subst hc hd hc2 hd2;have e:vs.toArray++ws.toArray=(vs++ws).toArray:=by simp
 refine concat_meets ⟨_,ho,rfl⟩ ⟨_,ho2,rfl⟩ noFill_list_add seq_list_add PySem.F.slot_list_add PySem.F.entry_list_add (PySem.F.args_list_add_2 _ _) (list_addW l b vs.toArray ws.toArray n n2 dd dd2 sl sl2 (by simpa using hsz)) ⟨ho,ho2,?_⟩
 rw[e];exact h
theorem PY:cJ X (binaryOp .Add) yu:=by
 intro pins s σ H x y v u Q0 I rx ry h;obtain⟨a,b,M,Q,ra,rb,hv,hq,hk⟩:=h;cases a with
 |int i=>
  cases b with
  |int j=>simp only[Rep]at ra rb;exact V7 pins s σ H x y v u Q0 I rx ry ⟨i,j,ra,rb,hk _ M _ H hq (.refl H) hv (by simp only[Rep])⟩
  |_=>exact(show False from hq).elim
 |str i=>
  cases b with
  |str j=>simp only[Rep]at ra rb;exact RK pins s σ H x y v u Q0 I rx ry ⟨i,j,ra,rb,hq.1,hk _ M _ H hq.2 (.refl H) hv (by simp only[Rep])⟩
  |_=>exact(show False from hq).elim
 |tup xs=>
  cases b with
  |tup ys=>
   obtain⟨hz,hq⟩:=hq;simp only[Rep]at ra rb;obtain⟨p,vs,rfl,hp,hr⟩:=ra;obtain⟨q,ws,rfl,hp2,hr2⟩:=rb
   by_cases hn:vs= []
   . subst hn
     have hx:xs= []:=by have:=hr.length;simpa using this
     subst hx;cases rx;cases ry;obtain⟨ab,r1,p1,_⟩:=I.tuple (bP.of hp);obtain⟨its2,r2,p2,_⟩:=I.tuple (bP.of hp2);cases r1;exact TX p1 p2 ⟨.ref q,H,I,rfl,hk _ M _ H hq (.refl H) hv (by simp only[Rep,List.nil_append];exact⟨q,ws,rfl,hp2,hr2⟩)⟩
   . refine UZ pins s σ H _ _ v u Q0 I rx ry ⟨p,q,vs,ws,rfl,rfl,hp,hp2,hn,by rw[<-hr.length,<-hr2.length];exact hz,λe=>?_,λe l hl=>?_⟩
     . subst e
       have hy:ys= []:=by have:=hr2.length;simpa using this
       subst hy;exact hk _ M _ H hq (.refl H) hv (by simp only[Rep,eY];exact⟨p,vs,rfl,hp,hr⟩)
     . exact hk _ M _ _ hq (Ext.new hl) (hv.new hl) (xN hl (hr.append hr2))
  |_=>exact(show False from hq).elim
 |ls xs=>
  cases b with
  |ls ys=>
   obtain⟨hz,hq⟩:=hq;simp only[Rep]at ra rb;obtain⟨p,vs,rfl,hp,hr⟩:=ra;obtain⟨q,ws,rfl,hp2,hr2⟩:=rb;cases rx;cases ry;obtain⟨ab,r1,p1,z1⟩:=I.list hp.sq;obtain⟨its2,r2,p2,z2⟩:=I.list hp2.sq;have hz':vs.length+ws.length<=sizeLine:=by rw[<-hr.length,<-hr2.length];exact hz
   refine ay (Vs (Q:=EP X pins σ (λv H'=>∃H1 p xs,v= .ref p/\H1 p=none/\H'=upd H1 p (.lst xs)/\∀o,Q0 (.ref p) (upd H1 p (.aV o (.lst xs))))) p1.isList p2.isList ?_ (by rw[<-r1.length,<-r2.length];exact hz')) λ_ _ e=>frozen e
   have hf:=I.au.fresh (aS s.heap.objs.size);refine⟨.ref s.heap.objs.size,upd H s.heap.objs.size (.lst (vs++ws)),I.laid (t':=s.toks) (λb ob q=>bT _ q) (aS _) ?_,rfl,H,_,_,rfl,hf,rfl,λo=>?_⟩
   . exact⟨by rw[cN];exact hz',_,0,r1.append r2,eJ _ rfl⟩
   . exact hk _ M _ _ hq (Ext.new hf) (hv.new hf) (lS hf (hr.append hr2))
  |_=>exact(show False from hq).elim
 |_=>cases b<;>exact(show False from hq).elim
noncomputable def gv:RV->Bool
 | .ao=>true
 |_=>false
theorem HL{K:ae}{H:Hp}:∀{a:RV} {x:V},Rep K H a x->decide (x= .ao)=gv a:=by
 intro a x h;cases a with
 |tup xs=>simp only[Rep]at h;obtain⟨p,vs,rfl,_⟩:=h;simp[gv]
 |ls xs=>simp only[Rep]at h;obtain⟨p,vs,rfl,_⟩:=h;simp[gv]
 |_=>simp only[Rep]at h;subst h;simp[gv]
def MC:cb:=λx y M Q=>match y with| .ao=>Q (.bl (gv x)) M|_=>False
def IH:cb:=λx y M Q=>match y with| .ao=>Q (.bl (!gv x)) M|_=>False
theorem NO:cJ X (compareOp .Is) MC:=by
 intro pins s σ H x y v u Q0 I rx ry h;obtain⟨a,b,M,Q,ra,rb,hv,hq,hk⟩:=h;cases b with
 |ao=>simp only[Rep]at rb;exact V6 pins s σ H x y v u Q0 I rx ry ⟨rb,by rw[HL ra];exact hk _ M _ H hq (.refl H) hv (by simp only[Rep])⟩
 |_=>exact(show False from hq).elim
theorem Wb:cJ X (compareOp .IsNot) IH:=by
 intro pins s σ H x y v u Q0 I rx ry h;obtain⟨a,b,M,Q,ra,rb,hv,hq,hk⟩:=h;cases b with
 |ao=>simp only[Rep]at rb;exact UX pins s σ H x y v u Q0 I rx ry ⟨rb,by rw[HL ra];exact hk _ M _ H hq (.refl H) hv (by simp only[Rep])⟩
 |_=>exact(show False from hq).elim
noncomputable def cw:cb:=λx y M Q=>match x,y with
 | .tup xs,.int i=>match bI xs i with|some v=>Q v M|none=>False
 | .ls xs,.int i=>match bI xs i with|some v=>Q v M|none=>False
 | .ref a,.int i=>match M a with
  |some (.lst xs)=>match bI xs i with|some v=>Q v M|none=>False
  |_=>False
 | .str z,.int i=>z.length<=sizeLine/\match bI z.cps.toList i with|some c=>Q (.str ⟨#[c]⟩) M|none=>False
 |_,_=>False
theorem NP:sj X (rX X.K cw):=by
 intro value slice pins s σ H x y v u Q0 I rx ry h hs;obtain⟨a,b,M,Q,ra,rb,hv,hq,hk⟩:=h;cases b with
 |int i=>
  simp only[Rep]at rb;cases a with
  |tup xs=>
   simp only[Rep]at ra;obtain⟨p,vs,rfl,hp,hr⟩:=ra;simp only[cw]at hq;cases e:bI xs i with
   |none=>rw[e]at hq;exact hq.elim
   |some z=>
    rw[e]at hq;obtain⟨w,e1,r1⟩:=hr.bI e;exact WX value slice pins s σ H _ y v u Q0 I rx ry ⟨p,vs,i,w,rfl,rb,hp,e1,hk _ M _ H hq (.refl H) hv r1⟩ hs
  |ls xs=>
   simp only[Rep]at ra;obtain⟨p,vs,rfl,hp,hr⟩:=ra;simp only[cw]at hq;cases e:bI xs i with
   |none=>rw[e]at hq;exact hq.elim
   |some z=>
    rw[e]at hq;obtain⟨w,e1,r1⟩:=hr.bI e;exact HH value slice pins s σ H _ y v u Q0 I rx ry ⟨p,vs,i,w,rfl,rb,hp.sq,e1,hk _ M _ H hq (.refl H) hv r1⟩ hs
  |ref p=>
   simp only[Rep]at ra;simp only[cw]at hq;split at hq
   . rename_i xs em
     obtain⟨ho,e,r⟩:=hv p _ em;obtain⟨vs,rfl,hr⟩:=r;cases e2:bI xs i with
     |none=>rw[e2]at hq;exact hq.elim
     |some z=>
      rw[e2]at hq;obtain⟨w,e1,r1⟩:=hr.bI e2;exact HH value slice pins s σ H x y v u Q0 I rx ry ⟨p,vs,i,w,ra,rb,cg.of e,e1,hk _ M _ H hq (.refl H) hv r1⟩ hs
   . exact hq.elim
  |str z=>
   simp only[Rep]at ra;simp only[cw]at hq;obtain⟨hz,hq⟩:=hq;cases e:bI z.cps.toList i with
   |none=>rw[e]at hq;exact hq.elim
   |some c=>
    rw[e]at hq;exact WY value slice pins s σ H x y v u Q0 I rx ry ⟨z,i,c,ra,rb,hz,e,hk _ M _ H hq (.refl H) hv (by simp only[Rep])⟩ hs
  |_=>exact(show False from hq).elim
 |_=>cases a<;>exact(show False from hq).elim
theorem ZS{a b:Expr}{ta tb:ak}{pos:Pos}(ha:ah X a ta)(hb:ah X b tb)(hs:HU b:=by intro _ _;rfl):ah X (.Subscript a b pos) (nz cw ta tb):=PE.imp (YK NP ha hb hs) λ_ _ _ h=>xM h
noncomputable def pL:yh:=λo i v M Q=>match o,i with
 | .ref p,.int k=>match M p with
  |some (.lst xs)=>match fg xs.length k with|some j=>Q (put M p (.lst (xs.set j v)))|none=>False
  |_=>False
 |_,_=>False
theorem YN:yP X (JA X.K pL):=by
 intro pins s σ H o i v ov iv u Q0 I ro ri rv h;obtain⟨a,b,c,M,Q,ra,rb,rc,hv,hq,hk⟩:=h;cases a with
 |ref p=>
  cases b with
  |int k=>
   simp only[Rep]at ra rb;simp only[pL]at hq;split at hq
   . rename_i xs em
     obtain⟨ho,e,r⟩:=hv p _ em;obtain⟨vs,rfl,hr⟩:=r;cases e2:fg xs.length k with
     |none=>rw[e2]at hq;exact hq.elim
     |some j=>
      rw[e2]at hq;have ex:Ext H (upd H p (.lst (vs.set j v))):=Ext.write e rfl;exact set_list pins s σ H o i v ov iv u Q0 I ro ri rv ⟨p,vs,k,j,ra,rb,e,by rw[<-hr.length];exact e2,hk _ _ hq ex (hv.write em ⟨_,rfl,aa.ext ex _ _ (hr.set rc j)⟩)⟩
   . exact hq.elim
  |_=>exact(show False from hq).elim
 |_=>cases b<;>exact(show False from hq).elim
def fe(K:ae)(r:LR->RM->aj->Prop):LV->Hp->VK->Prop:=λvs H Q0=>∃rs M Q,aa K H rs vs/\View K H M/\r rs M Q/\iX K H Q Q0
def jx(r:LR->RM->aj->Prop)(t:bA):ak:=λσ M Q=>t σ M λrs M1=>r rs M1 Q
theorem F0{K:ae}{r:LR->RM->aj->Prop}{t:bA}{σ0:L2.St}{H:Hp}{Q0:VK}(h:up K (jx r t) σ0 H Q0):B7 (fe K r) (Cb K t) σ0 H Q0:=by
 obtain⟨σ,M,Q,hs,hv,ht,hk⟩:=h;exact⟨σ,M,_,hs,hv,ht,λrs M1 vs H1 q e1 v1 r1=>⟨rs,M1,Q,r1,v1,q,hk.ext e1⟩⟩
variable {x:Str}{p pos:Pos}{e:Expr}{es:aX}{t:bA}{id T:String}{r:LR->RM->aj->Prop}
theorem uE(hc:cZ X (.builtin id) (fe X.K r))(hm:X.mg x=none)(hv:bootBuiltins x=some (.builtin id))(ha:d9 X (e::es) t)(hg:Gl X x:=by rfl)(hn:x≠"__name__":=by decide)(hdb:(x==("__debug__":Str))=false:=by decide)
 (he:starEach (e::es) X.env=(false,eval e X.env)::starEach es X.env:=by rfl) (hpl:(backTo pos (starEach es X.env)).any (·.1)=false:=by rfl):ah X (.Call (.Name x p) (e::es) [] pos) (jx r t):=
 PE.imp (SY hc hg hm hv ha hn hdb he hpl) λ_ _ _ h=>F0 h
theorem Ia(hc:cZ X (.type T) (fe X.K r))(hm:X.mg x=none)(hv:bootBuiltins x=some (.type T))(ha:d9 X (e::es) t)(hg:Gl X x:=by rfl)(hn:x≠"__name__":=by decide)(hdb:(x==("__debug__":Str))=false:=by decide)
 (he:starEach (e::es) X.env=(false,eval e X.env)::starEach es X.env:=by rfl) (hpl:(backTo pos (starEach es X.env)).any (·.1)=false:=by rfl):ah X (.Call (.Name x p) (e::es) [] pos) (jx r t):=
 PE.imp (R4 hc hg hm hv ha hn hdb he hpl) λ_ _ _ h=>F0 h
theorem aa.one{K:ae}{H:Hp}{x:RV}{vs:LV}(h:aa K H [x] vs):∃v,vs= [v]/\Rep K H x v:=by
 simp only[aa]at h;obtain⟨v,r,rfl,h1,rfl⟩:=h;exact⟨v,rfl,h1⟩
theorem aa.two{K:ae}{H:Hp}{x y:RV}{vs:LV}(h:aa K H [x,y] vs):∃v w,vs= [v,w]/\Rep K H x v/\Rep K H y w:=by
 simp only[aa]at h;obtain⟨v,r,rfl,h1,w,r',rfl,h2,rfl⟩:=h;exact⟨v,w,rfl,h1,h2⟩
noncomputable def yE:LR->RM->aj->Prop:=λrs M Q=>match rs with
 | [.tup xs]=>Q (.int xs.length) M
 | [.ls xs]=>Q (.int xs.length) M
 | [.str z]=>z.length<=sizeLine/\Q (.int z.length) M
 | [.ref a]=>match M a with|some (.lst xs)=>Q (.int xs.length) M|_=>False
 |_=>False
theorem CM:cZ X (.builtin "len") (fe X.K yE):=by
 intro pins s σ H xs us Q0 I rl h;obtain⟨rs,M,Q,rr,hv,hq,hk⟩:=h;unfold yE at hq;split at hq
 . rename_i ys
   obtain⟨v,rfl,r1⟩:=rr.one;simp only[Rep]at r1;obtain⟨q,vs,rfl,hp,hr⟩:=r1;exact zX pins s σ H _ us Q0 I rl ⟨q,vs,rfl,.inr hp,by rw[<-hr.length];exact hk _ M _ H hq (.refl H) hv (by simp only[Rep])⟩
 . rename_i ys
   obtain⟨v,rfl,r1⟩:=rr.one;simp only[Rep]at r1;obtain⟨q,vs,rfl,hp,hr⟩:=r1;exact zX pins s σ H _ us Q0 I rl ⟨q,vs,rfl,.inl hp.sq,by rw[<-hr.length];exact hk _ M _ H hq (.refl H) hv (by simp only[Rep])⟩
 . rename_i z
   obtain⟨v,rfl,r1⟩:=rr.one;simp only[Rep]at r1;subst r1;exact Q5 pins s σ H _ us Q0 I rl ⟨z,rfl,hq.1,hk _ M _ H hq.2 (.refl H) hv (by simp only[Rep])⟩
 . rename_i a
   obtain⟨v,rfl,r1⟩:=rr.one;simp only[Rep]at r1;subst r1;split at hq
   . rename_i ys em
     obtain⟨ho,e,r⟩:=hv a _ em;obtain⟨vs,rfl,hr⟩:=r;exact zX pins s σ H _ us Q0 I rl ⟨a,vs,rfl,.inl (cg.of e),by rw[<-hr.length];exact hk _ M _ H hq (.refl H) hv (by simp only[Rep])⟩
   . exact hq.elim
 . exact hq.elim
end
open HT
section
variable {prog:Program}{w:World}{A:Around}{E:aP}{s:Shared}
theorem Qi{t sl:Addr}{items:Array Value}{vl vu:Value}{lo hi:Option Int}{Q:aP}(ht:IsTup s.heap t items)(hs:s.heap.IsSliceOf sl vl vu .none)(pl:IsPart vl lo)(pu:IsPart vu hi)
 (h0:aN items.size 0 lo=0) (h1:aN items.size items.size hi=items.size)
 (h:Q (.ref t) s):wpAny (model prog w) A (getItem (.ref t) (.ref sl)) Q E s:=by
 obtain⟨os,hos,hcs,hds⟩:=id hs;have hTs:s.TypeIs (.ref sl) "slice":=⟨os,hos,hcs⟩;unfold getItem
 try with_reducible refine nQ ?_
 first|refine ai (aJ ?_)|skip
 refine ai (wpAny_sequenceKey ht.typeIs ⋯ ?_)
 refine ai (wpAny_callSpecial?_slot (name:=Str.ofString "__getitem__") ht.typeIs zj
  (mC zj ht.typeIs entry_tuple_getitem ?_ (args_tuple_getitem _ _)))
 show wpAny _ _ (Builtin.Tuple.tupleItemsOf (.ref t) >>= _) _ _ s;refine ai (tupleItemsOf_ ht ?_);refine ai (wpAny_typeOf hTs ?_);rw[ar ⋯]
 refine ai (E9 hs pl pu ?_);have hyes:(((aN items.size 0 lo:Nat):Int)==0&&(1:Int)==1&&(aN items.size items.size hi-aN items.size 0 lo)==items.size)=true:=by
  rw[h0,h1];simp
 show wpAny _ _ (if(((aN items.size 0 lo:Nat):Int)==0&&(1:Int)==1&&(aN items.size items.size hi-aN items.size 0 lo)==items.size)=true then _ else _) _ _ s
 rw[ar hyes];show wpAny _ _ (Builtin.Tuple.tupleIsExact (.ref t) >>= _) _ _ s;unfold Builtin.Tuple.tupleIsExact;refine ai (ai (wpAny_typeOf ht.typeIs (aJ ?_)));rw[ar ⋯]
 refine ai (wpAny_rule ?_);refine ai (aJ ?_);exact aJ ⟨_,rfl,aJ h⟩
end
section
variable {X:Cx}
abbrev nV:=aY->RM->(Option Int->RM->Prop)->Prop
def upP(K:ae)(t:nV):TO:=λσ0 H Q0=>∃σ M Q,aK K H σ σ0/\View K H M/\t σ M Q/\∀o M' H',Q o M'->Ext H H'->View K H' M'->Q0 o H'
def qv(X:Cx)(e:Option Expr)(t:nV):Prop:=PO X e (upP X.K t)
def DN:nV:=λ_ M Q=>Q none M
def JG(t:ak):nV:=λσ M Q=>t σ M λx M1=>match x with| .int i=>Q (some i) M1|_=>False
theorem PO.imp{e:Option Expr}{t t':TO}(h:PO X e t)(i:∀σ H Q,t' σ H Q->t σ H Q):PO X e t':=λpins s σ H Q I w=>h pins s σ H Q I (i σ H Q w)
theorem YG:qv X none DN:=PO.imp UK λσ0 H Q0 h=>by
 obtain⟨σ,M,Q,hs,hv,ht,hk⟩:=h;exact hk none M H ht (.refl H) hv
theorem YC{e:Expr}{te:ak}(h:ah X e te):qv X (some e) (JG te):=PO.imp (UJ h) λσ0 H Q0 h=>by
 obtain⟨σ,M,Q,hs,hv,ht,hk⟩:=h;refine⟨σ,M,_,hs,hv,ht,λrx M1 x H1 q e1 v1 r1=>?_⟩
 cases rx with
 |int i=>simp only[Rep]at r1;exact⟨i,r1,hk _ M1 H1 q e1 v1⟩
 |_=>exact(show False from q).elim
noncomputable def fF (xs:LR)(lo hi:Option Int):LR:=(xs.drop (aN xs.length 0 lo)).take (aN xs.length xs.length hi-aN xs.length 0 lo)
theorem Gu{K:ae}{H:Hp}{xs:LR}{vs:LV}(r:aa K H xs vs)(lo hi:Option Int):aa K H (fF xs lo hi) (nu vs lo hi):=by
 unfold fF nu;rw[r.length];exact(r.drop _).take _
noncomputable def Pw:RV->Option Int->Option Int->RM->aj->Prop:=λx lo hi M Q=>match x with
 | .str z=>z.length<=sizeLine/\Q (.str (Txt.slice z lo hi)) M
 |_=>False
noncomputable def MN (K:ae)(r:RV->Option Int->Option Int->RM->aj->Prop):V->Option Int->Option Int->Hp->VK->Prop:=λx lo hi H Q0=>∃rx M Q,Rep K H rx x/\View K H M/\r rx lo hi M Q/\iX K H Q Q0
theorem Hf{v:Value}{o:Option Int}(h:IsPart v o):∃l:Option (Int×Tok),v=partValue l/\o=l.map (·.1):=by
 cases h with
 |none=>exact⟨none,rfl,rfl⟩
 |int i t=>exact⟨some (i,t),rfl,rfl⟩
theorem YM:sC X (MN X.K Pw):=by
 intro pins s σ H x v vl vu lo hi sl Q0 I rx hs pl pu h;obtain⟨a,M,Q,ra,hv,hq,hk⟩:=h;cases a with
 |str z=>
  obtain⟨hz,hq⟩:=hq;simp only[Rep]at ra;subst ra;obtain⟨t,rfl⟩:=rx;obtain⟨l,rfl,rfl⟩:=Hf pl;obtain⟨u,rfl,rfl⟩:=Hf pu;refine⟨"str",_,F.slot_str_getitem.lookup,typeIs_str _ _ _,?_⟩;refine wpAny_getItem_str_slice (l:=l) (u:=u) (st:=none) ?_ rfl ?_
  . exact hs
  . refine post_val_or_str ⟨bG (Txt.slice_le z _ _) hz,λt' k=>?_⟩
    exact⟨.str _,H,I.tok k,⟨t',rfl⟩,hk _ M _ H hq (.refl H) hv (by simp only[Rep];rfl)⟩
 |_=>exact(show False from hq).elim
noncomputable def ma:RV->Option Int->Option Int->RM->aj->Prop:=λx lo hi M Q=>match x with
 | .tup xs=>Q (.tup (fF xs lo hi)) M
 | .ls xs=>Q (.ls (fF xs lo hi)) M
 | .ref a=>match M a with|some (.lst xs)=>Q (.ls (fF xs lo hi)) M|_=>False
 | .str z=>z.length<=sizeLine/\Q (.str (Txt.slice z lo hi)) M
 |_=>False
theorem PJ:sC X (MN X.K ma):=by
 intro pins s σ H x v vl vu lo hi sl Q0 I rx hs pl pu h;obtain⟨a,M,Q,ra,hv,hq,hk⟩:=h;have lstcase:∀(p:Addr) (xs:LR) (vs:LV),x= .ref p->cg X.K H p vs->aa X.K H xs vs->Q (.ls (fF xs lo hi)) M->
  ∃T id,typeLookup (.type T) "__getitem__" =pure (some (.builtin id))/\s.TypeIs v T/\wpAny (model X.prog X.w) X.A (getItem v (.ref sl)) (EP X pins σ Q0) X.xe s:=by
  intro p xs vs ex hp hr hq;obtain⟨T,id,h1,h2,h3⟩:=Uu pins s σ H x v vl vu lo hi sl (λv H'=>∃H1 p xs,v= .ref p/\H1 p=none/\H'=upd H1 p (.lst xs)/\∀o,Q0 (.ref p) (upd H1 p (.aV o (.lst xs)))) I rx hs pl pu
   ⟨p,vs,ex,hp,λq hq'=>⟨H,q,_,rfl,hq',rfl,λo=>hk _ M _ _ hq (Ext.new hq') (hv.new hq') (lS hq' (Gu hr lo hi))⟩⟩
  exact⟨T,id,h1,h2,ay h3 λ_ _ e=>frozen e⟩
 cases a with
 |tup xs=>
  simp only[ma]at hq;simp only[Rep]at ra;obtain⟨p,vs,rfl,hp,hr⟩:=ra
  by_cases hw:aN vs.length 0 lo=0/\aN vs.length vs.length hi=vs.length
  . cases rx
    obtain⟨ab,r,ht,hz⟩:=I.tuple (bP.of hp);have hlen:ab.toArray.size=vs.length:=by rw[c7];exact r.length.symm
    refine⟨"tuple",_,PyProof.Rows.slot_tuple_getitem.lookup,ht.typeIs,?_⟩;refine Qi ht hs pl pu (by rw[hlen];exact hw.1) (by rw[hlen];exact hw.2) ⟨.ref p,H,I,rfl,?_⟩
    have e:fF xs lo hi=xs:=by
     unfold fF;rw[hr.length,hw.1,hw.2,List.drop_zero,Nat.sub_zero,<-hr.length,List.take_length]
    rw[e]at hq;exact hk _ M _ H hq (.refl H) hv (by simp only[Rep];exact⟨p,vs,rfl,hp,hr⟩)
  . exact VP pins s σ H _ v vl vu lo hi sl Q0 I rx hs pl pu ⟨p,vs,rfl,hp,hw,λq hq'=>hk _ M _ _ hq (Ext.new hq') (hv.new hq') (xN hq' (Gu hr lo hi))⟩
 |ls xs=>
  simp only[ma]at hq;simp only[Rep]at ra;obtain⟨p,vs,rfl,hp,hr⟩:=ra;exact lstcase p xs vs rfl hp.sq hr hq
 |str z=>exact YM pins s σ H x v vl vu lo hi sl Q0 I rx hs pl pu ⟨.str z,M,Q,ra,hv,hq,hk⟩
 |ref p=>
  simp only[ma]at hq;simp only[Rep]at ra;split at hq
  . rename_i xs em
    obtain⟨ho,e,r⟩:=hv p _ em;obtain⟨vs,rfl,hr⟩:=r;exact lstcase p xs vs ra (cg.of e) hr hq
  . exact hq.elim
 |_=>exact(show False from hq).elim
def MH(te:ak)(tl th:nV):ak:=λσ M Q=>te σ M λx M1=>tl σ M1 λl M2=>th σ M2 λu M3=>ma x l u M3 Q
theorem ZV{e:Expr}{te:ak}{lo hi:Option Expr}{tl th:nV}{pos p2:Pos}(he:ah X e te)(hl:qv X lo tl)(hu:qv X hi th):ah X (.Subscript e (.Slice lo hi none p2) pos) (MH te tl th):=PE.imp (Ts PJ he hl hu) λσ0 H Q0 h=>by
 obtain⟨σ,M,Q,hs,hv,ht,hk⟩:=h;refine⟨σ,M,_,hs,hv,ht,λrx M1 x H1 q e1 v1 r1=>?_⟩
 refine⟨σ,M1,_,hs.ext e1,v1,q,λl M2 H2 q2 e2 v2=>?_⟩
 refine⟨σ,M2,_,hs.ext (e1.trans e2),v2,q2,λu M3 H3 q3 e3 v3=>?_⟩
 exact⟨rx,M3,Q,Rep.ext (e2.trans e3) rx x r1,v3,q3,hk.ext ((e1.trans e2).trans e3)⟩
theorem Q9(K:ae):PySem.W.kitOne K (.type "NoneType") (.type "int")=some false:=by kernel_rfl
theorem RU(K:ae):PySem.W.kitOne K (.type "bool") (.type "int")=some true:=by kernel_rfl
theorem Rc(K:ae):PySem.W.kitOne K (.type "int") (.type "int")=some true:=by kernel_rfl
theorem Q7(K:ae):PySem.W.kitOne K (.type "str") (.type "int")=some false:=by kernel_rfl
theorem QU(K:ae):PySem.W.kitOne K (.type "tuple") (.type "int")=some false:=by kernel_rfl
theorem RS(K:ae):PySem.W.kitOne K (.type "list") (.type "int")=some false:=by kernel_rfl
noncomputable def Jd:RV->Option Bool
 | .ao=>some false
 | .bl _=>some true
 | .int _=>some true
 | .str _=>some false
 | .tup _=>some false
 | .ls _=>some false
 |_=>none
theorem QL(K:ae):PySem.W.kitOne K (.type "NoneType") (.type "bool")=some false:=by kernel_rfl
theorem Rg(K:ae):PySem.W.kitOne K (.type "bool") (.type "bool")=some true:=by kernel_rfl
theorem Qz(K:ae):PySem.W.kitOne K (.type "int") (.type "bool")=some false:=by kernel_rfl
theorem QJ(K:ae):PySem.W.kitOne K (.type "str") (.type "bool")=some false:=by kernel_rfl
theorem QG(K:ae):PySem.W.kitOne K (.type "tuple") (.type "bool")=some false:=by kernel_rfl
theorem Ra(K:ae):PySem.W.kitOne K (.type "list") (.type "bool")=some false:=by kernel_rfl
noncomputable def is_bool:RV->Option Bool
 | .ao=>some false
 | .bl _=>some true
 | .int _=>some false
 | .str _=>some false
 | .tup _=>some false
 | .ls _=>some false
 |_=>none
theorem Q8(K:ae):PySem.W.kitOne K (.type "NoneType") (.type "str")=some false:=by kernel_rfl
theorem RT(K:ae):PySem.W.kitOne K (.type "bool") (.type "str")=some false:=by kernel_rfl
theorem Rb(K:ae):PySem.W.kitOne K (.type "int") (.type "str")=some false:=by kernel_rfl
theorem QV(K:ae):PySem.W.kitOne K (.type "str") (.type "str")=some true:=by kernel_rfl
theorem QT(K:ae):PySem.W.kitOne K (.type "tuple") (.type "str")=some false:=by kernel_rfl
theorem RQ(K:ae):PySem.W.kitOne K (.type "list") (.type "str")=some false:=by kernel_rfl
noncomputable def Jc:RV->Option Bool
 | .ao=>some false
 | .bl _=>some false
 | .int _=>some false
 | .str _=>some true
 | .tup _=>some false
 | .ls _=>some false
 |_=>none
theorem Qv(K:ae):PySem.W.kitOne K (.type "NoneType") (.type "tuple")=some false:=by kernel_rfl
theorem QC(K:ae):PySem.W.kitOne K (.type "bool") (.type "tuple")=some false:=by kernel_rfl
theorem Qw(K:ae):PySem.W.kitOne K (.type "int") (.type "tuple")=some false:=by kernel_rfl
theorem Qu(K:ae):PySem.W.kitOne K (.type "str") (.type "tuple")=some false:=by kernel_rfl
theorem Qt(K:ae):PySem.W.kitOne K (.type "tuple") (.type "tuple")=some true:=by kernel_rfl
theorem QM(K:ae):PySem.W.kitOne K (.type "list") (.type "tuple")=some false:=by kernel_rfl
noncomputable def GN:RV->Option Bool
 | .ao=>some false
 | .bl _=>some false
 | .int _=>some false
 | .str _=>some false
 | .tup _=>some true
 | .ls _=>some false
 |_=>none
theorem QK(K:ae):PySem.W.kitOne K (.type "NoneType") (.type "list")=some false:=by kernel_rfl
theorem Rf(K:ae):PySem.W.kitOne K (.type "bool") (.type "list")=some false:=by kernel_rfl
theorem QN(K:ae):PySem.W.kitOne K (.type "int") (.type "list")=some false:=by kernel_rfl
theorem QH(K:ae):PySem.W.kitOne K (.type "str") (.type "list")=some false:=by kernel_rfl
theorem QF(K:ae):PySem.W.kitOne K (.type "tuple") (.type "list")=some false:=by kernel_rfl
theorem Fu(K:ae):PySem.W.kitOne K (.type "list") (.type "list")=some true:=by kernel_rfl
noncomputable def HJ:RV->Option Bool
 | .ao=>some false
 | .bl _=>some false
 | .int _=>some false
 | .str _=>some false
 | .tup _=>some false
 | .ls _=>some true
 |_=>none
noncomputable def Z4:RV->Option String
 | .ao=>some "NoneType"
 | .bl _=>some "bool"
 | .int _=>some "int"
 | .str _=>some "str"
 | .tup _=>some "tuple"
 | .ls _=>some "list"
 |_=>none
noncomputable def pZ (T:String)(test:RV->Option Bool):LR->RM->aj->Prop:=λrs M Q=>match rs with
 | [x,.ty T']=>T'=T/\(match test x with|some b=>Q (.bl b) M|none=>False)
 |_=>False
theorem vf{T:String}{test:RV->Option Bool}(ht:∀a b,test a=some b->∃n,Z4 a=some n/\PySem.W.kitOne X.K (.type n) (.type T)=some b):cZ X (.builtin "isinstance") (fe X.K (pZ T test)):=by
 intro pins s σ H xs us Q0 I rl h;obtain⟨rs,M,Q,rr,hv,hq,hk⟩:=h;unfold pZ at hq;split at hq
 . rename_i a T'
   obtain⟨rfl,hq⟩:=hq;obtain⟨v,w,rfl,r1,r2⟩:=rr.two;obtain⟨u,u',rfl,w1,w2⟩:=vals2 rl;simp only[Rep]at r2;subst r2;obtain rfl:u'=Value.type T':=w2;cases e:test a with
   |none=>rw[e]at hq;exact hq.elim
   |some b=>
    rw[e]at hq;obtain⟨n,en,ek⟩:=ht a b e;have fin:∀tk,EP X pins σ Q0 (.bool b) { s with toks:=tk }:=λtk=>⟨.bl b,H,I.tok tk,rfl,hk _ M _ H hq (.refl H) hv (by simp only[Rep])⟩
    cases a with
    |ao=>cases en;simp only[Rep]at r1;subst r1;cases(show u=Value.none from w1);exact qp PySem.W.kitx_none I.dj True.intro ek (λz=>nomatch z) fin
    |bl y=>cases en;simp only[Rep]at r1;subst r1;cases(show u=Value.bool y from w1);exact qp PySem.W.kitx_bool I.dj True.intro ek (λz=>nomatch z) fin
    |int y=>cases en;simp only[Rep]at r1;subst r1;obtain⟨t,q⟩:=(show ∃t,u=Value.int y t from w1);cases q;exact qp PySem.W.kitx_int I.dj True.intro ek (λz=>nomatch z) fin
    |str y=>cases en;simp only[Rep]at r1;subst r1;obtain⟨t,q⟩:=(show ∃t,u=Value.str y t from w1);cases q;exact qp PySem.W.kitx_str I.dj True.intro ek (λz=>nomatch z) fin
    |tup ys=>
     cases en;simp only[Rep]at r1;obtain⟨p,vs,rfl,hp,hr⟩:=r1;cases(show u=Value.ref p from w1)
     obtain⟨ab,_,pt,_⟩:=I.tuple (bP.of hp);obtain⟨o,h1,h2,_⟩:=pt;exact qp PySem.W.kitx_tuple I.dj ⟨o,h1,h2⟩ ek (λz=>nomatch z) fin
    |ls ys=>
     cases en;simp only[Rep]at r1;obtain⟨p,vs,rfl,hp,hr⟩:=r1;cases(show u=Value.ref p from w1)
     obtain⟨ab,_,pt,_⟩:=I.list hp.sq;obtain⟨o,h1,h2,_⟩:=pt.isList;exact qp PySem.W.kitx_list I.dj ⟨o,h1,h2⟩ ek (λz=>nomatch z) fin
    |_=>cases en
 . exact hq.elim
theorem TV:cZ X (.builtin "isinstance") (fe X.K (pZ "int" Jd)):=vf λa b e=>by
 cases a with
 |ao=>cases e;exact⟨_,rfl,Q9 X.K⟩
 |bl _=>cases e;exact⟨_,rfl,RU X.K⟩
 |int _=>cases e;exact⟨_,rfl,Rc X.K⟩
 |str _=>cases e;exact⟨_,rfl,Q7 X.K⟩
 |tup _=>cases e;exact⟨_,rfl,QU X.K⟩
 |ls _=>cases e;exact⟨_,rfl,RS X.K⟩
 |_=>cases e
theorem Ss:cZ X (.builtin "isinstance") (fe X.K (pZ "bool" is_bool)):=vf λa b e=>by
 cases a with
 |ao=>cases e;exact⟨_,rfl,QL X.K⟩
 |bl _=>cases e;exact⟨_,rfl,Rg X.K⟩
 |int _=>cases e;exact⟨_,rfl,Qz X.K⟩
 |str _=>cases e;exact⟨_,rfl,QJ X.K⟩
 |tup _=>cases e;exact⟨_,rfl,QG X.K⟩
 |ls _=>cases e;exact⟨_,rfl,Ra X.K⟩
 |_=>cases e
theorem TU:cZ X (.builtin "isinstance") (fe X.K (pZ "str" Jc)):=vf λa b e=>by
 cases a with
 |ao=>cases e;exact⟨_,rfl,Q8 X.K⟩
 |bl _=>cases e;exact⟨_,rfl,RT X.K⟩
 |int _=>cases e;exact⟨_,rfl,Rb X.K⟩
 |str _=>cases e;exact⟨_,rfl,QV X.K⟩
 |tup _=>cases e;exact⟨_,rfl,QT X.K⟩
 |ls _=>cases e;exact⟨_,rfl,RQ X.K⟩
 |_=>cases e
theorem Rx:cZ X (.builtin "isinstance") (fe X.K (pZ "tuple" GN)):=vf λa b e=>by
 cases a with
 |ao=>cases e;exact⟨_,rfl,Qv X.K⟩
 |bl _=>cases e;exact⟨_,rfl,QC X.K⟩
 |int _=>cases e;exact⟨_,rfl,Qw X.K⟩
 |str _=>cases e;exact⟨_,rfl,Qu X.K⟩
 |tup _=>cases e;exact⟨_,rfl,Qt X.K⟩
 |ls _=>cases e;exact⟨_,rfl,QM X.K⟩
 |_=>cases e
theorem Sr:cZ X (.builtin "isinstance") (fe X.K (pZ "list" HJ)):=vf λa b e=>by
 cases a with
 |ao=>cases e;exact⟨_,rfl,QK X.K⟩
 |bl _=>cases e;exact⟨_,rfl,Rf X.K⟩
 |int _=>cases e;exact⟨_,rfl,QN X.K⟩
 |str _=>cases e;exact⟨_,rfl,QH X.K⟩
 |tup _=>cases e;exact⟨_,rfl,QF X.K⟩
 |ls _=>cases e;exact⟨_,rfl,Fu X.K⟩
 |_=>cases e
abbrev bO:=LR->RM->aj->Prop
def fm(K:ae)(sp:bO):Sp:=λvs H Q0 _=>∃rs M Q,aa K H rs vs/\View K H M/\sp rs M Q/\iX K H Q Q0
end
structure zt(P:Program)(w:World)(K:ae)(mg:bj)(base:Heap)(k:Nat)(x:Str)(ps:az)(sp:bO):Prop where
 ex:∃(f:Addr) (fd:FuncData),mg x=some (.ref f)/\PySem.W.keepIn K (.ref f)=true/\Binds K fd ps []/\c6 P w K mg base eS k f fd ps (fm K sp)
section
variable {X:Cx}{x:Str}{p pos:Pos}{e:Expr}{es:aX}{t:bA}{k:Nat}{ps:az}{sp:bO}
theorem WH(F:zt X.prog X.w X.K X.mg X.base k x ps sp)(hr:aH k X.A)(ha:d9 X (e::es) t)(hg:Gl X x:=by rfl)(hdb:(x==("__debug__":Str))=false:=by decide)
 (he:starEach (e::es) X.env=(false,eval e X.env)::starEach es X.env:=by rfl) (hpl:(backTo pos (starEach es X.env)).any (·.1)=false:=by rfl):ah X (.Call (.Name x p) (e::es) [] pos) (jx sp t):=by
 obtain⟨f,fd,hm,hk,hb,F⟩:=F.ex;refine PE.imp (UR F hr hg hm hk hb .nil pN ha hdb he hpl) λσ0 H Q0 h=>?_
 obtain⟨σ,M,Q,hs,hv,ht,hk⟩:=h;exact⟨σ,M,_,hs,hv,ht,λrs M1 vs H1 q e1 v1 r1=>⟨rs,M1,Q,by rw[eY];exact r1,v1,q,hk.ext e1⟩⟩
theorem Vg(F:zt X.prog X.w X.K X.mg X.base k x ps sp)(hr:aH k X.A)(hg:Gl X x:=by rfl)(hdb:(x==("__debug__":Str))=false:=by decide):ah X (.Call (.Name x p) [] [] pos) (jx sp mh):=by
 obtain⟨f,fd,hm,hk,hb,F⟩:=F.ex;refine PE.imp (S2 F hr hg hm hk hb .nil pN hdb) λσ0 H Q0 h=>?_
 obtain⟨σ,M,Q,hs,hv,ht,hk⟩:=h;exact⟨[],M,Q,aa.nil,hv,ht,hk⟩
noncomputable def iK (N:az)(rs:LR):aY:=rs.map some++List.replicate (N.length-rs.length) none
theorem Ro{K:ae}{H:Hp}{N:az}{rs:LR}{vs:LV}(r:aa K H rs vs):aK K H (iK N rs) (L2.start N vs):=by
 unfold iK L2.start;refine⟨by simp[r.length],λi z e=>?_⟩
 have hi:i<rs.length:=by
  by_cases hi:i<rs.length
  . exact hi
  . rw[List.getElem?_append_right (by simpa using hi),List.getElem?_replicate]at e
    split at e<;>cases e
 rw[qi (by simpa using hi),gj]at e
 cases q:rs[i]? with
 |none=>rw[q]at e;cases e
 |some y=>
  rw[q]at e;cases e;obtain⟨v,e1,r1⟩:=r.get q;exact⟨v,by rw[qi (by rw[bw,<-r.length];exact hi),gj,e1];rfl,r1⟩
noncomputable def nums (n:Nat):LR:=(List.range n).map λ(i:Nat)=>RV.int (i:Int)
theorem mU(n:Nat):(nums n).length=n:=by simp[nums]
end
def eD(H0 H H':Hp):Prop:=H'=H∨∃d o u,H d=some (.aV o u)/\je u=true/\(∀o' u',H0 d≠some (.aV o' u'))/\H'=upd H d u
theorem eD.inv{X:Cx}{pins:aG}{σ:L2.St}{H H':Hp}{s:Shared}(t:eD X.H₀ H H')(I:Inv X pins σ H s):Inv X pins σ H' s:=by
 rcases t with rfl|⟨p,ob,u,h,du,h0,rfl⟩
 . exact I
 have np:∀b,H b=none->b≠p:=λb q w=>by subst w;rw[h]at q;cases q
 refine⟨I.ok,I.os,I.bare,⟨I.base.keep,I.base.slot,λb o q w x=>?_,I.base.there,λb xs' q=>?_,λb o u q=>?_,λb ps q=>?_⟩,I.loc,I.cell,?_,λx c q=>?_,λq hq=>?_,λb v q=>?_,I.len⟩
 . have:=I.base.free b o q w x
   rw[aD (np b this)];exact this
 . have e1:=I.base.bb b xs' q
   rw[aD (jb e1 h (by intro z;cases z))];exact e1
 . have e1:=I.base.aI b o u q
   rw[aD (by rintro rfl;exact h0 _ _ q)];exact e1
 . obtain⟨more,e1⟩:=I.base.d7 b ps q
   exact⟨more,by rw[aD (jb e1 h (by intro z;cases z))];exact e1⟩
 . rw[aD (np _ I.free)];exact I.free
 . have:=I.bL x c q
   rw[aD (np _ this)];exact this
 . obtain⟨a1,a2,a3⟩:=I.pin q hq
   exact⟨a1,by rw[aD (np _ a2)];exact a2,a3⟩
 . have st:∀c v,aB X.prog X.w H s.heap c v->aB X.prog X.w (upd H p u) s.heap c v:=λc v z=>z.eG (λ_ _ _ q=>q) (λc q=>by rw[aD (jb q h (by intro z;cases z))];exact q) λc ys q=>by rw[aD (jb q h (by intro z;cases z))];exact q
   by_cases hb:b=p
   . subst hb
     rw[c0]at q;cases q;exact st _ _ (I.au b _ h).2
   . rw[aD hb]at q
     exact st _ _ (I.au b v q)
theorem uz{X:Cx}{pins:aG}{σ:L2.St}{H:Hp}{s:Shared}{p:Addr}{u:HO}(I:Inv X pins σ H s)(h:H p=some u)(du:je u=true):∃o,s.heap.get? p=some o/\Inv X pins σ (upd H p (.aV o u)) s/\∀o' u',X.H₀ p≠some (.aV o' u'):=by
 have hz:=I.au p u h;obtain⟨ob,e⟩:∃o,s.heap.get? p=some o:=by
  cases u<;>first|(cases du;done)|skip
  . obtain⟨_,_,_,_,o,_,_,e,_⟩:=hz;exact⟨o,e⟩
  . obtain⟨_,_,_,_,o,_,_,e,_⟩:=hz;exact⟨o,e⟩
 have nf:∀o' u',H p≠some (.aV o' u'):=λo' u' z=>by rw[h]at z;cases z;cases du
 have np:∀b,H b=none->b≠p:=λb q w=>by subst w;rw[h]at q;cases q
 have nt:∀c xs,H c=some (.tup xs)->c≠p:=λc xs q w=>by subst w;rw[h]at q;cases q;cases du
 have no:∀c y,H c=some (.own y)->c≠p:=λc y q w=>by subst w;rw[h]at q;cases q;cases du
 refine⟨ob,e,⟨I.ok,I.os,I.bare,⟨I.base.keep,I.base.slot,λb o q w x=>?_,I.base.there,λb xs' q=>?_,λb o u q=>?_,λb ps q=>?_⟩,I.loc,I.cell,?_,λx c q=>?_,λq hq=>?_,λb v q=>?_,I.len⟩,λo' u' z=>nf o' u' (I.base.aI _ _ _ z)⟩
 . have:=I.base.free b o q w x
   rw[aD (np b this)];exact this
 . have e1:=I.base.bb b xs' q
   rw[aD (nt _ _ e1)];exact e1
 . have e1:=I.base.aI b o u q
   rw[aD (by rintro rfl;exact nf _ _ e1)];exact e1
 . obtain⟨more,e1⟩:=I.base.d7 b ps q
   exact⟨more,by rw[aD (by rintro rfl;rw[h]at e1;cases e1;cases du)];exact e1⟩
 . rw[aD (np _ I.free)];exact I.free
 . have:=I.bL x c q
   rw[aD (np _ this)];exact this
 . obtain⟨a1,a2,a3⟩:=I.pin q hq
   exact⟨a1,by rw[aD (np _ a2)];exact a2,a3⟩
 . have st:∀c v,aB X.prog X.w H s.heap c v->aB X.prog X.w (upd H p (.aV ob u)) s.heap c v:=λc v z=>z.eG (λ_ _ _ q=>q) (λc q=>by rw[aD (no _ _ q)];exact q) λc ys q=>by rw[aD (nt _ _ q)];exact q
   by_cases hb:b=p
   . subst hb
     rw[c0]at q;cases q;exact⟨e,st _ _ hz⟩
   . rw[aD hb]at q
     exact st _ _ (I.au b v q)
structure iq(H0 Hs:Hp)(K:ae)(J:It)(xs:LR)(ok:RM->Prop)(un:RM->RM)(H1:Hp):Prop where
 turn:∀i H M,Ext H1 H->View K H M->ok M->∀x,xs[i]? =some x->J.go i H/\∀v H',J.Ci i H v H'->Ext H H'/\(∀M,View K H M->View K H' M)/\Rep K H' x v
 stop:∀i H M,Ext H1 H->View K H M->ok M->xs.length<=i->J.stop i H
 bY:∀H M,Ext H1 H->View K H M->ok M->∃H',eD H0 H H'/\bg H H'/\Ext Hs H'/\View K H' (un M)
abbrev gu:=aY->RM->(LR->(RM->Prop)->(RM->RM)->RM->Prop)->Prop
abbrev dE:RM->Prop:=λ_=>True
noncomputable def Z9 (H0:Hp)(K:ae)(ti:gu):TI:=λσ0 H R=>∃σ M Q,aK K H σ σ0/\View K H M/\ti σ M Q/\∀xs ok un M' J H',Q xs ok un M'->Ext H H'->View K H' M'->iq H0 H K J xs ok un H'->R J H'
def iV(X:Cx)(tg iter:Expr)(ti:gu):Prop:=PI X tg iter (Z9 X.H₀ X.K ti)
section
variable {X:Cx}{tg:Expr}
noncomputable def CY (te:ak):gu:=λσ M Q=>te σ M λv M1=>match v with
 | .tup xs=>Q xs dE id M1
 | .ls xs=>Q xs dE id M1
 | .ref a=>match M1 a with
  |some (.lst xs)=>Q xs (λM=>M a=some (.lst xs)) id M1
  |_=>False
 |_=>False
theorem mS{H0 Hs:Hp}{K:ae}{H1:Hp}{ok:RM->Prop}(es:Ext Hs H1):∀H M,Ext H1 H->View K H M->ok M->∃H',eD H0 H H'/\bg H H'/\Ext Hs H'/\View K H' (id M):=λH M e v _=>⟨H,.inl rfl,(Ext.refl H).w,es.trans e,v⟩
theorem W3{H0 Hs:Hp}{K:ae}{H1:Hp}{a:Addr}{rs:LR}{vs:LV}(h:Fz K H1 a vs)(r:aa K H1 rs vs)(es:Ext Hs H1):iq H0 Hs K (vI K a) rs dE id H1 where
 turn:=λi H M e _ _ x hx=>by
  obtain⟨v,e1,r1⟩:=r.get hx;refine⟨⟨vs,v,(h.ext e).sq,e1⟩,λv' H' y=>?_⟩
  obtain⟨rfl,y⟩:=y;have:=y vs (h.ext e).sq;rw[e1]at this;cases this;exact⟨.refl _,λ_ w=>w,Rep.ext e x v r1⟩
 stop:=λi H M e _ _ hi=>⟨vs,(h.ext e).sq,by rw[<-r.length];exact hi⟩
 bY:=mS es
theorem WZ{H0 Hs:Hp}{K:ae}{H1:Hp}{a:Addr}{rs:LR}{vs:LV}(h:bP K H1 a vs)(r:aa K H1 rs vs)(es:Ext Hs H1):iq H0 Hs K (Cj K a) rs dE id H1 where
 turn:=λi H M e _ _ x hx=>by
  obtain⟨v,e1,r1⟩:=r.get hx;refine⟨⟨vs,v,bP.ext e h,e1⟩,λv' H' y=>?_⟩
  obtain⟨rfl,y⟩:=y;have:=y vs (bP.ext e h);rw[e1]at this;cases this;exact⟨.refl _,λ_ w=>w,Rep.ext e x v r1⟩
 stop:=λi H M e _ _ hi=>⟨vs,bP.ext e h,by rw[<-r.length];exact hi⟩
 bY:=mS es
theorem W0{H0 Hs:Hp}{K:ae}{H1:Hp}(n:Nat)(es:Ext Hs H1):iq H0 Hs K (vJ 0 n) (nums n) dE id H1 where
 turn:=λi H M e _ _ x hx=>by
  have hi:i<n:=by have:=(jE.mp hx).1;rw[mU]at this;exact this
  have hx':x= .int (i:Int):=by simp[nums,hi]at hx;exact hx.symm
  subst hx';refine⟨hi,λv' H' y=>?_⟩
  obtain⟨rfl,rfl⟩:=y;exact⟨.refl _,λ_ w=>w,by simp only[Rep];simp⟩
 stop:=λi H M e _ _ hi=>by rw[mU]at hi;exact hi
 bY:=mS es
theorem W2{H0 Hs:Hp}{K:ae}{H1:Hp}{a:Addr}{rs:LR}(es:Ext Hs H1):iq H0 Hs K (vI K a) rs (λM=>M a=some (.lst rs)) id H1 where
 turn:=λi H M e hv hm x hx=>by
  obtain⟨ho,eh,vs,rfl,r⟩:=hv a _ hm;obtain⟨v,e1,r1⟩:=r.get hx;refine⟨⟨vs,v,cg.of eh,e1⟩,λv' H' y=>?_⟩
  obtain⟨rfl,y⟩:=y;have:=y vs (cg.of eh);rw[e1]at this;cases this;exact⟨.refl _,λ_ w=>w,r1⟩
 stop:=λi H M e hv hm hi=>by
  obtain⟨ho,eh,vs,rfl,r⟩:=hv a _ hm;exact⟨vs,cg.of eh,by rw[<-r.length];exact hi⟩
 bY:=mS es
theorem O9{l:Expr}{te:ak}(hl:ah X l te):iV X tg l (CY te):=by
 intro pins s σ0 H R I h;obtain⟨σ,M,Q,hs,hv,ht,hk⟩:=h;refine ay (hl pins s σ0 H (λx H1=>(∃a vs rs ok M1,x= .ref a/\cg X.K H1 a vs/\iq X.H₀ H X.K (vI X.K a) rs ok id H1/\Q rs ok id M1/\Ext H H1/\View X.K H1 M1)∨∃a vs rs M1,x= .ref a/\bP X.K H1 a vs/\aa X.K H1 rs vs/\Q rs dE id M1/\Ext H H1/\View X.K H1 M1) I ⟨σ,M,_,hs,hv,ht,λrv M1 v H1 q e1 v1 r1=>?_⟩) λu s1 ⟨v,H1,I1,r1,q1⟩=>?_
 . cases rv with
   |ls xs=>simp only[Rep]at r1;obtain⟨a,vs,rfl,h1,h2⟩:=r1;exact .inl ⟨a,vs,xs,dE,M1,rfl,h1.sq,W3 h1 h2 e1,q,e1,v1⟩
   |tup xs=>simp only[Rep]at r1;obtain⟨a,vs,rfl,h1,h2⟩:=r1;exact .inr ⟨a,vs,xs,M1,rfl,bP.of h1,h2,q,e1,v1⟩
   |ref a=>
    simp only[Rep]at r1;subst r1;dsimp only at q;split at q
    . rename_i xs hm
      obtain⟨ho,eh,vs,rfl,r⟩:=v1 a _ hm;exact .inl ⟨a,vs,xs,_,M1,rfl,cg.of eh,W2 e1,q,e1,v1⟩
    . exact q.elim
   |_=>exact(show False from q).elim
 . rcases q1 with⟨a,vs,rs,ok,M1,rfl,h1,h2,q,e1,v1⟩|⟨a,vs,rs,M1,rfl,h1,h2,q,e1,v1⟩
   . cases r1
     obtain⟨ab,rv,p,hz⟩:=I1.list h1;refine wpAny_pyIter_list p.isList ?_;refine⟨s1.heap.objs.size,[s1.heap.objs.size],_,_,H1,rfl,I1.kept (t':=s1.toks) λb o e=>bT _ e,Rl a _,⟨_,eJ _ rfl,rfl,rfl⟩,λb hb=>?_,hk rs ok id M1 _ H1 q e1 v1 h2⟩
     have e:b=s1.heap.objs.size:=by simpa using hb
     subst e;exact I1.gU (aS _) (I1.au.fresh (aS _))
   . cases r1
     obtain⟨ab,rv,p,hz⟩:=I1.tuple h1;refine wpAny_pyIter_tuple (show s1.heap.IsTuple a ab.toArray from p) ?_
     refine⟨s1.heap.objs.size,[s1.heap.objs.size],_,_,H1,rfl,I1.kept (t':=s1.toks) λb o e=>bT _ e,Q6 a _,⟨_,eJ _ rfl,rfl,rfl⟩,λb hb=>?_,hk rs dE id M1 _ H1 q e1 v1 (WZ h1 h2 e1)⟩
     have e:b=s1.heap.objs.size:=by simpa using hb
     subst e;exact I1.gU (aS _) (I1.au.fresh (aS _))
noncomputable def uU (Q:LR->(RM->Prop)->(RM->RM)->RM->Prop):LR->RM->Prop:=λrs M=>match rs with
 | [.int n]=>-(2 ^ 62)<=n/\n<2 ^ 62/\Q (nums n.toNat) dE id M
 |_=>False
def CZ(te:ak):gu:=λσ M Q=>te σ M λv M1=>uU Q [v] M1
theorem PI.imp{iter:Expr}{t t':TI}(h:PI X tg iter t)(i:∀σ H R,t' σ H R->t σ H R):PI X tg iter t':=λpins s σ H R I w=>h pins s σ H R I (i σ H R w)
theorem W5{a:Expr}{te:ak}{p pos:Pos}(hm:X.mg "range" =none)(ha:ah X a te)(hgl:Gl X "range":=by rfl)(hst:starEach [a] X.env= [(false,eval a X.env)]:=by rfl)(hsc:starEach (a::[]) X.env=(false,eval a X.env)::starEach [] X.env:=by rfl):
 iV X tg (.Call (.Name "range" p) [a] [] pos) (CZ te):=PI.imp (R3 hgl hm (yg ha BB hsc) hst) λσ0 H R h=>by
 obtain⟨σ,M,Q,hs,hv,ht,hk⟩:=h;refine⟨σ,M,uU Q,hs,hv,ht,λrs M1 vs H1 q e1 v1 r1=>?_⟩
 unfold uU at q;split at q
 . rename_i n
   obtain⟨q1,q2,q⟩:=q;obtain⟨v,rfl,r2⟩:=r1.one;simp only[Rep]at r2;subst r2;exact⟨n,rfl,q1,q2,hk _ dE id M1 _ H1 q e1 v1 (W0 _ e1)⟩
 . exact q.elim
def JL(ti:gu)(g:iW)(tb:cD):cD:=λD σ M=>ti σ M λxs ok un M1=>gG g tb D ok un xs σ M1
noncomputable def Jk (H0:Hp)(D:Ends):Ends where
 nx:=λσ H=>∃H',eD H0 H H'/\D.nx σ H'
 rt:=λv H=>∃H',eD H0 H H'/\D.rt v H'
 bk:=D.bk
 ct:=D.ct
theorem Dy{iter:Expr}{body:List Stmt}{ti:gu}{g:iW}{tb:cD}{pos:Pos}(hp:PassesOwn (model X.prog X.w) X.A X.env X.xe)(hc:X.calm=true)(hi:iV X tg iter ti)(hg:nU X tg g)(hb:jg X body tb)
 (hs:∀x,foldedSetIterable iter X.env x=pure x:=by intro _;rfl):ee X (.For tg iter body [] pos) (JL ti g tb):=by
 intro pins s σ0 H D0 I h;refine ay (Wi hp hc hi hg hb hs pins s σ0 H (Jk X.H₀ D0) I ?_) λf s' h'=>?_
 rotate_left
 . cases f with
   |next=>obtain⟨σ1,H1,I1,H2,t,q⟩:=h';exact⟨σ1,H2,t.inv I1,q⟩
   |brk=>exact h'
   |cont=>exact h'
   |ret v=>obtain⟨x1,σ1,H1,I1,r1,H2,t,q⟩:=h';exact⟨x1,σ1,H2,t.inv I1,r1,q⟩
 obtain⟨σ,M,D,hs,hv,ht,hd⟩:=h;refine⟨σ,M,_,hs,hv,ht,λxs ok un M1 J H1 q e1 v1 hJ=>?_⟩
 have outN:∀{σ4:aY} {M4:RM} {σ04:L2.St} {H4:Hp},(ok M4/\D.nx σ4 (un M4))->Ext H1 H4->View X.K H4 M4->aK X.K H4 σ4 σ04->(Jk X.H₀ D0).nx σ04 H4:=λq4 e4 v4 r4=>by
  obtain⟨H5,t5,e5,x5,v5⟩:=hJ.bY _ _ e4 v4 q4.1;exact⟨H5,t5,hd.nx _ _ _ H5 q4.2 x5 v5 (r4.aR e5)⟩
 refine⟨λi m σ0 H=>m=xs.length-i/\i<=xs.length/\∃σ M,aK X.K H σ σ0/\View X.K H M/\gG g tb D ok un (xs.drop i) σ M/\Ext H1 H,⟨_,rfl,qj _,σ,M1,hs.ext e1,v1,by simpa using q,.refl _⟩,?_⟩
 rintro i m σ0 H ⟨rfl,hi,σ,M,hs,hv,hf,e⟩
 by_cases hlt:i<xs.length
 . have ed:xs.drop i=xs[i]::xs.drop (i+1):=by simp
   rw[ed]at hf;obtain⟨au,hf⟩:=hf;obtain⟨hgo,hy⟩:=hJ.turn i H M e hv au xs[i] (by simp)
   refine .inr ⟨hgo,λσ0 H=>∃σ M,aK X.K H σ σ0/\View X.K H M/\gG g tb D ok un (xs.drop (i+1)) σ M/\Ext H1 H,λσ' H' h=>⟨_,∅,rfl,hlt,h⟩,λx H' y=>?_⟩
   obtain⟨e2,w2,r2⟩:=hy x H' y;refine⟨xs[i],σ,M,_,r2,hs.ext e2,w2 M hv,hf,λσ' M' σ0' H'' q e3 v3 r3=>?_⟩
   have e13:=(e.trans e2).trans e3;refine⟨σ',M',_,r3,v3,q,⟨λσ4 M4 σ04 H4 q4 e4 v4 r4=>⟨σ4,M4,r4,v4,q4,e13.trans e4⟩,λrv M4 v H4 q4 e4 v4 r4=>?_,λσ4 M4 σ04 H4 q4 e4 v4 r4=>outN q4 (e13.trans e4) v4 r4,λσ4 M4 σ04 H4 q4 e4 v4 r4=>⟨σ4,M4,r4,v4,q4,e13.trans e4⟩⟩⟩
   obtain⟨H5,t5,e5,x5,v5⟩:=hJ.bY _ _ (e13.trans e4) v4 q4.1;exact⟨H5,t5,hd.rt _ _ _ H5 q4.2 x5 v5 (Rep.aR e5 _ _ r4)⟩
 . have ei:i=xs.length:=by omega
   subst ei;rw[List.drop_length]at hf;exact .inl ⟨hJ.stop _ H M e hv hf.1 (aS _),outN hf e hv hs⟩
end
theorem Rw{env:Env}:∀(scope:Scope),(∀y∈scope.names,y.2= .free->∃c,env.cells.lookup y.1=some c)->∃cl,closureFor scope env=pure cl/\(∀y c,cl.lookup y=some c->env.cells.lookup y=some c)/\∀y∈scope.names,y.2= .free->∃c,cl.lookup y.1=some c:=by
 intro scope h;have all:∀(l:List (Str×NameKind)) (cs:List (Str×Addr)),(∀y∈l,y.2= .free->∃c,env.cells.lookup y.1=some c)->(∀y c,cs.lookup y=some c->env.cells.lookup y=some c)->
  ∃cl,(forIn l cs λ(x:Str×NameKind) (r:List (Str×Addr))=>(match x with|(name,kind)=>if(kind==NameKind.free)=true then do let c<-cellOf env name;pure (ForInStep.yield ((name,c)::r))else pure (ForInStep.yield r):Sem (ForInStep (List (Str×Addr)))))=(pure cl:Sem _)/\
   (∀y c,cl.lookup y=some c->env.cells.lookup y=some c)/\(∀y c,cs.lookup y=some c->∃c',cl.lookup y=some c')/\∀y∈l,y.2= .free->∃c,cl.lookup y.1=some c:=by
  intro l
  induction l with
  |nil=>intro cs _ h2;exact⟨cs,by simp,h2,λy c e=>⟨c,e⟩,λy hy=>by cases hy⟩
  |cons x l ih=>
   intro cs h1 h2;obtain⟨n,k⟩:=x
   by_cases hk:k= .free
   . subst hk
     obtain⟨c,ec⟩:=h1 (n,.free) iA rfl;have e0:cellOf env n=pure c:=by unfold cellOf;rw[ec]
     obtain⟨cl,e1,e2,e3,e4⟩:=ih ((n,c)::cs) (λy hy=>h1 y (gk _ hy)) (λy d e=>by
      rw[nM]at e;split at e
      . rename_i z;cases e;rw[fW z];exact ec
      . exact h2 y d e)
     refine⟨cl,?_,e2,λy d e=>?_,λy hy hf=>?_⟩
     . rw[rY]
       simp only[beq_self_eq_true,if_true,e0,pure_bind];exact e1
     . by_cases hy:y=n
       . subst hy;exact e3 y c (by simp)
       . exact e3 y d (by rw[nM,mq.mpr hy];exact e)
     . rcases cx.mp hy with rfl|hy
       . exact e3 n c (by simp)
       . exact e4 y hy hf
   . obtain⟨cl,e1,e2,e3,e4⟩:=ih cs (λy hy=>h1 y (gk _ hy)) h2
     have hb:(k==NameKind.free)=false:=by simpa using hk
     refine⟨cl,?_,e2,e3,λy hy hf=>?_⟩
     . rw[rY]
       simp only[hb,jl,if_false,pure_bind];exact e1
     . rcases cx.mp hy with rfl|hy
       . exact bp hf hk
       . exact e4 y hy hf
 obtain⟨cl,e1,e2,_,e4⟩:=all scope.names [] h (λy c e=>by simp at e)
 refine⟨cl,?_,e2,e4⟩;unfold closureFor;have e5:=congrArg (λm=>m >>= λr=>(pure r:Sem (List (Str×Addr)))) e1
 simp only[pure_bind]at e5;rw[<-e5]
noncomputable def fT (env:Env)(p:Str×NameKind):Str×NameKind:=if(p.2==NameKind.free&&env.scope.kind== .function&&env.kindOf p.1==some .cell)then(p.1,NameKind.cell)else(p.1,p.2)
theorem Ta(env:Env)(p:Str×NameKind):(fT env p).1=p.1:=by unfold fT;split<;>rfl
theorem Au(env:Env)(p:Str×NameKind):(fT env p).2=p.2∨((fT env p).2= .cell/\p.2= .free):=by
 unfold fT;split
 . rename_i h
   rw[aU,aU]at h;exact .inr ⟨rfl,fW h.1.1⟩
 . exact .inl rfl
theorem wH{env:Env}{x:Str}:∀{names:List (Str×NameKind)},(names.map (fT env)).lookup x=(names.find? λp=>x==p.1).map λp=>(fT env p).2
 | []=>rfl
 |p::r=>by
  rw[cj,jk];obtain⟨n,k⟩:=p;have e:fT env (n,k)=(n,(fT env (n,k)).2):=Prod.ext (Ta env (n,k)) rfl;rw[e,nM];cases hx:x==n with
  |true=>rfl
  |false=>exact wH
theorem wJ{x:Str}:∀{names:List (Str×NameKind)},names.lookup x=(names.find? λp=>x==p.1).map λp=>p.2
 | []=>rfl
 |(n,k)::r=>by
  rw[nM,jk];cases hx:x==n with
  |true=>rfl
  |false=>exact wJ
theorem Fc{env:Env}{names:List (Str×NameKind)}{x:Str}{k:NameKind}(hc:∀y∈names,y.2≠.cell)(hk:k= .cell∨k= .free)
 (h:(names.map (fT env)).lookup x=some k):names.lookup x=some .free:=by
 rw[wH]at h;rw[wJ];cases e:names.find? λp=>x==p.1 with
 |none=>rw[e]at h;cases h
 |some p=>
  rw[e]at h;have h':(fT env p).2=k:=dP h;have hp:=List.mem_of_find?_eq_some e;show some p.2=some .free;rcases Au env p with z|z
  . rcases hk with rfl|rfl
    . exact bp (z.symm.trans h') (hc p hp)
    . rw[<-h',z]
  . rw[z.2]
theorem Fb{env:Env}{names:List (Str×NameKind)}{x:Str}(h:names.lookup x=some .free):(names.map (fT env)).lookup x=some .cell∨(names.map (fT env)).lookup x=some .free:=by
 rw[wJ]at h;rw[wH];cases e:names.find? λp=>x==p.1 with
 |none=>rw[e]at h;cases h
 |some p=>
  rw[e]at h;have h':p.2= .free:=dP h;show some (fT env p).2=some .cell∨some (fT env p).2=some .free;rcases Au env p with z|z
  . right;rw[z,h']
  . left;rw[z.1]
noncomputable def cQ (X:Cx)(scope:Scope)(cl:List (Str×Addr))(C:Addr)(Nc:az)(s:Shared)(H:Hp)(fp:List Addr):Cx:=
 { X with N:=Nc,s₀:=s,H₀:=H,env:=compEnvC scope cl C X.env,outer:=X.stack,ex:=fp,fn:=λ_=>false,pn:=[],xe:=λ_ _=>False }
theorem Xz{X:Cx}{pins:aG}{σ:L2.St}{H:Hp}{s:Shared}{scope:Scope}{cl:List (Str×Addr)}{C:Addr}{Nc:az}{fp:List Addr}(I:Inv X pins σ H s)(hf:∀b∈fp,ml X pins H b)(hlt:∀b∈fp,b<s.heap.objs.size)
 (bD:scope.kind= .function) (hC:s.heap.objs.size<=C) (h1:∀y c,cl.lookup y=some c->X.env.cells.lookup y=some c) (h2:∀y∈scope.names,y.2= .free->∃c,cl.lookup y.1=some c) (bz:∀y∈scope.names,y.2≠.cell):
 (cQ X scope cl C Nc s H fp).Ok where
 mod:=I.ok.mod
 kind:=bD
 glob:=I.ok.glob
 blt:=I.ok.blt
 above:=hC
 inj:=λx y c e1 e2=>I.ok.inj x y c (h1 x c e1) (h1 y c e2)
 has:=λx hx=>by
  have e:scope.names.lookup x=some .free:=by
   rcases hx with hx|hx
   . exact Fc bz (.inl rfl) hx
   . exact Fc bz (.inr rfl) hx
  exact h2 (x,.free) (PySem.mem_of_lookup e) rfl
 qz:=λx c z=>by cases z
 hd:=I.ok.hd
 frames:=I.ok.frames
 vm:=.inl rfl
 sJ:=λb hb=>⟨λz=>bp (eR (hlt b hb) hC) (by rw[show b=C from z];exact mE _),λx c e=>(hf b hb).2.2.2.2.1 x c (h1 x c e)⟩
 bs:=λb o e=>I.bs b o e
 iY:=bG I.ok.iY I.sz
 g9:=λb o e hb=>by
  rcases(hf b hb).2.2.2.1 with z|z
  . exact I.ok.g9 b o e z
  . exact bp (eR (bE e) (bG I.ok.iY z)) (mE _)
 gQ:=λb hb z=>by
  rcases cx.mp (I.fu b z)with e|e
  . exact(hf b hb).2.1 e
  . exact(hf b hb).2.2.1 e
 dh:=I.stack
 mK:=I.fq
section
variable {prog:Program}{w:World}{A:Around}{R:Result->Shared->Prop}{s:Shared}
abbrev Nv:aP:=λ_ _=>False
noncomputable abbrev Av (ifs:aX) (env:Env):Sem Bool:=forIn ifs true λc r=>if r=true then do let ok<-isTrue c env (eval c env);pure (ForInStep.yield ok)else pure (ForInStep.yield r)
theorem So{elt target iter:Expr}{ifs:aX}{scope:Scope}{pos:Pos}{it acc:Value}{env:Env}(I:Nat->Shared->Prop)
 (turn:∀n s,I n s->wpAny (model prog w) A (pyNext it) (λr s₁=>(r=none/\R (.ok .next) s₁)∨∃v,r=some v/\wpAny (model prog w) A (letOwnedTupleGo target it v) (λ_ s₁'=>wpAny (model prog w) A (assign target env v) (λ_ s₂=>
  wpAny (model prog w) A (Av ifs env) (λok s₃=>
   if ok=true then wpAny (model prog w) A (eval elt env) (λx s₄=>
    wpAny (model prog w) A (call (.builtin "list.append") [acc,x]) (λ_ s₅=>∃m,m<n/\I m s₅) Nv s₄) Nv s₃
   else ∃m,m<n/\I m s₃) Nv s₂) Nv s₁') Nv s₁) Nv s)
 (n:Nat) (h:I n s):
 codeAny (model prog w) A (.compLoop (.ListComp elt [⟨target,iter,ifs,0⟩] scope pos) 0 it acc env) R s:=by
 refine codeAny_loop rfl I (λn s hI=>?_) n h
 show wpAny _ A ((compTurn (.ListComp elt [⟨target,iter,ifs,0⟩] scope pos) 0 it acc env).onRaise (λx=>do noteFrame x env;theTreesLotGoes x)) _ _ s
 refine wpAny_noted ?_;rw[compTurn_list];refine ai (wpAny_standAt (ai (gq (turn n s hI) (λr s₁ h₁=>?_) λ_ _ h'=>h'.elim)))
 rcases h₁ with⟨rfl,h₁⟩|⟨v,rfl,h₁⟩
 . exact aJ h₁
 . refine ai (gq h₁ (λ_ s₁' h₁'=>?_) λ_ _ h'=>h'.elim)
   refine ai (gq h₁' (λ_ s₂ h₂=>ai (gq h₂ (λok s₃ h₃=>?_) λ_ _ h'=>h'.elim)) λ_ _ h'=>h'.elim)
   cases ok with
   |false=>exact aJ ⟨rfl,h₃⟩
   |true=>
    exact ai (ai (gq h₃ (λx s₄ h₄=>ai (gq h₄ (λ_ s₅ h₅=>aJ (aJ ⟨rfl,h₅⟩)) λ_ _ h'=>h'.elim)) λ_ _ h'=>h'.elim))
end
def p5(X:Cx)(ifs:aX)(t:cU):Prop:=
 ∀(pins:aG) (s:Shared) (σ:L2.St) (H:Hp) (Q:Bool->Hp->Prop),Inv X pins σ H s->Cc X.K t σ H Q->wpAny (model X.prog X.w) X.A (Av ifs X.env) (TP X pins σ Q) X.xe s
def Pt:cU:=λ_ M Q=>Q true M
theorem Ou{X:Cx}:p5 X [] Pt:=by
 intro pins s σ0 H Q0 I h;obtain⟨σ,M,Q,hs,hv,ht,hk⟩:=h;exact aJ ⟨H,I,hk true M H ht (.refl H) hv⟩
theorem Ot{X:Cx}{c:Expr}{t:cU}(h:de X c t):p5 X [c] t:=by
 intro pins s σ0 H Q0 I hw;have:=h pins s σ0 H Q0 I hw;unfold Av;rw[rY];simp only[if_true,bind_assoc,pure_bind];refine ai (ay this λb s' q=>?_)
 simp only[List.forIn_nil];exact aJ q
def jA(md:Bool)(acc:LR)(M:RM)(Q:aj):Prop:=match md with
 |true=>∀p,M p=none->Q (.ref p) (put M p (.lst acc))
 |false=>Q (.ls acc) M
noncomputable def fZ (bd:RV->Option (LR))(md:Bool)(ok:RM->Prop)(un:RM->RM)(tt:cU)(te:ak)(base:List (Option RV)):LR->LR->RM->aj->Prop
 | [],acc,M,Q=>ok M/\jA md acc (un M) Q
 |x::xs,acc,M,Q=>ok M/\match bd x with
  |some bs=>tt (bs.map some++base) M λc M1=>(c=true->te (bs.map some++base) M1 λv M2=>fZ bd md ok un tt te base xs (acc++ [v]) M2 Q)/\(c=false->fZ bd md ok un tt te base xs acc M1 Q)
  |none=>False
noncomputable def qY (bd:RV->Option (LR))(md:Bool)(ti:gu)(cap:List Nat)(tt:cU)(te:ak):ak:=λσ M Q=>ti σ M λxs ok un M1=>xs.length<sizeLine/\fZ bd md ok un tt te (cap.map λi=>(σ[i]?).join) xs [] M1 Q
section
variable {X:Cx}
theorem Sq{elt iter tg:Expr}{nm:az}{bd:RV->Option (LR)}{md:Bool}{scope:Scope}{pos:Pos}{ti:gu}{tt:cU}{te:ak}{ifs:aX}(caps:List (Nat×Str)){osc:Scope}{oN:az}
 (hc:X.calm=true) (hi:iV X tg iter ti)
 (hif:∀cl C s H fp,p5 (cQ X scope cl C (nm++caps.map Prod.snd) s H fp) ifs tt)
 (hel:∀cl C s H fp,ah (cQ X scope cl C (nm++caps.map Prod.snd) s H fp) elt te)
 (hX:X.env.scope=osc) (hN:X.N=oN)
 (eZ:∀p∈caps,oN[p.1]? =some p.2/\scope.names.lookup p.2=some .free/\(osc.names.lookup p.2=some .cell∨osc.names.lookup p.2=some .free))
 (ej:∀y∈scope.names,y.2= .free->(osc.names.lookup y.1=some .cell∨osc.names.lookup y.1=some .free))
 (bz:∀y∈scope.names,y.2≠.cell) (bD:scope.kind= .function) (bW:∀y∈scope.names,y.2= .local->scope.names.lookup y.1=some .local)
 (hb:∀r bs,bd r=some bs->bs.length=nm.length)
 (hpg:∀cl C s2 H2 fp (pins':aG) (s6:Shared) (vs0 cv:List (Option V)) (H6:Hp) (rv:RV) (xv:V) (u:Value) (bs:LR) (Q1:Unit->Shared->Prop),vs0.length=nm.length->Inv (cQ X scope cl C (nm++caps.map Prod.snd) s2 H2 fp) pins' (vs0++cv) H6 s6->RelV xv u->Rep X.K H6 rv xv->bd rv=some bs->
  (∀vs s7,aa X.K H6 bs vs->Inv (cQ X scope cl C (nm++caps.map Prod.snd) s2 H2 fp) pins' (vs.map some++cv) H6 s7->Q1 () s7)->wpAny (model X.prog X.w) X.A (assign tg (compEnvC scope cl C X.env) u) Q1 Nv s6)
 (hs:∀v,foldedSetIterable iter X.env v=pure v) {pos':Pos} {pins:aG} {s:Shared} {σ0:L2.St} {H:Hp} {Q0:VK} (I:Inv X pins σ0 H s) (hw:up X.K (qY bd md ti (caps.map Prod.fst) tt te) σ0 H Q0) {use:Option (Value->Sem Unit)} {PP:aP}
 (fin:∀(D C:Addr) (s5:Shared) (m5:bj) (H5:Hp),s5.heap.Ns C m5->(∀h',Heap.SameBut C s5.heap h'->Inv X pins σ0 H5 { s5 with heap:=h' })->Q0 (.ref D) H5->H5 C=none->C≠X.env.locals->X.s₀.heap.objs.size<=C->(∀y c,X.env.cells.lookup y=some c->c≠C)->(∀p∈X.pn++pins,p.1≠C)->compPost (model X.prog X.w) X.A X.xe use PP (.ref D) C (.ok .next) s5):
 wpAny (model X.prog X.w) X.A (comprehension (.ListComp elt [⟨tg,iter,ifs,0⟩] scope pos) scope X.env pos' (newList []) false (eval iter X.env) use) PP X.xe s:=by
 subst hX;subst hN;obtain⟨σ,M,Q,hst,hv,ht,hk⟩:=hw;obtain⟨cl,hclos,hcl1,hcl2⟩:=Rw scope λy hy hf=>I.ok.has y.1 (ej y hy hf)
 refine wpAny_comprehension_free (use:=use) (cl:=cl) rfl hs hclos bD bW ?_;refine gq (hi pins s σ0 H (λJ H1=>∃xs ok un M1,Ext H H1/\View X.K H1 M1/\iq X.H₀ H X.K J xs ok un H1/\xs.length<sizeLine/\fZ bd md ok un tt te ((caps.map Prod.fst).map λi=>(σ[i]?).join) xs [] M1 Q) I ⟨σ,M,_,hst,hv,ht,λxs ok un M' J H' q e w hJ=>⟨xs,ok,un,M',e,w,hJ,q.1,q.2⟩⟩)
  (λv s1 h1=>gq h1 (λitv s2 h2=>?_) λ_ _ e=>e) λ_ _ e=>e
 obtain⟨it,fp,tn,J,H2,rfl,I2,T,st2,f2,xs,ok,un,M1,e2,w2,hJ,hz,hq⟩:=h2;have k9:∀b∈fp,b<s2.heap.objs.size:=λb hb=>by obtain⟨o,e,_⟩:=T.obj _ _ st2 b hb;exact bE e
 refine jC (wpAny_newFunctionEnv bz (by intro y hy;simp at hy) (λh₁ hns₁ hsb₁=>?_) bD)
 dsimp only at hns₁ hsb₁ ⊢;generalize hH2:s2.heap.push { cls:=.type "list",dict:=none,data:=.seq ([]:aq).toArray }=hp2 at hns₁ hsb₁ ⊢;have hCs:hp2.objs.size=s2.heap.objs.size+1:=by rw[<-hH2,Heap.size_push]
 have hDC:s2.heap.objs.size≠hp2.objs.size:=by rw[hCs];exact cS (Nat.lt_succ_self _)
 have hCle:s2.heap.objs.size<=hp2.objs.size:=by rw[hCs];exact Nat.le_succ _
 have old:∀b o,s2.heap.get? b=some o->h₁.get? b=some o:=λb o e=>hsb₁.extBut b o (cS (by rw[hCs];exact Nat.lt_succ_of_lt (bE e))) (bT _ (hH2 ▸ bT _ e))
 have hacc:h₁.get? s2.heap.objs.size=some { cls:=.type "list",data:=.seq ([]:aq).toArray }:=hsb₁.extBut _ _ hDC (bT _ (hH2 ▸ eJ _ rfl));generalize hD:s2.heap.objs.size=D at*;generalize hCg:hp2.objs.size=C at*;have hDfp:∀b∈fp,b≠D:=λb hb=>cS (k9 b hb)
 have okB:(cQ X scope cl C (nm++caps.map Prod.snd) s2 H2 fp).Ok:=Xz I2 f2 (by rw[hD];exact k9) bD (by rw[hD];exact hCle) hcl1 hcl2 bz
 have fr:∀b,D<=b->H2 b=none:=λb hb=>I2.au.fresh (by rw[hD];exact hb)
 have capsV:∃cv:List (Option V),cv.length=caps.length/\(∀(j:Nat) v,cv[j]? =some (some v)->∃p,caps[j]? =some p/\σ0[p.1]? =some (some v))/\
  ∀(j:Nat) r,((caps.map Prod.fst).map λi=>(σ[i]?).join)[j]? =some (some r)->∃v,cv[j]? =some (some v)/\Rep X.K H2 r v:=by
  refine⟨caps.map λp=>(σ0[p.1]?).join,by simp,λj v e=>?_,λj r e=>?_⟩
  . rw[gj]at e
    cases q:caps[j]? with
    |none=>rw[q]at e;cases e
    |some p=>
     rw[q]at e;have e':(σ0[p.1]?).join=some v:=dP e;refine⟨p,rfl,?_⟩;cases z:σ0[p.1]? with
     |none=>rw[z]at e';cases e'
     |some o=>rw[z]at e';have:o=some v:=e';rw[this]
  . rw[gj,gj]at e
    cases q:caps[j]? with
    |none=>rw[q]at e;cases e
    |some p=>
     rw[q]at e;have e':(σ[p.1]?).join=some r:=dP e;have e'':σ[p.1]? =some (some r):=by
      cases z:σ[p.1]? with
      |none=>rw[z]at e';cases e'
      |some o=>rw[z]at e';have:o=some r:=e';rw[this]
     obtain⟨v,h1,h2⟩:=hst.2 p.1 r e'';refine⟨v,?_,Rep.ext e2 r v h2⟩;rw[gj,q];show some ((σ0[p.1]?).join)=_;rw[h1];rfl
 obtain⟨cv,cvl,cv1,cv2⟩:=capsV;have I3:Inv (cQ X scope cl C (nm++caps.map Prod.snd) s2 H2 fp) [(D,{ cls:=.type "list",data:=.seq ([]:aq).toArray })] (List.replicate nm.length none++cv) H2 { s2 with heap:=h₁,toks:=s2.toks+([]:List (Str×Value)).length }:=by
  refine⟨okB,rfl,I2.bare,Un.kept old,⟨_,hns₁,λi y v a b c=>?_⟩,λy c e=>?_,fr C hCle,λy c e=>I2.bL y c (hcl1 y c e),λp hp=>?_,I2.au.kept old,?_⟩
  . by_cases hi0:i<nm.length
    . rw[qi (by rw[zo];exact hi0),List.getElem?_replicate]at b
      split at b<;>cases b
    . obtain⟨j,rfl⟩:=Nat.exists_eq_add_of_le (Nat.le_of_not_lt hi0)
      rw[List.getElem?_append_right (by rw[zo];omega),zo,zm]at b
      have a:(caps.map Prod.snd)[j]? =some y:=by
       have a':(nm++caps.map Prod.snd)[nm.length+j]? =some y:=a;rw[List.getElem?_append_right ∅,zm]at a';exact a'
      obtain⟨p,q1,q2⟩:=cv1 j v b;have hy:p.2=y:=by
       have a':(caps.map Prod.snd)[j]? =some y:=a;rw[gj,q1]at a';exact dP a'
      subst hy;obtain⟨z1,z2,z3⟩:=eZ p (jG q1);obtain⟨m,hn,hl⟩:=I2.loc;have y8:qx X.env.scope p.2:=by rcases z3 with z|z;exact .inr (.inl z);exact .inr (.inr z)
      obtain⟨u,ru,lk⟩:=hl p.1 p.2 v z1 q2 y8;refine⟨u,ru,.inr ⟨Fb z2,?_⟩⟩;obtain⟨c,ec⟩:=hcl2 (p.2,.free) (PySem.mem_of_lookup z2) rfl;have ec':=hcl1 p.2 c ec;rcases lk with⟨k,_⟩|⟨_,c',e',ic⟩
      . have k':X.env.scope.names.lookup p.2=some .local:=k
        rcases z3 with z|z<;>(rw[z]at k';cases k')
      . rw[ec']at e';cases e'
        obtain⟨o,ho,hd⟩:=ic;exact⟨c,ec,o,old c o ho,hd⟩
  . obtain⟨v,o,ho,hd⟩:=I2.cell y c (hcl1 y c e)
    exact⟨v,o,old c o ho,hd⟩
  . have hp':p=(D,{ cls:=.type "list",data:=.seq ([]:aq).toArray }):=by simpa[cQ]using hp
    subst hp';refine⟨hacc,fr D (aS _),hDC,λz=>?_,λv=>by simp⟩
    have:=I2.fq D z;rcases cx.mp (I2.fu D z)with e|e
    . exact bp I2.lt (by rw[<-e,hD];exact mE _)
    . exact I2.sT (by rw[hD];exact aS _) e
  . show(List.replicate nm.length none++cv).length=(nm++caps.map Prod.snd).length
    simp[cvl]
 have W:∀s3:Shared,s3= { s2 with heap:=h₁,toks:=s2.toks+([]:List (Str×Value)).length }->codeAny (model X.prog X.w) X.A (.compLoop (.ListComp elt [⟨tg,iter,ifs,0⟩] scope pos) 0 (.ref it) (.ref D) (compEnvC scope cl C X.env))
  (compPost (model X.prog X.w) X.A X.xe use PP (.ref D) C) s3:=by
  rintro s3 rfl;refine So (λn s'=>∃(i:Nat) (v0:List (Option V)) (H':Hp) (M':RM) (accR:LR) (accV:LV) (ab:aq) (k:Nat),n=xs.length-i/\v0.length=nm.length/\i<=xs.length/\accR.length<=i/\
   Inv (cQ X scope cl C (nm++caps.map Prod.snd) s2 H2 fp) [(D,{ cls:=.type "list",data:=.seq ab.toArray k })] (v0++cv) H' s'/\View X.K H' M'/\Ext H2 H'/\aa X.K H' accR accV/\Vals accV ab/\tn i s'.heap/\(∀b∈fp,H' b=none)/\
   fZ bd md ok un tt te ((caps.map Prod.fst).map λi=>(σ[i]?).join) (xs.drop i) accR M' Q) ?_ xs.length ⟨0,List.replicate nm.length none,H2,M1,[],[],[],0,rfl,by simp,qj _,aS _,I3,w2,.refl _,aa.nil,.nil,T.keep _ _ _ st2 λb _ o e=>old b o e,λb hb=>(f2 b hb).1,by simpa using hq⟩
  rintro n s' ⟨i,v0,H',M',accR,accV,ab,k,rfl,hv0,hi,hal,I4,w4,e4,ra,rl,st4,f4,hq4⟩;have fpB:∀(pins':aG) (H'':Hp),(∀b∈fp,H'' b=none)->(∀p∈pins',∀b∈fp,p.1≠b)->∀b∈fp,ml (cQ X scope cl C (nm++caps.map Prod.snd) s2 H2 fp) pins' H'' b:=λpins' H'' h1 h2 b hb=>
   ⟨h1 b hb,(okB.sJ b hb).1,okB.gQ b hb,.inl hb,(okB.sJ b hb).2,λp hp=>h2 p (by simpa[cQ]using hp) b hb⟩
  have pD:∀(o:Obj),∀p∈[(D,o)],∀b∈fp,p.1≠b:=λo p hp b hb=>by
   have:p=(D,o):=by simpa using hp
   subst this;exact(hDfp b hb).symm
  by_cases hlt:i<xs.length
  . have ed:xs.drop i=xs[i]::xs.drop (i+1):=by simp
    rw[ed]at hq4;obtain⟨au,hq4⟩:=hq4;obtain⟨hgo,hy⟩:=hJ.turn i H' M' e4 w4 au xs[i] (by simp)
    refine ay (T.item (cQ X scope cl C (nm++caps.map Prod.snd) s2 H2 fp) rfl rfl rfl hc i _ s' _ H' Nv I4 (fpB _ _ f4 (pD _)) st4 hgo) λr s5 ⟨u,hr,h5⟩=>.inr ⟨u,hr,?_⟩
    refine ay h5 λ_ s6 zz=>?_;obtain⟨xv,H6,I6,r6,y6,st6,f6⟩:=zz
    obtain⟨e6,w6,rr6⟩:=hy xv H6 y6;have I6':=I6.pinned (fpB _ _ f6 (pD _)) (T.obj _ _ st6);obtain⟨bs,ebs,hq4⟩:∃bs,bd xs[i]=some bs/\tt (bs.map some++(caps.map Prod.fst).map λi=>(σ[i]?).join) M' λc M1=>(c=true->te (bs.map some++(caps.map Prod.fst).map λi=>(σ[i]?).join) M1 λv M2=>fZ bd md ok un tt te ((caps.map Prod.fst).map λi=>(σ[i]?).join) (xs.drop (i+1)) (accR++ [v]) M2 Q)/\(c=false->fZ bd md ok un tt te ((caps.map Prod.fst).map λi=>(σ[i]?).join) (xs.drop (i+1)) accR M1 Q):=by
     split at hq4
     . rename_i bs e;exact⟨bs,e,hq4⟩
     . exact hq4.elim
    refine hpg cl C s2 H2 fp _ s6 v0 cv H6 xs[i] xv u bs _ hv0 I6' r6 rr6 ebs λvs6 s7 rp6 I7=>?_
    have lv6:vs6.length=nm.length:=by rw[<-rp6.length];exact hb _ _ ebs
    have base:∀{Hx:Hp},Ext H6 Hx->aK X.K Hx (bs.map some++(caps.map Prod.fst).map λi=>(σ[i]?).join) (vs6.map some++cv):=λ{Hx} ex=>by
     have lb:=rp6.length;refine⟨by simp[cvl,lb],λj r e=>?_⟩
     by_cases hj:j<bs.length
     . rw[qi (by simpa using hj),gj]at e
       cases q:bs[j]? with
       |none=>rw[q]at e;cases e
       |some r'=>
        rw[q]at e;have:r'=r:=dP (dP e);subst this;obtain⟨v,q1,q2⟩:=rp6.get q;exact⟨v,by rw[qi (by rw[bw];omega),gj,q1];rfl,Rep.ext ex _ _ q2⟩
     . obtain⟨k,rfl⟩:=Nat.exists_eq_add_of_le (Nat.le_of_not_lt hj)
       rw[List.getElem?_append_right (by simp),bw,zm]at e
       obtain⟨v,q1,q2⟩:=cv2 k r e;exact⟨v,by rw[List.getElem?_append_right (by rw[bw];omega),bw,<-lb,zm];exact q1,Rep.ext (e4.trans (e6.trans ex)) r v q2⟩
    have next:∀(M8:RM) (H8:Hp) (s8:Shared) (accR':LR) (accV':LV) (its':aq) (k':Nat),accR'.length<=i+1->
     Inv (cQ X scope cl C (nm++caps.map Prod.snd) s2 H2 fp) ([(D,{ cls:=.type "list",data:=.seq its'.toArray k' })]++m4 fp s6.heap) (vs6.map some++cv) H8 s8->View X.K H8 M8->Ext H6 H8->aa X.K H8 accR' accV'->Vals accV' its'->
     fZ bd md ok un tt te ((caps.map Prod.fst).map λi=>(σ[i]?).join) (xs.drop (i+1)) accR' M8 Q->∃m,m<xs.length-i/\∃(i:Nat) (v0:List (Option V)) (H':Hp) (M':RM) (accR:LR) (accV:LV) (ab:aq) (k:Nat),m=xs.length-i/\v0.length=nm.length/\i<=xs.length/\accR.length<=i/\
     Inv (cQ X scope cl C (nm++caps.map Prod.snd) s2 H2 fp) [(D,{ cls:=.type "list",data:=.seq ab.toArray k })] (v0++cv) H' s8/\View X.K H' M'/\Ext H2 H'/\aa X.K H' accR accV/\Vals accV ab/\tn i s8.heap/\(∀b∈fp,H' b=none)/\
     fZ bd md ok un tt te ((caps.map Prod.fst).map λi=>(σ[i]?).join) (xs.drop i) accR M' Q:=by
     intro M8 H8 s8 accR' accV' its' k' hl' I8 w8 e8 ra' rl' hq8;have keep8:∀b∈fp,∀o,s6.heap.get? b=some o->s8.heap.get? b=some o/\H8 b=none:=λb hb o e=>by
      have:=I8.pin (b,o) (iz _ (iz _ (Aa hb e)));exact⟨this.1,this.2.1⟩
     refine⟨xs.length-(i+1),∅,i+1,vs6.map some,H8,M8,accR',accV',its',k',rfl,by rw[bw];exact lv6,hlt,hl',I8.cX,w8,e4.trans (e6.trans e8),ra',rl',T.keep _ _ _ st6 λb hb o e=>(keep8 b hb o e).1,λb hb=>?_,hq8⟩
     obtain⟨o,e,_⟩:=T.obj _ _ st6 b hb;exact(keep8 b hb o e).2
    refine ay (hif cl C s2 H2 fp _ s7 _ H6 (λoc H8=>∃M8,View X.K H8 M8/\Ext H6 H8/\(oc=true->te (bs.map some++(caps.map Prod.fst).map λi=>(σ[i]?).join) M8 λv M2=>fZ bd md ok un tt te ((caps.map Prod.fst).map λi=>(σ[i]?).join) (xs.drop (i+1)) (accR++ [v]) M2 Q)/\
     (oc=false->fZ bd md ok un tt te ((caps.map Prod.fst).map λi=>(σ[i]?).join) (xs.drop (i+1)) accR M8 Q)) I7 ⟨_,M',_,base (.refl _),w6 M' w4,hq4,λb M8 H8 q e w=>⟨M8,w,e,q.1,q.2⟩⟩) λoc s8 ⟨H8,I8,M8,w8,e8,qt,qf⟩=>?_
    cases oc with
    |false=>
     exact next M8 H8 s8 accR accV ab k ∅ I8 w8 e8 (aa.ext (e6.trans e8) _ _ ra) rl (qf rfl)
    |true=>
     refine ay (hel cl C s2 H2 fp _ s8 _ H8 (λv H9=>∃rv M9,View X.K H9 M9/\Ext H8 H9/\Rep X.K H9 rv v/\fZ bd md ok un tt te ((caps.map Prod.fst).map λi=>(σ[i]?).join) (xs.drop (i+1)) (accR++ [rv]) M9 Q) I8 ⟨_,M8,_,base e8,w8,qt rfl,λrv M9 v H9 q e w r=>⟨rv,M9,w,e,r,q⟩⟩) λy s9 zz=>?_;obtain⟨yv,H9,I9,r9,rv,M9,w9,e9,rr9,hq9⟩:=zz
     have pD9:=I9.pin (D,{ cls:=.type "list",data:=.seq ab.toArray k }) (iz _ (y9 _ iA));have hlen:ab.length<=i:=by rw[<-rl.length,<-ra.length];exact hal
     refine call_meets F.slot_list_append ⟨_,pD9.1,rfl⟩ F.entry_list_append (F.args_list_append_2 _ _) (PySem.list_append D ab.toArray k y (by rw[c7];omega)) ⟨pD9.1,?_⟩
     have q:=PySem.IsL.update pD9.1 (λx_1=>x_1.push y)
     have hpush:ab.toArray.push y=(ab++ [y]).toArray:=by simp
     rw[hpush]at q;obtain⟨k',q⟩:∃k',(s9.heap.update D (Obj.mapSeq λx_1=>x_1.push y)).get? D=some { cls:=.type "list",data:=.seq (ab++ [y]).toArray k' }:=⟨_,q⟩
     have I10:Inv (cQ X scope cl C (nm++caps.map Prod.snd) s2 H2 fp) (m4 fp s6.heap) (vs6.map some++cv) H9 { s9 with heap:=s9.heap.update D (Obj.mapSeq λx_1=>x_1.push y),toks:=s9.toks }:=by
      refine Inv.turned (it:=D) (I9.et λp hp=>I9.pin p (iz _ (iz _ hp))) (λb o hb e=>(Heap.get?_update_other _ _ (bC hb)).trans e) pD9.2.1 pD9.2.2.1 (.inr (by show s2.heap.objs.size<=D;rw[hD];exact aS _)) (λz c e=>?_) λp hp=>?_
      . obtain⟨v,o,ho,hd⟩:=I2.cell z c (hcl1 z c e)
        exact cS (by have:=bE ho;rw[hD]at this;exact this)
      . have hp':p∈m4 fp s6.heap:=by simpa[cQ]using hp
        exact hDfp p.1 (FO hp').1
     have I11:Inv (cQ X scope cl C (nm++caps.map Prod.snd) s2 H2 fp) ([(D,{ cls:=.type "list",data:=.seq (ab++ [y]).toArray k' })]++m4 fp s6.heap) (vs6.map some++cv) H9 { s9 with heap:=s9.heap.update D (Obj.mapSeq λx_1=>x_1.push y),toks:=s9.toks }:=by
      refine I10.et λp hp=>?_
      rcases dM.mp hp with hp|hp
      . have:p=(D,{ cls:=.type "list",data:=.seq (ab++ [y]).toArray k' }):=by simpa using hp
        subst this;exact⟨q,pD9.2.1,pD9.2.2.1,pD9.2.2.2.1,λv=>by simp⟩
      . exact I10.pin p (iz _ hp)
     exact next M9 H9 _ (accR++ [rv]) (accV++ [yv]) (ab++ [y]) k' (by rw[cN,List.length_singleton];omega) I11 w9 (e8.trans e9) ((aa.ext (e6.trans (e8.trans e9)) _ _ ra).append (aa.cons rr9 aa.nil)) (rl.append (.cons r9 .nil)) hq9
  . have ei:i=xs.length:=by omega
    subst ei;refine ay (T.done (cQ X scope cl C (nm++caps.map Prod.snd) s2 H2 fp) rfl rfl rfl hc _ _ s' _ H' Nv I4 (fpB _ _ f4 (pD _)) st4 (hJ.stop _ H' M' e4 w4 (by rw[List.drop_length]at hq4;exact hq4.1) (aS _))) λr s5 ⟨hr,I5⟩=>.inl ⟨hr,?_⟩
    rw[List.drop_length]at hq4;obtain⟨hok4,hq4⟩:=hq4;obtain⟨m5,hn5,_⟩:=I5.loc;have pD5:=I5.pin (D,{ cls:=.type "list",data:=.seq ab.toArray k }) (iz _ iA);have hC5:H' C=none:=I5.free;have lC:X.env.locals<C:=eR I2.lt (by rw[hD];exact hCle)
    obtain⟨HD,oHD,wHD,qHD⟩:∃HD:HO,(∀h':Heap,h'.get? D=some { cls:=.type "list",data:=.seq ab.toArray k }->accV.length<=sizeLine->aB X.prog X.w (upd H' D HD) h' D HD)/\(∀o u,HD= .aV o u->je u=false)/\∃H5,eD X.H₀ (upd H' D HD) H5/\Q0 (.ref D) H5/\H5 C=none:=by
     have keyD:∀(HD:HO),∃H5,eD X.H₀ (upd H' D HD) H5/\H5 C=none/\∃H4,bg H' H4/\Ext H H4/\View X.K H4 (un M')/\H4 D=none/\H5=upd H4 D HD:=λHD=>by
      obtain⟨H4,t4,e4',x4',v4⟩:=hJ.bY H' M' e4 w4 hok4;rcases t4 with h4|⟨d,ob,u,h1,du,h0,rfl⟩
      . rw[h4]at v4 x4'
        exact⟨_,.inl rfl,by rw[aD (bC hDC)];exact hC5,H',(Ext.refl _).w,x4',v4,pD5.2.1,rfl⟩
      . have nd:d≠D:=λz=>by rw[z,pD5.2.1]at h1;cases h1
        have nc:d≠C:=λz=>by rw[z,hC5]at h1;cases h1
        have h1':upd H' D HD d=some (.aV ob u):=by rw[aD nd];exact h1
        have eq:upd (upd H' D HD) d u=upd (upd H' d u) D HD:=by
         funext b;unfold upd
         by_cases b1:b=d
         . subst b1;rw[ar rfl,ag nd,ar rfl]
         . rw[ag b1]
           by_cases b2:b=D
           . rw[ar b2,ar b2]
           . rw[ag b2,ag b2,ag b1]
        exact⟨_,.inr ⟨d,ob,u,h1',du,h0,rfl⟩,by rw[aD nc.symm,aD (bC hDC)];exact hC5,_,e4',x4',v4,by rw[aD nd.symm];exact pD5.2.1,eq⟩
     cases md with
     |false=>
      obtain⟨H5,t5,c5,H4,x4,y4,v4,n4,rfl⟩:=keyD (.aV { cls:=.type "list",data:=.seq ab.toArray k } (.lst accV));exact⟨.aV { cls:=.type "list",data:=.seq ab.toArray k } (.lst accV),λh' e z=>⟨e,z,ab,k,rl,e⟩,λo u z=>by cases z;rfl,_,t5,hk _ _ _ _ hq4 (y4.trans (Ext.new n4)) (v4.new n4) (lS n4 (aa.aR x4 _ _ ra)),c5⟩
     |true=>
      obtain⟨H5,t5,c5,H4,x4,y4,v4,n4,rfl⟩:=keyD (.lst accV);exact⟨.lst accV,λh' e z=>⟨z,ab,k,rl,e⟩,λo u z=>(by cases z),_,t5,hk _ _ _ _ (hq4 D (v4.free n4)) (y4.trans (Ext.new n4)) (v4.cM n4 ⟨accV,rfl,aa.aR (x4.trans (Ext.new n4).w) _ _ ra⟩) (by simp only[Rep]),c5⟩
    obtain⟨H5,t5,q5,c5⟩:=qHD;refine fin D C s5 m5 H5 hn5 (λh' sb=>t5.inv ?_) q5 c5 (Nat.ne_of_gt lC) (bG I2.ok.above (Nat.le_of_lt lC)) (λy c e=>?_) λp hp=>?_
    rotate_left
    . obtain⟨v,o,ho,_⟩:=I2.cell y c e
      exact cS (eR (bE ho) (by rw[hD];exact hCle))
    . exact cS (eR (bE (I2.pin p hp).1) (by rw[hD];exact hCle))
    have hDh:h'.get? D=some { cls:=.type "list",data:=.seq ab.toArray k }:=sb.extBut _ _ hDC pD5.1;have hz':accV.length<=sizeLine:=by rw[<-ra.length];omega
    have hok5:cz X.prog X.w (upd H' D HD) h':=λb u q=>by
     by_cases hb:b=D
     . subst hb;rw[c0]at q;cases q
       exact oHD h' hDh hz'
     . rw[aD hb]at q
       refine(I5.au b u q).eG (λc v hcb e=>sb.extBut c v ?_ e) (λc e=>?_) λc ys e=>?_
       . rcases hcb with rfl|e'
         . exact fb q hC5
         . exact fb e' hC5
       . rw[aD (fb e pD5.2.1)];exact e
       . rw[aD (fb e pD5.2.1)];exact e
    have un5:Un (gX X.stack) fp H2 (upd H' D HD) s2.heap h':=by
     have B:Un (gX X.stack) fp H2 H' s2.heap s5.heap:=I5.base;have nC:∀b o,s2.heap.get? b=some o->b≠C:=λb o e=>cS (eR (bE e) (by rw[hD];exact hCle))
     have nD:∀b o,s2.heap.get? b=some o->b≠D:=λb o e=>cS (by have:=bE e;rw[hD]at this;exact this)
     refine⟨λb o a1 a2 a3 a4=>sb.extBut b o (nC b o a1) (B.keep b o a1 a2 a3 a4),λb o a1 a2 a3 a4=>?_,λb o a1 a2 a4=>?_,λb o a1 a4=>?_,λb ys a=>?_,λb o u a=>?_,λb ps a=>?_⟩
     . obtain⟨sl,e⟩:=B.slot b o a1 a2 a3 a4
       exact⟨sl,sb.extBut b _ (nC b o a1) e⟩
     . rw[aD (nD b o a1)];exact B.free b o a1 a2 a4
     . obtain⟨o',e⟩:=B.there b o a1 a4
       exact⟨o',sb.extBut b o' (nC b o a1) e⟩
     . have e:=B.bb b ys a;rw[aD (fb e pD5.2.1)];exact e
     . have e:=B.aI b o u a;rw[aD (fb e pD5.2.1)];exact e
     . obtain⟨more,e⟩:=B.d7 b ps a;exact⟨more,by rw[aD (fb e pD5.2.1)];exact e⟩
    have I6:Inv X pins σ0 (upd H' D HD) { s5 with heap:=h' }:=I2.sF (ch:=fp) I5.os un5 hok5 I5.bare λb hb=>⟨(f2 b hb).2.2.2.1,(f2 b hb).2.1,(f2 b hb).2.2.2.2.1,(f2 b hb).2.2.2.2.2⟩
    exact I6
 exact codeAny_compStart_list (W _ rfl) (T.self X.A 0 _ _ _ (T.keep _ _ _ st2 λb _ o e=>old b o e) (W _ rfl))
noncomputable def nh:aX->Option (az)
 | []=>some []
 | .Name x _::r=>(nh r).map (x:: ·)
 |_::_=>none
noncomputable def O5 (n:Nat):RV->Option (LR)
 | .tup xs=>if xs.length=n then some xs else none
 |_=>none
noncomputable def P2 (r:RV):Option (LR):=some [r]
theorem GH{es:aX}{xs:az}:∀(es:aX) (xs:az) (j:Nat),nh es=some xs->X.N.Nodup->(∀i x,xs[i]? =some x->X.N[j+i]? =some x)->(∀x∈xs,X.env.scope.names.lookup x=some .local)->nT X es (mn (List.range' j xs.length))/\(assignEach es X.env).length=xs.length/\(assignEach es X.env).findIdx? (·.1)=none
 | [],xs,j,h,_,_,_=>by cases h;exact⟨Hc,rfl,rfl⟩
 |e::r,xs,j,h,jr,hN,hl=>by
  cases e<;>first|(cases h;done)|skip
  rename_i x p;cases e:nh r with
  |none=>simp only[nh,e]at h;cases h
  |some ys=>
   simp only[nh,e]at h;cases h;obtain⟨a,b,c⟩:=GH (es:=es) (xs:=xs) r ys (j+1) e jr (λi y hy=>by have:=hN (i+1) y (by simpa using hy);rw[<-this];congr 1;omega) λy hy=>hl y (gk _ hy)
   have hx:=hl x iA;have hd:(assignEach (.Name x p::r) X.env)=(false,assign (.Name x p) X.env)::assignEach r X.env:=rfl;refine⟨?_,by rw[hd,List.length_cons,b];rfl,?_⟩
   . rw[List.length_cons,List.range'_succ]
     exact GA (xG (i:=j) jr (by simpa using hN 0 x rfl) (.inl hx) (.inr hx)) a
   . rw[hd,List.findIdx?_cons,c];rfl
theorem Hz{H:Hp}{Q:L2.St->Hp->Prop}:∀(vs:LV) (pre vs0 cv:List (Option V)),vs0.length=vs.length->Q (pre++(vs.map some++cv)) H->mn (List.range' pre.length vs.length) vs (pre++(vs0++cv)) H Q
 | [],pre,vs0,cv,h,q=>by
  have:vs0= []:=List.eq_nil_of_length_eq_zero h;subst this;exact⟨rfl,q⟩
 |v::vs,pre,vs0,cv,h,q=>by
  cases vs0 with
  |nil=>cases h
  |cons o r=>
   rw[List.length_cons,List.range'_succ];refine⟨v,vs,rfl,?_⟩;show mn _ vs ((pre++(o::r++cv)).set pre.length (some v)) H Q;have e:(pre++(o::r++cv)).set pre.length (some v)=(pre++ [some v])++(r++cv):=by simp
   rw[e];have:=Hz (H:=H) (Q:=Q) vs (pre++ [some v]) r cv (by simpa using h) (by simpa using q)
   simpa using this
def uZ(tup:Bool)(tg:Expr)(nm:az):Prop:=match tup,tg with
 |false,.Name x _=>nm= [x]
 |true,.Tuple es _ _=>nh es=some nm
 |_,_=>False
noncomputable def gh (tup:Bool)(n:Nat):RV->Option (LR):=match tup with
 |true=>O5 n
 |false=>P2
theorem Gp{elt iter tg:Expr}{nm:az}{tup md:Bool}{scope:Scope}{pos:Pos}{ti:gu}{tt:cU}{te:ak}{ifs:aX}(caps:List (Nat×Str)){osc:Scope}{oN:az}(htg:uZ tup tg nm)
 (hc:X.calm=true) (hi:iV X tg iter ti)
 (hif:∀cl C s H fp,p5 (cQ X scope cl C (nm++caps.map Prod.snd) s H fp) ifs tt)
 (hel:∀cl C s H fp,ah (cQ X scope cl C (nm++caps.map Prod.snd) s H fp) elt te)
 (hX:X.env.scope=osc) (hN:X.N=oN)
 (eZ:∀p∈caps,oN[p.1]? =some p.2/\scope.names.lookup p.2=some .free/\(osc.names.lookup p.2=some .cell∨osc.names.lookup p.2=some .free))
 (ej:∀y∈scope.names,y.2= .free->(osc.names.lookup y.1=some .cell∨osc.names.lookup y.1=some .free))
 (bz:∀y∈scope.names,y.2≠.cell) (bD:scope.kind= .function) (bW:∀y∈scope.names,y.2= .local->scope.names.lookup y.1=some .local) (hx:∀x∈nm,scope.names.lookup x=some .local) (jr:(nm++caps.map Prod.snd).Nodup)
 (hs:∀v,foldedSetIterable iter X.env v=pure v) {pos':Pos} {pins:aG} {s:Shared} {σ0:L2.St} {H:Hp} {Q0:VK} (I:Inv X pins σ0 H s) (hw:up X.K (qY (gh tup nm.length) md ti (caps.map Prod.fst) tt te) σ0 H Q0) {use:Option (Value->Sem Unit)} {PP:aP}
 (fin:∀(D C:Addr) (s5:Shared) (m5:bj) (H5:Hp),s5.heap.Ns C m5->(∀h',Heap.SameBut C s5.heap h'->Inv X pins σ0 H5 { s5 with heap:=h' })->Q0 (.ref D) H5->H5 C=none->C≠X.env.locals->X.s₀.heap.objs.size<=C->(∀y c,X.env.cells.lookup y=some c->c≠C)->(∀p∈X.pn++pins,p.1≠C)->compPost (model X.prog X.w) X.A X.xe use PP (.ref D) C (.ok .next) s5):
 wpAny (model X.prog X.w) X.A (comprehension (.ListComp elt [⟨tg,iter,ifs,0⟩] scope pos) scope X.env pos' (newList []) false (eval iter X.env) use) PP X.xe s:=by
 refine Sq (bd:=gh tup nm.length) (md:=md) (nm:=nm) caps hc hi hif hel hX hN eZ ej bz bD bW (λr bs e=>?_) (λcl C s2 H2 fp pins' s6 vs0 cv H6 rv xv u bs Q1 hl I6 r6 rr6 eb hQ=>?_) hs I hw fin
 . cases tup with
   |false=>
    cases tg<;>first|(exact False.elim htg)|skip
    have htg:nm=_:=htg;subst htg;cases e;rfl
   |true=>
    cases r<;>first|(cases(show none=some bs from e))|skip
    rename_i xs;have e':(if xs.length=nm.length then some xs else none)=some bs:=e
    split at e'
    . rename_i hh;cases e';exact hh
    . cases e'
 . have hls:∀x∈nm,(cQ X scope cl C (nm++caps.map Prod.snd) s2 H2 fp).env.scope.names.lookup x=some .local:=λx h=>lookup_relabel_local (hx x h)
   cases tup with
   |false=>
    cases tg<;>first|(exact False.elim htg)|skip
    rename_i x px;have htg:nm=_:=htg;subst htg;cases eb;obtain⟨v0,rfl⟩:=List.length_eq_one_iff.mp hl;have hx0:=hls x (by simp)
    refine ay (xG (X:=cQ X scope cl C (x::caps.map Prod.snd) s2 H2 fp) (i:=0) jr rfl (.inl hx0) (.inr hx0) _ s6 _ H6 xv u (λσ' H'=>σ'=(some xv::cv)/\H'=H6) I6 r6 ⟨rfl,rfl⟩) λ_ s7 h7=>?_
    obtain⟨σ7,H7,I7,q7,q7'⟩:=h7;subst q7 q7';exact hQ [xv] s7 (aa.cons rr6 aa.nil) I7
   |true=>
    cases tg<;>first|(exact False.elim htg)|skip
    rename_i es tk tp;have htg:nh es=some nm:=htg;cases rv<;>first|(cases(show none=some bs from eb))|skip
    rename_i xs;have e':(if xs.length=nm.length then some xs else none)=some bs:=eb
    split at e'
    . rename_i hh;cases e'
      simp only[Rep]at rr6;obtain⟨pa,pvs,rfl,sq6,rp6⟩:=rr6;have hlen:pvs.length=nm.length:=by rw[<-rp6.length];exact hh
      obtain⟨g1,g2,g3⟩:=GH (X:=cQ X scope cl C (nm++caps.map Prod.snd) s2 H2 fp) (es:=es) (xs:=nm) es nm 0 htg jr (λi x e=>by
       show(nm++caps.map Prod.snd)[0+i]? =some x;rw[iy,qi (jE.mp e).1];exact e) hls
      have pg:PG (cQ X scope cl C (nm++caps.map Prod.snd) s2 H2 fp) (.Tuple es tk tp) (Di X.K nm.length (mn (List.range' 0 nm.length))):=IK (n:=nm.length) hc g1 g2 g3;refine ay (pg _ s6 _ H6 _ u (λσ' H'=>σ'=(pvs.map some++cv)/\H'=H6) I6 r6 ⟨pa,pvs,rfl,bP.of sq6,hlen,?_⟩) λ_ s7 h7=>?_
      . have:=Hz (H:=H6) (Q:=λσ' H'=>σ'=(pvs.map some++cv)/\H'=H6) pvs [] vs0 cv (by rw[hlen];exact hl) ⟨rfl,rfl⟩
        rw[hlen]at this;exact this
      . obtain⟨σ7,H7,I7,q7,q7'⟩:=h7
        subst q7 q7';exact hQ pvs s7 rp6 I7
    . cases e'
end
noncomputable def eO:RV->Option Key
 | .int i=>some (.inl i)
 | .str x=>some (.inr x)
 |_=>none
noncomputable def dm {α:Type}(kvs:List (Key×α))(k:Key):Option α:=(kvs.find? λp=>decide (p.1=k)).map (·.2)
theorem pq{K:ae}{H:Hp}{a:RV}{x:V}{k:Key}(e:eO a=some k)(r:Rep K H a x):x=kV k:=by
 cases a with
 |int i=>cases e;simp only[Rep]at r;exact r
 |str y=>cases e;simp only[Rep]at r;exact r
 |_=>cases e
theorem wY{K:ae}{H:Hp}{k:Key}:∀{kvs:bH} {ws:List (Key×V)},aF K H kvs ws->(∀r,dm kvs k=some r->∃v,fA ws k=some v/\Rep K H r v)/\(dm kvs k=none->fA ws k=none)
 | [],ws,h=>by
  have h:ws= []:=h;subst h;exact⟨λr e=>(by cases e),λ_=>rfl⟩
 |(j,x)::t,ws,h=>by
  obtain⟨v,u,rfl,h1,h2⟩:=h;have ih:=wY (k:=k) h2;unfold dm;rw[jk]
  by_cases hj:j=k
  . rw[eI (show(j,x).1=k from hj)]
    refine⟨λr e=>⟨v,ux (p:=(j,v)) hj,?_⟩,λe=>(by cases e)⟩
    cases e;exact h1
  . rw[fH (show ¬(j,x).1=k from hj)]
    refine⟨λr e=>?_,λe=>?_⟩
    . rw[pf (p:=(j,v)) hj];exact ih.1 r e
    . rw[pf (p:=(j,v)) hj];exact ih.2 e
structure KTab(P:Program)(w:World)(K:ae)(mg:bj)(x:Str)(kvs:bH):Prop where
 ex:∃(a:Addr) (vs:List (Key×Value)) (ws:List (Key×V)),mg x=some (.ref a)/\(a==sysModules)=false/\(∀h:Heap,K.In h->h.DictOf (dW P w) a vs)/\KV ws vs/\∀H,aF K H kvs ws
noncomputable def uY (w:World):List DictEntry->List (Str×Value)->Prop
 | [],[]=>True
 |e::es,(x,v)::r=>(∃t,e.key= .str x t)/\e.hash=hashStr w x/\e.val=v/\uY w es r
 |_,_=>False
theorem Ft{P:Program}{w:World}:∀{es:List DictEntry} {vs:List (Str×Value)},uY w es vs->
 (∀e∈es,∃k,(dW P w).is k e.key=true/\e.hash=(dW P w).hash k)/\Pairs (dW P w) es (vs.map λp=>((Sum.inr p.1:Key),p.2))
 | [],[],_=>⟨λ_ h=>(by cases h),Pairs.nil⟩
 |e::es,(x,v)::r,h=>by
  obtain⟨⟨t,h1⟩,h2,h3,h4⟩:=h;obtain⟨ih1,ih2⟩:=Ft (P:=P) (w:=w) h4;have hi:(dW P w).is (.inr x) e.key=true:=by rw[h1];exact Fo P w x t
  refine⟨λe' he=>?_,?_⟩
  . rcases cx.mp he with rfl|he
    . exact⟨.inr x,hi,h2⟩
    . exact ih1 e' he
  . subst h3
    exact Pairs.cons hi rfl ih2
theorem FP:∀{l:az},l.Nodup->(l.map (Sum.inr:Str->Key)).Nodup
 | [],_=>jI
 |a::r,h=>by
  obtain⟨h1,h2⟩:=fV.mp h;rw[cj];refine fV.mpr ⟨λm=>?_,FP h2⟩
  obtain⟨b,hb,e⟩:=aW.mp m;cases e;exact h1 hb
theorem HF{P:Program}{w:World}{K:ae}{mg:bj}{x:Str}{a:Addr}{es:Array DictEntry}{ep:Nat}{sl:Array (cI)}{vs:List (Str×Value)}{kvs:bH}{ws:List (Key×V)}
 (hm:mg x=some (.ref a)) (l:K.lookup a=some ⟨.type "dict",none,.dict es ep,sl⟩) (ha:(a==sysModules)=false) (hr:uY w es.toList vs) (hn:(vs.map Prod.fst).Nodup)
 (hsl:Obj.ExactDict ⟨.type "dict",none,.dict es ep,sl⟩) (hk:KV ws (vs.map λp=>((Sum.inr p.1:Key),p.2))) (hp:∀H,aF K H kvs ws):KTab P w K mg x kvs:=by
 obtain⟨h1,h2⟩:=Ft (P:=P) hr;refine⟨a,_,ws,hm,ha,λh X=>⟨_,es,ep,X _ _ l,hsl,rfl,λe he=>h1 e (by simpa using he),h2,?_⟩,hk,hp⟩
 have:(vs.map λp=>((Sum.inr p.1:Key),p.2)).map (·.1)=(vs.map Prod.fst).map Sum.inr:=by simp[cE,Function.comp_def]
 rw[this];exact FP hn
section
variable {X:Cx}
noncomputable def yC (kvs:bH)(te:ak):ak:=λσ M Q=>te σ M λk M1=>match eO k with
 |some key=>(match dm kvs key with|some v=>Q v M1|none=>False)
 |none=>False
theorem OF{x:Str}{kvs:bH}{e:Expr}{te:ak}{p pos:Pos}(T:KTab X.prog X.w X.K X.mg x kvs)(he:ah X e te)(hs:yQ e:=by intro _ _;rfl)(hg:Gl X x:=by rfl)(hd:(x==("__debug__":Str))=false:=by decide):
 ah X (.Subscript (.Name x p) e pos) (yC kvs te):=by
 obtain⟨a,vs,ws,hm,ha,hD,hk,hr⟩:=T.ex;intro pins s σ0 H Q0 I h;obtain⟨σ,M,Q,hs',hv,ht,hq⟩:=h;refine GV PySem.F.slot_dict_getitem.lookup hs (mP I hg hm (ay (he pins s σ0 H (λv H1=>∃r M1,Rep X.K H1 r v/\Ext H H1/\View X.K H1 M1/\(match eO r with
  |some key=>(match dm kvs key with|some v=>Q v M1|none=>False)
  |none=>False)) I ⟨σ,M,_,hs',hv,ht,λr M1 v H1 q e w r1=>⟨r,M1,r1,e,w,q⟩⟩) λiv s2 ⟨y,H2,I2,ry,r,M2,rr,e2,w2,q2⟩=>?_) hd)
 have dd:=hD _ I2.dj;refine⟨dd.typeIs,?_⟩;cases ek:eO r with
 |none=>rw[ek]at q2;exact q2.elim
 |some key=>
  rw[ek]at q2;simp only at q2;cases el:dm kvs key with
  |none=>rw[el]at q2;exact q2.elim
  |some rv=>
   rw[el]at q2;simp only at q2;obtain⟨v,e1,r1⟩:=(wY (k:=key) (hr H2)).1 rv el;have:=pq ek rr;subst this;obtain⟨w',hw,rw'⟩:=bK.some_of (v:=v) (o:=valueAt vs key) (by rw[<-e1];exact hk.val key)
   exact wpAny_getItem_of (jd ry) dd.mapOf hw ⟨v,H2,I2.tok _,rw',hq rv M2 v H2 q2 e2 w2 r1⟩
noncomputable def AU (neg:Bool)(kvs:bH)(te:ak):ak:=λσ M Q=>te σ M λk M1=>match eO k with
 |some key=>Q (.bl (if neg then !(dm kvs key).isSome else(dm kvs key).isSome)) M1
 |none=>False
theorem zW{K:ae}{H:Hp}{kvs:bH}{ws:List (Key×V)}{vs:List (Key×Value)}{key:Key}(hk:KV ws vs)(hr:aF K H kvs ws):(valueAt vs key).isSome=(dm kvs key).isSome:=by
 rw[<-(hk.val key).ba];cases el:dm kvs key with
 |none=>rw[(wY (k:=key) hr).2 el];rfl
 |some rv=>obtain⟨v,e1,_⟩:=(wY (k:=key) hr).1 rv el;rw[e1];rfl
theorem QW{x:Str}{kvs:bH}{e:Expr}{te:ak}{p:Pos}{op:CmpOp}{neg:Bool}(T:KTab X.prog X.w X.K X.mg x kvs)(he:ah X e te)(hop:(op= .In/\neg=false)∨(op= .NotIn/\neg=true))(hg:Gl X x)(hd:(x==("__debug__":Str))=false):
 PC X op e (.Name x p) (up X.K (AU neg kvs te)):=by
 obtain⟨a,vs,ws,hm,ha,hD,hk,hr⟩:=T.ex;intro pins s σ0 H Q0 I h;obtain⟨σ,M,Q,hs',hv,ht,hq⟩:=h;refine ay (he pins s σ0 H (λv H1=>∃r M1,Rep X.K H1 r v/\Ext H H1/\View X.K H1 M1/\(match eO r with
  |some key=>Q (.bl (if neg then !(dm kvs key).isSome else(dm kvs key).isSome)) M1
  |none=>False)) I ⟨σ,M,_,hs',hv,ht,λr M1 v H1 q e w r1=>⟨r,M1,r1,e,w,q⟩⟩) λiv s2 ⟨y,H2,I2,ry,r,M2,rr,e2,w2,q2⟩=>?_
 refine mP I2 hg hm ?_ hd;have dd:=hD _ I2.dj;cases ek:eO r with
 |none=>rw[ek]at q2;exact q2.elim
 |some key=>
  rw[ek]at q2;simp only at q2;have:=pq ek rr;subst this;rcases hop with⟨rfl,rfl⟩|⟨rfl,rfl⟩
  . refine wpAny_in_of (jd ry) ha dd.mapOf ?_
    rw[zW hk (hr H2)];exact⟨.bl (dm kvs key).isSome,H2,I2.tok _,rfl,hq _ M2 _ H2 q2 e2 w2 (by simp only[Rep];rfl)⟩
  . refine wpAny_notIn_of (jd ry) ha dd.mapOf ?_
    rw[zW hk (hr H2)];exact⟨.bl (!(dm kvs key).isSome),H2,I2.tok _,rfl,hq _ M2 _ H2 q2 e2 w2 (by simp only[Rep];rfl)⟩
theorem U8{x:Str}{kvs:bH}{e:Expr}{te:ak}{p pos:Pos}(T:KTab X.prog X.w X.K X.mg x kvs)(he:ah X e te)(hg:Gl X x:=by rfl)(hd:(x==("__debug__":Str))=false:=by decide)(h1:behindInMarks .In (Expr.Name x p)=false:=by with_unfolding_all rfl):
 de X (.Compare e [.In] [.Name x p] pos) (jw (AU false kvs te)):=PT.imp (xW (QW T he (.inl ⟨rfl,rfl⟩) hg hd) h1) λσ0 H Q0 h=>by
 obtain⟨σ,M,Q,hs,hv,ht,hk⟩:=h;exact⟨σ,M,_,hs,hv,ht,mM hk⟩
noncomputable def drop (M:RM)(p:Addr):RM:=λb=>if b=p then none else M b
noncomputable def wk (l:List (Str×Int)):bH:=l.map λp=>((Sum.inr p.1:Key),RV.int p.2)
noncomputable def Cg (l:List (Str×Int)):List (Key×V):=l.map λp=>((Sum.inr p.1:Key),V.int p.2)
theorem HY{K:ae}{H:Hp}:∀l:List (Str×Int),aF K H (wk l) (Cg l)
 | []=>rfl
 |p::r=>⟨V.int p.2,Cg r,rfl,by simp only[Rep],HY r⟩
end
theorem Y7{P:Program}{w:World}{K:ae}{mg:bj}{base:Heap}{x qual:Str}{st:Stmt}{f:Addr}{fd:FuncData}{N ps:az}{k:Nat}{sp:bO}{t:cD}(F:sh K x qual st f fd)(S:qW N ps (fz st))
 (len:∀rs M Q,sp rs M Q->rs.length=ps.length)
 (term:∀(cdv:Value),fd.code=cdv->∀(A:Around) (outer:List Env) (s:Shared) (H:Hp) (E:XK),aH k (A.deeper (envOfC qual (fz st) s.heap.objs.size f cdv))->jg (nq eS P w K mg base N qual (fz st) f cdv A outer s H E).qG (pA st) t)
 (body:∀rs M Q,sp rs M Q->t { nx:=λ_ M'=>Q .ao M',rt:=Q } (iK N rs) M):c6 P w K mg base eS (k+1) f fd ps (fm K sp):=by
 refine F.ok S (λvs H Q0 E h=>?_) λcdv hcd A outer s H vs Q0 E hr h=>?_
 . obtain⟨rs,M,Q,rr,hv,hq,hk⟩:=h
   rw[<-rr.length];exact len rs M Q hq
 . obtain⟨rs,M,Q,rr,hv,hq,hk⟩:=h
   refine⟨_,term cdv hcd A outer s H E hr,iK N rs,M,{ nx:=λ_ M'=>Q .ao M',rt:=Q },Ro rr,hv,body rs M Q hq,⟨λσ M' σ0 H' q e w r=>hk .ao M' .ao H' q e w (by simp only[Rep]),hk,λ_ _ _ _ z=>z.elim,λ_ _ _ _ z=>z.elim⟩⟩
theorem Xw:bootBuiltins "len" =some (.builtin "len"):=by decide+kernel
theorem Qs:bootBuiltins "isinstance" =some (.builtin "isinstance"):=by decide+kernel
theorem Xu:bootBuiltins "ord" =some (.builtin "ord"):=by decide+kernel
theorem Xy:bootBuiltins "all" =some (.builtin "all"):=by decide+kernel
theorem T1:bootBuiltins "tuple" =some (.type "tuple"):=by decide+kernel
theorem HP:bootBuiltins "list" =some (.type "list"):=by decide+kernel
theorem Xx:bootBuiltins "int" =some (.type "int"):=by decide+kernel
theorem Vt:bootBuiltins "bool" =some (.type "bool"):=by decide+kernel
theorem pG:bootBuiltins "str" =some (.type "str"):=by decide+kernel
section
variable {X:Cx}{pos:Pos}
theorem U7(hm:X.mg "int" =none)(hg:Gl X "int":=by rfl):ah X (.Name "int" pos) (rC (.ty "int")):=uS hm Xx (v:=.ty "int") rfl (λH=>by simp only[Rep]) hg
theorem S9(hm:X.mg "bool" =none)(hg:Gl X "bool":=by rfl):ah X (.Name "bool" pos) (rC (.ty "bool")):=uS hm Vt (v:=.ty "bool") rfl (λH=>by simp only[Rep]) hg
theorem U6(hm:X.mg "str" =none)(hg:Gl X "str":=by rfl):ah X (.Name "str" pos) (rC (.ty "str")):=uS hm pG (v:=.ty "str") rfl (λH=>by simp only[Rep]) hg
theorem Sd(hm:X.mg "tuple" =none)(hg:Gl X "tuple":=by rfl):ah X (.Name "tuple" pos) (rC (.ty "tuple")):=uS hm T1 (v:=.ty "tuple") rfl (λH=>by simp only[Rep]) hg
theorem S8(hm:X.mg "list" =none)(hg:Gl X "list":=by rfl):ah X (.Name "list" pos) (rC (.ty "list")):=uS hm HP (v:=.ty "list") rfl (λH=>by simp only[Rep]) hg
def BS(mg:bj)(x:Str)(i:Int):Prop:=∃t,mg x=some (.int i t)
theorem ZQ{x:Str}{i:Int}(h:BS X.mg x i)(hg:Gl X x:=by rfl)(hd:(x==("__debug__":Str))=false:=by decide):ah X (.Name x pos) (rC (.int i)):=by
 obtain⟨t,hm⟩:=h;exact Jg hm (v:=.int i) ⟨t,rfl⟩ (λH=>by simp only[Rep]) hg hd
def vh(K:ae)(a:Addr)(ss:az):Prop:=∃(o:Obj) (ab:Array Value) (n:Nat),K.lookup a=some o/\o.cls= .type "tuple"/\o.data= .seq ab n/\ab.size<=sizeLine/\Vals (ss.map V.str) ab.toList
def rT(K:ae)(mg:bj)(x:Str)(ss:az):Prop:=∃a,mg x=some (.ref a)/\vh K a ss
def Mz(K:ae)(ss:az):ak:=λ_ M Q=>∀p,vh K p ss->Q (.ref p) M
theorem MI{x:Str}{ss:az}(h:rT X.K X.mg x ss)(hg:Gl X x:=by rfl)(hd:(x==("__debug__":Str))=false:=by decide):ah X (.Name x pos) (Mz X.K ss):=by
 obtain⟨a,hm,hr⟩:=h;refine PE.imp (Jg (r:=.ref a) hm (v:=.ref a) rfl (λH=>by simp only[Rep]) hg hd) λσ0 H Q0 h=>?_
 obtain⟨σ,M,Q,hs,hv,ht,hk⟩:=h;exact⟨σ,M,Q,hs,hv,ht a hr,hk⟩
end
theorem Uz{K:ae}{mg:bj}{x:Str}{a:Addr}{ss:az}{ab:Array Value}{n:Nat}{d:Option Addr}{sl:Array (cI)}(hm:mg x=some (.ref a))(l:K.lookup a=some ⟨.type "tuple",d,.seq ab n,sl⟩)(hz:ab.size<=sizeLine)
 (hv:Vals (ss.map V.str) ab.toList):rT K mg x ss:=⟨a,hm,_,ab,n,l,rfl,rfl,hz,hv⟩
structure ID(N:az)(sc:Scope):Prop where
 nd:N.Nodup
 loc:∀x∈N,sc.names.lookup x=some .local∨sc.names.lookup x=some .cell
 iE:∀x∈N,(x==("__debug__":Str))=false/\(x==("__classdict__":Str))=false
section
variable {X:Cx}{x:Str}{pos pos':Pos}
structure MW(X:Cx):Prop where
 y8:∀x∈X.N,qx X.env.scope x
 iE:∀x∈X.N,(x==("__debug__":Str))=false/\(x==("__classdict__":Str))=false
theorem Nn{scope:Scope}{cl:List (Str×Addr)}{C:Addr}{Nc:az}{s:Shared}{H:Hp}{fp:List Addr}(h:scope.names.lookup x=some .globalImplicit):Gl (cQ X scope cl C Nc s H fp) x:=by
 show(scope.names.map (fT X.env)).lookup x=_;rw[wH];rw[wJ]at h;cases e:scope.names.find? λp=>x==p.1 with
 |none=>rw[e]at h;cases h
 |some p=>
  rw[e]at h;have h':p.2= .globalImplicit:=dP h;show some (fT X.env p).2=_;rcases Au X.env p with z|z
  . rw[z,h']
  . rw[h']at z;cases z.2
end
noncomputable def A0 (w:World):List DictEntry->List (Str×Int)->Prop
 | [],[]=>True
 |e::es,(x,i)::r=>(∃t,e.key= .str x t)/\e.hash=hashStr w x/\(∃t,e.val= .int i t)/\A0 w es r
 |_,_=>False
theorem IW{w:World}:∀{es:List DictEntry} {l:List (Str×Int)},A0 w es l->∃vs:List (Str×Value),uY w es vs/\vs.map Prod.fst=l.map Prod.fst/\KV (Cg l) (vs.map λp=>((Sum.inr p.1:Key),p.2))
 | [],[],_=>⟨[],trivial,rfl,.nil⟩
 |e::es,(x,i)::r,h=>by
  obtain⟨h1,h2,⟨t,h3⟩,h4⟩:=h;obtain⟨vs,a,b,c⟩:=IW h4;exact⟨(x,.int i t)::vs,⟨h1,h2,h3,a⟩,by simp[b],.cons ⟨rfl,t,rfl⟩ c⟩
theorem Ui{P:Program}{w:World}{K:ae}{mg:bj}{x:Str}{a:Addr}{es:Array DictEntry}{ep:Nat}{l:List (Str×Int)}
 (hm:mg x=some (.ref a)) (lk:K.lookup a=some ⟨.type "dict",none,.dict es ep,#[]⟩) (ha:(a==sysModules)=false) (hr:A0 w es.toList l) (hn:(l.map Prod.fst).Nodup):KTab P w K mg x (wk l):=by
 obtain⟨vs,h1,h2,h3⟩:=IW hr;exact HF hm lk ha h1 (by rw[h2];exact hn) ⟨rfl,rfl,rfl⟩ h3 λH=>HY l
theorem HS{h:Heap}{e:Value->Bool}{p:RV->Bool}:∀{xs:LR} {us:aq},aw h xs us->(∀x∈xs,∀u,Den h x u->e u=p x)->us.any e=xs.any p
 | [],us,d,_=>by simp only[aw]at d;subst d;rfl
 |x::xs,us,d,k=>by
  simp only[aw]at d;obtain⟨u,r,rfl,d1,d2⟩:=d;rw[nO,nO,k x iA u d1,HS d2 λy hy=>k y (gk _ hy)]
theorem Hm{h:Heap}:∀{xs:LR} {us:aq},aw h xs us->∀u∈us,∃x∈xs,Den h x u
 | [],us,d,u,hu=>by simp only[aw]at d;subst d;cases hu
 |x::xs,us,d,u,hu=>by
  simp only[aw]at d;obtain⟨w,r,rfl,d1,d2⟩:=d;rcases cx.mp hu with rfl|hu
  . exact⟨x,iA,d1⟩
  . obtain⟨y,hy,dy⟩:=Hm d2 u hu
    exact⟨y,gk _ hy,dy⟩
open Classical in
noncomputable def mJ (h:Heap)(a:RV)(w:Value):Bool:=if q:∃r,aA 15 r=true/\Den h r w then bq (choose q) a else false
theorem Iq{h:Heap}{a x:RV}{u:Value}(o:aA 15 x=true)(d:Den h x u):mJ h a u=bq x a:=by
 have q:∃r,aA 15 r=true/\Den h r u:=⟨x,o,d⟩;unfold mJ;rw[dif_pos q];have e:=AB 15 _ x u (Classical.choose_spec q).1 o (Classical.choose_spec q).2 d;rw[e]
noncomputable def inR (x:RV)(xs:LR):Bool:=xs.any λy=>bq y x
noncomputable def yp (neg:Bool):cb:=λx y M Q=>match y with
 | .tup xs=>aA 15 x=true/\xs.all (aA 15)=true/\Q (.bl (if neg then !inR x xs else inR x xs)) M
 | .ls xs=>aA 15 x=true/\xs.all (aA 15)=true/\Q (.bl (if neg then !inR x xs else inR x xs)) M
 |_=>False
section
variable {X:Cx}
theorem uw{s:Shared}{A:Around}{xs:LR}{ab:aq}{a:RV}{v:Value}(hu:A.units+15<cLine)(os:xs.all (aA 15)=true)(oa:aA 15 a=true)(d:aw s.heap xs ab)(da:Den s.heap a v):
 (∀w,w∈ab.toArray->SeqAt.EqAt A s w v (mJ s.heap a w))/\ab.toArray.any (mJ s.heap a)=inR a xs:=by
 have os':∀x∈xs,aA 15 x=true:=by simpa[fG]using os
 refine⟨λw hw=>?_,?_⟩
 . obtain⟨x,hx,dx⟩:=Hm d w (by simpa using hw)
   rw[Iq (os' x hx) dx];exact Aq 15 x a A s w v (os' x hx) oa dx da hu
 . rw[show ab.toArray.any (mJ s.heap a)=ab.any (mJ s.heap a) by simp]
   exact HS d λx hx u du=>Iq (os' x hx) du
theorem yj{xs:LR}(os:xs.all (aA 15)=true):aA 16 (.tup xs)=true/\aA 16 (.ls xs)=true:=⟨os,os⟩
theorem NM(hu:X.A.units+64<cLine):cJ X (compareOp .In) (yp false):=by
 intro pins s σ H x y v u Q0 I rx ry h;obtain⟨a,b,M,Q,ra,rb,hv,hq,hk⟩:=h;cases b with
 |tup xs=>
  obtain⟨oa,os,hq⟩:=hq;have d:=i8 I 16 (.tup xs) y u (yj os).1 rb ry;simp only[Den]at d;obtain⟨p,ab,rfl,ht,ds⟩:=d;have z:=uw (A:=X.A.in1) (by rw[in1_units];omega) os oa ds (i8 I 15 a x v oa ra rx)
  refine SeqAt.in_tupleAt _ ht z.1 ⟨.bl (inR a xs),H,I,by rw[z.2];rfl,hk _ M _ H hq (.refl H) hv (by simp only[Rep];rfl)⟩
 |ls xs=>
  obtain⟨oa,os,hq⟩:=hq;have d:=i8 I 16 (.ls xs) y u (yj os).2 rb ry;simp only[Den]at d;obtain⟨p,ab,rfl,ht,ds⟩:=d;have z:=uw (A:=X.A.in1) (by rw[in1_units];omega) os oa ds (i8 I 15 a x v oa ra rx)
  refine SeqAt.in_listAt _ ht z.1 ⟨.bl (inR a xs),H,I,by rw[z.2];rfl,hk _ M _ H hq (.refl H) hv (by simp only[Rep];rfl)⟩
 |_=>exact(show False from hq).elim
theorem V9(hu:X.A.units+64<cLine):cJ X (compareOp .NotIn) (yp true):=by
 intro pins s σ H x y v u Q0 I rx ry h;obtain⟨a,b,M,Q,ra,rb,hv,hq,hk⟩:=h;cases b with
 |tup xs=>
  obtain⟨oa,os,hq⟩:=hq;have d:=i8 I 16 (.tup xs) y u (yj os).1 rb ry;simp only[Den]at d;obtain⟨p,ab,rfl,ht,ds⟩:=d;have z:=uw (A:=X.A.in1) (by rw[in1_units];omega) os oa ds (i8 I 15 a x v oa ra rx)
  refine SeqAt.notIn_tupleAt _ ht z.1 ⟨.bl (!inR a xs),H,I,by rw[z.2];rfl,hk _ M _ H hq (.refl H) hv (by simp only[Rep];rfl)⟩
 |ls xs=>
  obtain⟨oa,os,hq⟩:=hq;have d:=i8 I 16 (.ls xs) y u (yj os).2 rb ry;simp only[Den]at d;obtain⟨p,ab,rfl,ht,ds⟩:=d;have z:=uw (A:=X.A.in1) (by rw[in1_units];omega) os oa ds (i8 I 15 a x v oa ra rx)
  refine SeqAt.notIn_listAt _ ht z.1 ⟨.bl (!inR a xs),H,I,by rw[z.2];rfl,hk _ M _ H hq (.refl H) hv (by simp only[Rep];rfl)⟩
 |_=>exact(show False from hq).elim
def DL:LR->RM->aj->Prop:=λrs M Q=>match rs with
 | [.str x]=>x.length=1/\Q (.int (x.cps.getD 0 0:Nat)) M
 |_=>False
theorem Pj:cZ X (.builtin "ord") (fe X.K DL):=by
 intro pins s σ H xs us Q0 I rl h;obtain⟨rs,M,Q,rr,hv,hq,hk⟩:=h
 match rs,hq with
 | [.str x],hq=>
  obtain⟨hl,hq⟩:=hq;simp only[aa,Rep]at rr;obtain⟨v,r,rfl,rfl,rfl⟩:=rr;exact TY pins s σ H _ us Q0 I rl ⟨x,rfl,hl,hk _ M _ H hq (.refl H) hv (by simp only[Rep])⟩
noncomputable def yo (K:ae)(neg:Bool):cb:=λx y M Q=>match y with
 | .ref p=>∃ss,vh K p ss/\aA 15 x=true/\Q (.bl (if neg then !inR x (ss.map RV.str)else inR x (ss.map RV.str))) M
 |_=>False
theorem Gb{h:Heap}:∀{ss:az} {ab:aq},Vals (ss.map V.str) ab->aw h (ss.map RV.str) ab
 | [],_,r=>by rw[qq]at r;cases r;simp only[qq,aw]
 |s::ss,_,r=>by
  rw[cj]at r;cases r with
  |cons a t=>rw[cj];simp only[aw,Den];exact⟨_,_,rfl,a,Gb t⟩
theorem Ii{pins:aG}{s:Shared}{σ:L2.St}{H:Hp}(hu:X.A.units+64<cLine)(I:Inv X pins σ H s){a:RV}{x:V}{v:Value}{p:Addr}{ss:az}(hp:vh X.K p ss)(oa:aA 15 a=true)(ra:Rep X.K H a x)(rx:RelV x v):
 ∃ab:aq,IsTup s.heap p ab.toArray/\(∀w,w∈ab.toArray->SeqAt.EqAt X.A.in1 s w v (mJ s.heap a w))/\ab.toArray.any (mJ s.heap a)=inR a (ss.map RV.str):=by
 obtain⟨ab,hvs,ht,_⟩:=I.tuple (a:=p) (xs:=ss.map V.str) (.inr hp);have os:(ss.map RV.str).all (aA 15)=true:=by simp[fG,aA]
 have z:=uw (A:=X.A.in1) (by rw[in1_units];omega) os oa (Gb hvs) (i8 I 15 a x v oa ra rx)
 exact⟨ab,ht,z.1,z.2⟩
theorem PU(hu:X.A.units+64<cLine):cJ X (compareOp .In) (yo X.K false):=by
 intro pins s σ H x y v u Q0 I rx ry h;obtain⟨a,b,M,Q,ra,rb,hv,hq,hk⟩:=h;cases b with
 |ref p=>
  obtain⟨ss,hp,oa,hq⟩:=hq;simp only[Rep]at rb;subst rb;cases(show u=Value.ref p from ry)
  obtain⟨ab,ht,z1,z2⟩:=Ii hu I hp oa ra rx;exact SeqAt.in_tupleAt _ ht z1 ⟨.bl (inR a (ss.map RV.str)),H,I,by rw[z2];rfl,hk _ M _ H hq (.refl H) hv (by simp only[Rep];rfl)⟩
 |_=>exact(show False from hq).elim
theorem U0(hu:X.A.units+64<cLine):cJ X (compareOp .NotIn) (yo X.K true):=by
 intro pins s σ H x y v u Q0 I rx ry h;obtain⟨a,b,M,Q,ra,rb,hv,hq,hk⟩:=h;cases b with
 |ref p=>
  obtain⟨ss,hp,oa,hq⟩:=hq;simp only[Rep]at rb;subst rb;cases(show u=Value.ref p from ry)
  obtain⟨ab,ht,z1,z2⟩:=Ii hu I hp oa ra rx;exact SeqAt.notIn_tupleAt _ ht z1 ⟨.bl (!inR a (ss.map RV.str)),H,I,by rw[z2];rfl,hk _ M _ H hq (.refl H) hv (by simp only[Rep];rfl)⟩
 |_=>exact(show False from hq).elim
noncomputable def rM (neg:Bool)(ss:az)(ty:ak):ak:=λσ M Q=>ty σ M λx M1=>aA 15 x=true/\Q (.bl (if neg then !inR x (ss.map RV.str)else inR x (ss.map RV.str))) M1
def C6:LR->RM->aj->Prop:=λrs M Q=>∃bs:List Bool,rs= [.ls (bs.map RV.bl)]/\Q (.bl (bs.all id)) M
theorem Hr{K:ae}{H:Hp}:∀{bs:List Bool} {vs:LV},aa K H (bs.map RV.bl) vs->vs=bs.map V.bl
 | [],vs,h=>by simpa only[qq,aa]using h
 |b::bs,vs,h=>by
  simp only[cj,aa,Rep]at h;obtain⟨v,r,rfl,rfl,h2⟩:=h;rw[Hr h2];rfl
theorem GX:∀{bs:List Bool} {us:aq},Vals (bs.map V.bl) us->us=bs.map Value.bool
 | [],us,h=>by cases h;rfl
 |b::bs,us,h=>by
  obtain⟨u,r,rfl,h1,h2⟩:=Vals.cons_inv h;cases h1;rw[GX h2];rfl
theorem range_all(bs:List Bool):(List.range bs.length).all (λi=>bs.getD i true)=bs.all id:=by
 induction bs with
 |nil=>rfl
 |cons b bs ih=>
  rw[List.length_cons,List.range_succ_eq_map,eC,List.all_map,eC];have:((λi=>(b::bs).getD i true) ∘ Nat.succ)=λi=>bs.getD i true:=by funext i;rfl
  rw[this,ih];rfl
theorem TZ(hc:X.calm=true):cZ X (.builtin "all") (fe X.K C6):=by
 intro pins s σ H xs us Q0 I rl h;obtain⟨rs,M,Q,rr,hv,⟨bs,rfl,hq⟩,hk⟩:=h;obtain⟨v,rfl,r1⟩:=rr.one;simp only[Rep]at r1;obtain⟨a,vs,rfl,h1,h2⟩:=r1;have:=Hr h2;subst this;obtain⟨u,rfl,ru⟩:=rl.one;cases ru;obtain⟨ab,rv,p,hz⟩:=I.list h1.sq;have:=GX rv;subst this;have hlt:a<s.heap.objs.size:=by obtain⟨o,n,e,_⟩:=p;exact bE e
 refine call_all_walk (wpAny_pyIter_list p.isList ?_);have hd:X.A.in1.handled=none:=I.ok.hd hc;refine⟨s.heap.objs.size,_,_,_,_,_,λi=>bs.getD i true,rfl,Walks.list hd s.heap.objs.size a (cS hlt) (bs.map Value.bool).toArray,⟨⟨_,eJ _ rfl,rfl,rfl⟩,p.isList.push _⟩,?_,?_⟩
 . intro i v s' Q' E' hP hQ'
   have hP':(bs.map Value.bool)[i]? =some v:=by simpa using hP
   rw[gj]at hP';cases e:bs[i]? with
   |none=>rw[e]at hP';cases hP'
   |some b=>
    rw[e]at hP';have hb:bs.getD i true=b:=by rw[List.getD_eq_getElem?_getD,e];rfl
    cases hP';have hQ2:Q' (bs.getD i true) s':=hQ';rw[hb]at hQ2;exact jB hQ2
 . intro h' tk hk'
   have I1:Inv X pins σ H { s with heap:=s.heap.push { cls:=.type "list_iterator",data:=.fields #[.ref a,.int 0 0] } }:=I.kept (t':=s.toks) λb o e=>bT _ e
   obtain⟨f0,f1,f2,f3,f4,f5⟩:=I.gU (aS _) (I.au.fresh (aS _));have I2:Inv X pins σ H { s with heap:=h',toks:=tk }:=by
    have z:=I1.turned (h':=h') (t':=tk) (it:=s.heap.objs.size) (λb o hb e=>hk' b o (by simpa using hb) e) f0 f1 f3 f4 f5
    exact z
   refine⟨.bl (bs.all id),H,I2,?_,hk _ M _ H hq (.refl H) hv (by simp only[Rep])⟩
   show _=_;rw[<-range_all];simp
noncomputable def vL (x:Str):It:=⟨λi _=>i<x.cps.size,λi H v H'=>H'=H/\∃c,x.cps[i]? =some c/\v= .str ⟨#[c]⟩,λi _=>x.cps.size<=i⟩
noncomputable def ia (x:Str):LR:=x.cps.toList.map λc=>.str ⟨#[c]⟩
theorem GQ{P:Program}{w:World}{K:ae}{tg:Expr}(it:Addr)(n:String)(x:Str)(t:Tok)
 (hn:["enumerate","zip","dict_itemiterator","dict_reverseitemiterator","odict_iterator","itertools.zip_longest","itertools.pairwise"].contains n=false)
 (W:∀A:Around,A.handled=none->Walks P w A it [it] [it] x.cps.size (SignAt x) (λi h=>h.IsStrIter it n x t i))
 (hend:∀(A:Around) (i:Nat) (s:Shared) (Q:cI->Shared->Prop) (E:aP),A.handled=none->s.heap.IsStrIter it n x t i->x.cps.size<=i->(∀h',(∀b o,b≠it->s.heap.get? b=some o->h'.get? b=some o)->Q none { s with heap:=h' })->wpAny (model P w) A (pyNext (.ref it)) Q E s)
 (hself:∀(A:Around) (i:Nat) (s:Shared) (Q:aP) (E:aP),s.heap.IsStrIter it n x t i->Q (.ref it) s->wpAny (model P w) A (pyIter (.ref it)) Q E s):
 Turn P w K tg (vL x) [it] it (λi h=>h.IsStrIter it n x t i) where
 mem:=by simp
 obj:=λi h st b hb=>by
  have e:b=it:=by simpa using hb
  subst e;obtain⟨o,e,c,d⟩:=st;exact⟨o,e,λv z=>by rw[d]at z;cases z⟩
 keep:=λi h h' st k=>by
  obtain⟨o,e,r⟩:=st;exact⟨o,k it (by simp) o e,r⟩
 item:=by
  intro X hP hw hK hc i pins s σ H E I hf st hg;subst hP hw hK;obtain⟨f0,f1,f2,f3,f4,f5⟩:=hf it (by simp)
  refine(W X.A (I.ok.hd hc)).item i s _ _ hg st λv h' tk hv st' kk=>?_
  obtain⟨c,u,hcu,rfl⟩:=hv;have I1:Inv X pins σ H { s with heap:=h',toks:=tk }:=I.turned (λb o hb e=>kk b o (by simpa using hb) e) f0 f1 f3 f4 f5
  obtain⟨o,e,hcl,hd⟩:=id st';exact⟨_,rfl,yl (s:={ s with heap:=h',toks:=tk }) (n:=n) e hcl hd hn ⟨.str ⟨#[c]⟩,H,I1,⟨u,rfl⟩,⟨rfl,c,hcu,rfl⟩,st',λb hb=>(hf b hb).1⟩⟩
 done:=by
  intro X hP hw hK hc i pins s σ H E I hf st hg;subst hP hw hK;obtain⟨f0,f1,f2,f3,f4,f5⟩:=hf it (by simp)
  exact hend X.A i s _ _ (I.ok.hd hc) st hg λh' eb=>⟨rfl,I.turned (t':=s.toks) (λb o hb e=>eb b o hb e) f0 f1 f3 f4 f5⟩
 self:=hself
theorem IZ{H0 Hs:Hp}{K:ae}{H1:Hp}(x:Str)(es:Ext Hs H1):iq H0 Hs K (vL x) (ia x) dE id H1 where
 turn:=λi H M e _ _ r hr=>by
  have hi:i<x.cps.size:=by have:=(jE.mp hr).1;simpa[ia]using this
  refine⟨hi,λv' H' y=>?_⟩
  obtain⟨rfl,c,hcx,rfl⟩:=y;refine⟨.refl _,λ_ w=>w,?_⟩
  have:r= .str ⟨#[c]⟩:=by
   have h2:x.cps.toList[i]? =some c:=by simpa using hcx
   simp only[ia,gj,h2,Option.map_some,nK]at hr;exact hr.symm
  subst this;simp only[Rep]
 stop:=λi H M e _ _ hi=>by
  have:(ia x).length=x.cps.size:=by simp[ia]
  rw[this]at hi;exact hi
 bY:=mS es
def CW(te:ak):gu:=λσ M Q=>te σ M λv M1=>match v with| .str x=>Q (ia x) dE id M1|_=>False
theorem O8{tg:Expr}{l:Expr}{te:ak}(hl:ah X l te):iV X tg l (CW te):=by
 intro pins s σ0 H R I h;obtain⟨σ,M,Q,hs,hv,ht,hk⟩:=h;refine ay (hl pins s σ0 H (λv H1=>∃x M1,v= .str x/\Q (ia x) dE id M1/\Ext H H1/\View X.K H1 M1) I ⟨σ,M,_,hs,hv,ht,λrv M1 v H1 q e1 v1 r1=>?_⟩) λv s1 ⟨xv,H1,I1,r1,q1⟩=>?_
 . cases rv with
   |str x=>simp only[Rep]at r1;exact⟨x,M1,r1,q,e1,v1⟩
   |_=>exact(show False from q).elim
 . obtain⟨x,M1,rfl,q,e1,v1⟩:=q1
   obtain⟨t,rfl⟩:=r1;have hf:∀b∈[s1.heap.objs.size],ml X pins H1 b:=λb hb=>by
    have e:b=s1.heap.objs.size:=by simpa using hb
    subst e;exact I1.gU (aS _) (I1.au.fresh (aS _))
   cases ha:x.cps.all (. < 128)
   . refine wpAny_pyIter_wide ha ?_
     exact⟨s1.heap.objs.size,[s1.heap.objs.size],_,vL x,H1,rfl,I1.kept (t':=s1.toks) λb o e=>bT _ e,GQ _ "str_iterator" x t ⋯ (λA hA=>Walks.strWide hA _ x t) (λA i s Q E hA st hi hq=>wpAny_pyNext_wide_end hA st (by simp;exact hi) hq) (λA i s Q E st hq=>wpAny_pyIter_striter_wide st hq),⟨_,eJ _ rfl,rfl,rfl⟩,hf,hk _ dE id M1 _ H1 q e1 v1 (IZ x e1)⟩
   . refine wpAny_pyIter_ascii ha ?_
     exact⟨s1.heap.objs.size,[s1.heap.objs.size],_,vL x,H1,rfl,I1.kept (t':=s1.toks) λb o e=>bT _ e,GQ _ "str_ascii_iterator" x t ⋯ (λA hA=>Walks.strAscii hA _ x t) (λA i s Q E hA st hi hq=>wpAny_pyNext_ascii_end hA st (by simp;exact hi) hq) (λA i s Q E st hq=>wpAny_pyIter_striter_ascii st hq),⟨_,eJ _ rfl,rfl,rfl⟩,hf,hk _ dE id M1 _ H1 q e1 v1 (IZ x e1)⟩
noncomputable def yr (to:ak)(t:bA):ak:=λσ M Q=>to σ M λx M1=>match x with
 | .ref p=>(∃ys,M1 p=some (.lst ys))/\t σ M1 λrs M2=>∃ys y,rs= [y]/\M2 p=some (.lst ys)/\ys.length<sizeLine/\Q .ao (put M2 p (.lst (ys++ [y])))
 |_=>False
theorem Vh{o e:Expr}{to:ak}{t:bA}{apos cpos:Pos}(ho:ah X o to)(ha:d9 X [e] t)
 (hbase:attributeBase o "append" X.env (eval o X.env)=eval o X.env:=by rfl)
 (hfew:((backTo cpos (starEach [e] X.env)).all (λx=>!x.1)&&(backToKw cpos (keywordEach [] X.env)).all (λx=>x.1.isSome)&&decide ([e].length+([]:List Keyword).length+(if([]:List Keyword).isEmpty then 0 else 1)<30))=true:=by rfl)
 (hline:(apos.endLine==cpos.line)=true:=by rfl) (hs:starEach [e] X.env=(false,eval e X.env)::starEach [] X.env:=by rfl) (hplain:(backTo cpos (starEach [] X.env)).any (·.1)=false:=by rfl):
 ah X (.Call (.Attribute o "append" apos) [e] [] cpos) (yr to t):=PE.imp (Ba PySem.F.plainAttrs_list PySem.F.slot_list_append PySem.F.type_list_append R8 ho ha hbase hfew hline hs hplain) λσ0 H Q0 h=>by
 obtain⟨σ,M,Q,hs,hv,ht,hk⟩:=h;refine⟨σ,M,_,hs,hv,ht,λrx M1 x H1 q e1 v1 r1=>?_⟩
 cases rx with
 |ref p=>
  obtain⟨⟨ys,hm⟩,q⟩:=q;simp only[Rep]at r1;subst r1;obtain⟨ho',e0,r0⟩:=v1 p _ hm;obtain⟨vs0,rfl,rr0⟩:=r0;refine⟨.inl ⟨rfl,_,cg.of e0⟩,σ,M1,_,hs.ext e1,v1,q,λrs M2 vs H2 q2 e2 v2 r2=>?_⟩
  obtain⟨ys2,y,rfl,hm2,hz,q2⟩:=q2;obtain⟨v,rfl,r3⟩:=r2.one;obtain⟨ho2,e3,r4⟩:=v2 p _ hm2;obtain⟨vs2,rfl,rr2⟩:=r4;have ex:Ext H2 (upd H2 p (.lst (vs2++ [v]))):=Ext.write e3 rfl;refine⟨p,vs2,v,rfl,rfl,e3,by rw[<-rr2.length];exact hz,hk _ _ _ _ q2 ((e1.trans e2).trans ex) (v2.write hm2 ⟨_,rfl,?_⟩) (by simp only[Rep])⟩
  exact(aa.ext ex _ _ rr2).append (aa.cons (Rep.ext ex _ _ r3) aa.nil)
 |_=>exact(show False from q).elim
noncomputable def Bc:LR->RM->aj->Prop:=λrs M Q=>match rs with
 | [.tup xs]=>Q (.ls xs) M
 | [.ls xs]=>Q (.ls xs) M
 | [.ref a]=>(match M a with|some (.lst xs)=>Q (.ls xs) M|_=>False)
 |_=>False
theorem Zn:cZ X (.type "list") (fe X.K Bc):=by
 intro pins s σ H xs us Q0 I rl h;obtain⟨rs,M,Q,rr,hv,hq,hk⟩:=h;have key:∀(p:Addr) (vs:LV) (ys:LR),xs= [.ref p]->(cg X.K H p vs∨bP X.K H p vs)->aa X.K H ys vs->Q (.ls ys) M->wpAny (model X.prog X.w) X.A (call (.type "list") us) (EP X pins σ Q0) X.xe s:=by
  intro p vs ys e hp hr hq;subst e;refine ay (Q4 pins s σ H _ us (λv H'=>∃H1 p xs,v= .ref p/\H1 p=none/\H'=upd H1 p (.lst xs)/\∀o,Q0 (.ref p) (upd H1 p (.aV o (.lst xs)))) I rl ⟨p,vs,rfl,hp,λl hl=>⟨H,l,vs,rfl,hl,rfl,λo=>?_⟩⟩) λ_ _ e=>frozen e
  exact hk _ M _ _ hq (Ext.new hl) (hv.new hl) (lS hl hr)
 unfold Bc at hq;split at hq
 . obtain⟨v,rfl,r1⟩:=rr.one
   simp only[Rep]at r1;obtain⟨q,vs,rfl,hp,hr⟩:=r1;exact key q vs _ rfl (.inr hp) hr hq
 . obtain⟨v,rfl,r1⟩:=rr.one
   simp only[Rep]at r1;obtain⟨q,vs,rfl,hp,hr⟩:=r1;exact key q vs _ rfl (.inl hp.sq) hr hq
 . rename_i p
   obtain⟨v,rfl,r1⟩:=rr.one;simp only[Rep]at r1;split at hq
   . rename_i xs em
     obtain⟨ho,e,vs,rfl,hr⟩:=hv _ _ em;exact key p vs _ (by rw[r1]) (.inl (cg.of e)) hr hq
   . exact hq.elim
 . exact hq.elim
noncomputable def IJ (fs:List (Addr×bO))(tx:ak)(t:bA):ak:=λσ M Q=>tx σ M λv M1=>match v with
 | .ref f=>∃sp,(f,sp)∈fs/\t σ M1 λrs M2=>sp rs M2 Q
 |_=>False
theorem WG{x:Str}{p pos:Pos}{e:Expr}{es:aX}{t:bA}{tx:ak}(fs:List (Addr×bO))
 (hF:∀q∈fs,∃fd ps k,aH k X.A/\PySem.W.keepIn X.K (.ref q.1)=true/\Binds X.K fd ps []/\c6 X.prog X.w X.K X.mg X.base eS k q.1 fd ps (fm X.K q.2)) (hx:ah X (.Name x p) tx) (ha:d9 X (e::es) t)
 (he:starEach (e::es) X.env=(false,eval e X.env)::starEach es X.env:=by rfl) (hpl:(backTo pos (starEach es X.env)).any (·.1)=false:=by rfl):ah X (.Call (.Name x p) (e::es) [] pos) (IJ fs tx t):=by
 intro pins s σ0 H Q0 I h;obtain⟨σ,M,Q,hs,hv,ht,hk⟩:=h;refine wpAny_Call_Name_kw (ay (hx pins s σ0 H (λv H1=>∃f sp M1,v= .ref f/\(f,sp)∈fs/\Ext H H1/\View X.K H1 M1/\t σ M1 λrs M2=>sp rs M2 Q) I ⟨σ,M,_,hs,hv,ht,λrv M1 v H1 q e1 v1 r1=>?_⟩) λv s1 ⟨y,H1,I1,r1,q1⟩=>?_)
 . cases rv with
   |ref f=>simp only[Rep]at r1;obtain⟨sp,hm,q⟩:=q;exact⟨f,sp,M1,r1,hm,e1,v1,q⟩
   |_=>exact(show False from q).elim
 . obtain⟨f,sp,M1,rfl,hm,e1,v1,q⟩:=q1
   cases r1;obtain⟨fd,ps,k,hr,hkp,hb,F⟩:=hF _ hm;refine zc (h₀:=X.base) I1.ok.mod.js hkp (ay (ha pos pins s1 σ0 H1 (λvs H2=>fm X.K sp (vs++ []) H2 Q0 (λ_ _ _=>False)) I1 ⟨σ,M1,_,hs.ext e1,v1,q,λrs M2 vs H2 q2 e2 v2 r2=>?_⟩) λus s2 ⟨vs,H2,I2,r,q⟩=>⟨I2.dj,?_⟩) he hpl
   . exact⟨rs,M2,Q,by rw[eY];exact r2,v2,q2,hk.ext (e1.trans e2)⟩
   . exact uG F hr hb .nil pN I2 r q
end
theorem R5{P:Program}{w:World}{es:List DictEntry}{vs:List (Key×Value)}(h:Pairs (dW P w) es vs):Pairs (optKind P w) es (vs.map λp=>(some p.1,p.2)):=by
 induction h with
 |nil=>exact .nil
 |cons a b _ ih=>exact .cons (kv:=(some _,_)) a b ih
theorem Fv:∀{l:List Key},l.Nodup->(l.map some).Nodup
 | [],_=>jI
 |a::r,h=>by
  obtain⟨h1,h2⟩:=fV.mp h;rw[cj];refine fV.mpr ⟨λm=>?_,Fv h2⟩
  obtain⟨b,hb,e⟩:=aW.mp m;cases e;exact h1 hb
theorem TR{P:Program}{w:World}{h:Heap}{a:Addr}{vs:List (Key×Value)}(d:h.DictOf (dW P w) a vs):h.DictOf (optKind P w) a (vs.map λp=>(some p.1,p.2)):=by
 obtain⟨o,es,ep,h1,h2,h3,h4,h5,h6⟩:=d;refine⟨o,es,ep,h1,h2,h3,λe he=>?_,R5 h5,?_⟩
 . obtain⟨k,q1,q2⟩:=h4 e he
   exact⟨some k,q1,q2⟩
 . rw[cE]
   have:((λx:Option Key×Value=>x.1) ∘ λp:Key×Value=>(some p.1,p.2))=some ∘ λp=>p.1:=rfl
   rw[this,<-cE];exact Fv h6
theorem UB{vs:List (Key×Value)}:valueAt (vs.map λp=>(some p.1,p.2)) (none:Option Key)=none:=by
 unfold valueAt;rw[ze.mpr]
 . rfl
 . intro x hx
   obtain⟨p,_,rfl⟩:=aW.mp hx;simp
section
variable {X:Cx}
noncomputable def AX (neg:Bool)(kvs:bH)(Q:aj):aj:=λk M1=>match eO k with
 |some key=>Q (.bl (if neg then !(dm kvs key).isSome else(dm kvs key).isSome)) M1
 |none=>False
def xA(kvs:bH)(Q:aj):aj:=λk M1=>match k with
 | .ao=>Q (.bl true) M1
 |k=>AX true kvs Q k M1
def Ai(kvs:bH)(te:ak):ak:=λσ M Q=>te σ M (xA kvs Q)
theorem Qy{x:Str}{kvs:bH}{e:Expr}{te:ak}{p:Pos}(T:KTab X.prog X.w X.K X.mg x kvs)(he:ah X e te)(hg:Gl X x)(hd:(x==("__debug__":Str))=false):
 PC X .NotIn e (.Name x p) (up X.K (Ai kvs te)):=by
 obtain⟨a,vs,ws,hm,ha,hD,hk,hr⟩:=T.ex;intro pins s σ0 H Q0 I h;obtain⟨σ,M,Q,hs',hv,ht,hq⟩:=h;refine ay (he pins s σ0 H (λv H1=>∃r M1,Rep X.K H1 r v/\Ext H H1/\View X.K H1 M1/\xA kvs Q r M1) I ⟨σ,M,_,hs',hv,ht,λr M1 v H1 q e w r1=>⟨r,M1,r1,e,w,q⟩⟩) λiv s2 zz=>?_;obtain⟨y,H2,I2,ry,r,M2,rr,e2,w2,q2⟩:=zz
 refine mP I2 hg hm ?_ hd;have dd:=hD _ I2.dj
 by_cases hn:r= .ao
 . subst hn
   have q2:Q (.bl true) M2:=q2;have:y=V.ao:=by simpa only[Rep]using rr
   subst this;have:iv=Value.none:=ry;subst this;refine wpAny_notIn_of (knd:=optKind X.prog X.w) (k:=none) rfl ha (TR dd).mapOf ?_;rw[UB];exact⟨.bl true,H2,I2.tok _,rfl,hq _ M2 _ H2 q2 e2 w2 (by simp only[Rep])⟩
 . have q2:AX true kvs Q r M2:=by
    cases r<;>first|exact q2|exact bp rfl hn
   unfold AX at q2;cases ek:eO r with
   |none=>rw[ek]at q2;exact q2.elim
   |some key=>
    rw[ek]at q2;simp only at q2;have:=pq ek rr;subst this;refine wpAny_notIn_of (jd ry) ha dd.mapOf ?_;rw[zW hk (hr H2)];exact⟨.bl (!(dm kvs key).isSome),H2,I2.tok _,rfl,hq _ M2 _ H2 q2 e2 w2 (by simp only[Rep];rfl)⟩
theorem Se{x:Str}{kvs:bH}{e:Expr}{te:ak}{p pos:Pos}(T:KTab X.prog X.w X.K X.mg x kvs)(he:ah X e te)(hg:Gl X x:=by rfl)(hd:(x==("__debug__":Str))=false:=by decide)(h1:behindInMarks .NotIn (Expr.Name x p)=false:=by with_unfolding_all rfl):
 de X (.Compare e [.NotIn] [.Name x p] pos) (jw (Ai kvs te)):=PT.imp (xW (Qy T he hg hd) h1) λσ0 H Q0 h=>by
 obtain⟨σ,M,Q,hs,hv,ht,hk⟩:=h;exact⟨σ,M,_,hs,hv,ht,mM hk⟩
end
theorem wG{K:ae}{H:Hp}{f:Str}:∀{fs:List (Str×RV)} {gs:List (Str×V)} {v:RV},aF K H fs gs->fs.lookup f=some v->∃u,gs.lookup f=some u/\Rep K H v u
 | [],gs,v,h,e=>by cases e
 |(g,x)::r,gs,v,h,e=>by
  obtain⟨u,t,rfl,h1,h2⟩:=h;rw[nM]at e;cases hb:f==g with
  |true=>rw[hb]at e;cases e;exact⟨u,by rw[nM,hb],h1⟩
  |false=>
   rw[hb]at e;obtain⟨w,e1,r1⟩:=wG h2 e;exact⟨w,by rw[nM,hb];exact e1,r1⟩
theorem zZ{K:ae}{H:Hp}{f:Str}:∀{fs:List (Str×RV)} {gs:List (Str×V)},aF K H fs gs->fs.lookup f=none->gs.lookup f=none
 | [],gs,h,e=>by have h':gs= []:=h;subst h';rfl
 |(g,x)::r,gs,h,e=>by
  obtain⟨u,t,rfl,h1,h2⟩:=h;rw[nM]at e ⊢;cases hb:f==g with
  |true=>rw[hb]at e;cases e
  |false=>rw[hb]at e;exact zZ h2 e
noncomputable def jy (f:Str)(v:RV):List (Str×RV)->List (Str×RV)
 | []=>[(f,v)]
 |(g,x)::r=>if g=f then(g,v)::r else(g,x)::jy f v r
theorem zY{K:ae}{H:Hp}{f:Str}{v:RV}{u:V}(hv:Rep K H v u):∀{fs:List (Str×RV)} {gs:List (Str×V)},aF K H fs gs->aF K H (jy f v fs) (eW f u gs)
 | [],gs,h=>by have h':gs= []:=h;subst h';exact⟨u,[],rfl,hv,rfl⟩
 |(g,x)::r,gs,h=>by
  obtain⟨w,t,rfl,h1,h2⟩:=h;unfold jy eW
  by_cases e:g=f
  . rw[ar e,ar e];exact⟨u,t,rfl,hv,h2⟩
  . rw[ag e,ag e];exact⟨w,_,rfl,h1,zY hv h2⟩
theorem hR{κ:Type}{K:ae}{H:Hp}:∀{fs:List (κ×RV)} {gs:List (κ×V)},aF K H fs gs->fs.length=gs.length
 | [],gs,h=>by have h':gs= []:=h;subst h';rfl
 |(g,x)::r,gs,h=>by
  obtain⟨w,t,rfl,h1,h2⟩:=h;rw[List.length_cons,List.length_cons,hR h2]
section
variable {X:Cx}{o e value:Expr}{f:Str}{pos pos':Pos}{ta tv:ak}{C:Addr}
noncomputable def PF (C:Addr)(f:Str)(ta:ak):ak:=λσ M Q=>ta σ M λx M1=>match x with
 | .ref a=>∃fs v,M1 a=some (.ins C fs)/\fs.lookup f=some v/\Q v M1
 |_=>False
theorem Pp(hc:cy X.K C)(hn:aQ X.K C f)(he:ah X e ta)(hb:attributeBase e f X.env (eval e X.env)=eval e X.env:=by rfl):ah X (.Attribute e f pos) (PF C f ta):=PE.imp (Wv he hb) λσ0 H Q0 h=>by
 obtain⟨σ,M,Q,hs,hv,ht,hk⟩:=h;refine⟨σ,M,_,hs,hv,ht,λrx M1 x H1 q e1 v1 r1=>?_⟩
 cases rx with
 |ref a=>
  obtain⟨fs,v,hm,hl,q⟩:=q;simp only[Rep]at r1;subst r1;obtain⟨ho,eo,dx,gs,rfl,hg⟩:=v1 a _ hm;obtain⟨u,hu,ru⟩:=wG hg hl;exact⟨a,C,dx,gs,u,rfl,eo,hc,hn,hu,hk _ M1 _ H1 q e1 v1 ru⟩
 |_=>exact(show False from q).elim
noncomputable def Zc (C:Addr)(f:Str)(ta tv:ak):cD:=λD σ M=>tv σ M λy M1=>ta σ M1 λx M2=>match x with
 | .ref a=>∃fs,M2 a=some (.ins C fs)/\fs.length<1000/\D.nx σ (put M2 a (.ins C (jy f y fs)))
 |_=>False
theorem OR(hc:cy X.K C)(hn:aQ X.K C f)(ha:ah X o ta)(hv:ah X value tv)(hs:swapsWith value (some (.Attribute o f pos')) pos.line X.env=pure false:=by rfl):ee X (.Assign [.Attribute o f pos'] value pos) (Zc C f ta tv):=PS.imp (Wj ha hv hs) λD0 σ0 H h=>by
 obtain⟨σ,M,D,hs,hv,ht,hd⟩:=h;refine⟨σ,M,_,hs,hv,ht,λry M1 y H1 q e1 v1 r1=>⟨σ,M1,_,hs.ext e1,v1,q,λrx M2 x H2 q2 e2 v2 r2=>?_⟩⟩
 cases rx with
 |ref a=>
  obtain⟨fs,hm,hl,q2⟩:=q2;simp only[Rep]at r2;subst r2;obtain⟨ho,eo,dx,gs,rfl,hg⟩:=v2 a _ hm;have ex:Ext H2 (upd H2 a (.ins C dx (eW f y gs))):=Ext.write eo rfl;refine⟨a,C,dx,gs,rfl,eo,hc,hn,by rw[<-hR hg];exact hl,hd.nx σ _ _ _ q2 ((e1.trans e2).trans ex) (v2.write hm ⟨dx,_,rfl,?_⟩) (hs.ext ((e1.trans e2).trans ex))⟩
  exact zY (Rep.ext (e2.trans ex) _ _ r1) (hg.ext ex)
 |_=>exact(show False from q2).elim
end
section
variable {K:ae}{H:Hp}{k:Key}{v:RV}{u:V}
theorem Gv{κ:Type}:∀{xs:List (κ×RV)} {ws:List (κ×V)} {ys:List (κ×RV)} {zs:List (κ×V)},aF K H xs ws->aF K H ys zs->aF K H (xs++ys) (ws++zs)
 | [],ws,ys,zs,h,t=>by have h':ws= []:=h;subst h';exact t
 |(j,x)::r,ws,ys,zs,h,t=>by
  obtain⟨w,t',rfl,h1,h2⟩:=h;exact⟨w,_,rfl,h1,Gv h2 t⟩
end
section
variable {X:Cx}{o i value:Expr}{pos pos':Pos}{td ty tv:ak}
def JN:ak:=λ_ M Q=>∀p,M p=none->Q (.ref p) (put M p (.dk []))
theorem Y8:ah X (.Dict [] [] pos) JN:=PE.imp SV λσ0 H Q0 h=>by
 obtain⟨σ,M,Q,hs,hv,ht,hk⟩:=h;intro p hp;exact hk _ _ _ _ (ht p (hv.free hp)) (Ext.new hp) (hv.cM hp ⟨[],rfl,rfl⟩) (by simp only[Rep])
def atKey(M:RM)(x y:RV)(P:Addr->bH->Key->Prop):Prop:=match x with
 | .ref a=>(match M a with|some (.dk kvs)=>(match eO y with|some k=>P a kvs k|none=>False)|_=>False)
 |_=>False
end
section
variable {X:Cx}{x m:Str}{p pos apos:Pos}{o e:Expr}{es:aX}{t:bA}{ta:ak}{k:Nat}{ps:az}{sp:bO}{C g:Addr}{fd:FuncData}
noncomputable def uO (C:Addr)(m:Str)(sp:bO)(ta:ak)(t:bA):ak:=λσ M Q=>ta σ M λx M1=>match x with
 | .ref a=>∃fs,M1 a=some (.ins C fs)/\fs.lookup m=none/\t σ M1 λrs M2=>sp (.ref a::rs) M2 Q
 |_=>False
theorem R9{σ0:L2.St}{H:Hp}{Q0:VK}(h:up X.K (uO C m sp ta t) σ0 H Q0):A7 C m (fm X.K sp) [] (λ_ _ _=>False) (up X.K ta) (Cb X.K t) σ0 H Q0:=by
 obtain⟨σ,M,Q,hs,hv,ht,hk⟩:=h;refine⟨σ,M,_,hs,hv,ht,λrx M1 x H1 q e1 v1 r1=>?_⟩
 cases rx with
 |ref a=>
  obtain⟨fs,hm,hl,q⟩:=q;simp only[Rep]at r1;subst r1;obtain⟨ho,eo,dx,gs,rfl,hg⟩:=v1 a _ hm;refine⟨a,dx,gs,rfl,eo,zZ hg hl,σ,M1,_,hs.ext e1,v1,q,λrs M2 vs H2 q2 e2 v2 r2=>?_⟩
  exact⟨.ref a::rs,M2,Q,by rw[eY];exact aa.cons (by simp only[Rep]) r2,v2,q2,hk.ext (e1.trans e2)⟩
 |_=>exact(show False from q).elim
theorem Y5{pl:Sem Bool}(he:ah X o ta)(c:cy X.K C)(hm:Meth X.K C m g)(F:c6 X.prog X.w X.K X.mg X.base eS k g fd ps (fm X.K sp))(hr:aH k X.A)(hb:Binds X.K fd ps [])(ha:d9 X (e::es) t)
 (hst:starEach (e::es) X.env=(false,eval e X.env)::starEach es X.env:=by rfl) (hpl:(backTo pos (starEach es X.env)).any (·.1)=false:=by rfl)
 (ht:eval (.Call (.Attribute o m apos) (e::es) [] pos) X.env=(do
  let ov<-eval o X.env
  standAt apos.atName
  let(f,first) <-holding [ov] (getMethod ov m pl)
  callWith pos f first (backTo pos (starEach (e::es) X.env)) (backToKw pos (keywordEach [] X.env))):=by rfl):
 ah X (.Call (.Attribute o m apos) (e::es) [] pos) (uO C m sp ta t):=PE.imp (UN he c hm F hr hb .nil pN ha hst hpl ht) λσ0 H Q0 h=>R9 h
noncomputable def rA (C:Addr)(sp:bO)(t:bA):ak:=λσ M Q=>t σ M λrs M1=>∀a,M1 a=none->sp (.ref a::rs) (put M1 a (.ins C [])) (λv M2=>v= .ao/\Q (.ref a) M2)
theorem Y6{h0:Nat}(Mk1:Mk X.K C g)(F:c6 X.prog X.w X.K X.mg X.base eS k g fd ps (fm X.K sp))(hr:aH (k+1) X.A)(hm:X.mg x=some (.ref C))(hb:Binds X.K fd ps [])(ha:d9 X (e::es) t)(hg:Gl X x:=by rfl)(hdb:(x==("__debug__":Str))=false:=by decide)
 (he:starEach (e::es) X.env=(false,eval e X.env)::starEach es X.env:=by rfl) (hpl:(backTo pos (starEach es X.env)).any (·.1)=false:=by rfl):ah X (.Call (.Name x p) (e::es) [] pos) (rA C sp t):=PE.imp (UO Mk1 F hr hg hm hb .nil pN ha hdb he hpl) λσ0 H Q0 h=>by
 obtain⟨σ,M,Q,hs,hv,ht,hk⟩:=h;refine⟨σ,M,_,hs,hv,ht,λrs M1 vs H1 q e1 v1 r1 a dx na nd ne=>?_⟩
 have ex1:Ext H1 (upd H1 dx (.own a)):=Ext.new nd;have na':(upd H1 dx (.own a)) a=none:=by rw[aD (bC ne)];exact na
 have ex2:Ext H1 (upd (upd H1 dx (.own a)) a (.ins C dx [])):=ex1.trans (Ext.new na');refine⟨.ref a::rs,put M1 a (.ins C []),_,by rw[eY];exact aa.cons (by simp only[Rep]) (aa.ext ex2 _ _ r1),(v1.new nd).cM na' ⟨dx,[],rfl,rfl⟩,q a (v1.free na),λrv M2 v H2 q2 e2 v2 r2=>?_⟩
 obtain⟨rfl,q2⟩:=q2;simp only[Rep]at r2;exact⟨r2,hk _ M2 _ H2 q2 ((e1.trans ex2).trans e2) v2 (by simp only[Rep])⟩
end
section
variable {X:Cx}{o e f:Expr}{apos cpos:Pos}{td ty tx:ak}
def Ze:LR->RM->aj->Prop:=λrs M Q=>∃a kvs,rs= [.ref a]/\M a=some (.dk kvs)/\Q (.int kvs.length) M
theorem Zp:cZ X (.builtin "len") (fe X.K Ze):=by
 intro pins s σ H xs us Q0 I rl h;obtain⟨rs,M,Q,rr,hv,⟨a,kvs,rfl,hm,hq⟩,hk⟩:=h;obtain⟨v,rfl,r1⟩:=rr.one;simp only[Rep]at r1;subst r1;obtain⟨ho,eo,ws,rfl,hg⟩:=hv a _ hm;exact Tu pins s σ H _ us Q0 I rl ⟨a,ws,rfl,eo,hk _ M _ H hq (.refl H) hv (by simp only[Rep];rw[hR hg])⟩
end
section
variable {X:Cx}{m:Str}{p pos apos:Pos}{o a b tg:Expr}{ta t1 t2:ak}{k:Nat}{ps:az}{sp:bO}{C g:Addr}{fd:FuncData}
theorem VX{pl:Sem Bool}(he:ah X o ta)(c:cy X.K C)(hm:Meth X.K C m g)(F:c6 X.prog X.w X.K X.mg X.base eS k g fd ps (fm X.K sp))(hr:aH k X.A)(hb:Binds X.K fd ps [])
 (ht:eval (.Call (.Attribute o m apos) [] [] pos) X.env=(do
  let ov<-eval o X.env
  standAt apos.atName
  let(f,first) <-holding [ov] (getMethod ov m pl)
  callWith pos f first (backTo pos (starEach [] X.env)) (backToKw pos (keywordEach [] X.env))):=by rfl):
 ah X (.Call (.Attribute o m apos) [] [] pos) (uO C m sp ta mh):=PE.imp (Tt he c hm F hr hb .nil pN ht) λσ0 H Q0 h=>by
 obtain⟨σ,M,Q,hs,hv,ht,hk⟩:=h;refine⟨σ,M,_,hs,hv,ht,λrx M1 x H1 q e1 v1 r1=>?_⟩
 cases rx with
 |ref a=>
  obtain⟨fs,hm,hl,q⟩:=q;simp only[Rep]at r1;subst r1;obtain⟨ho,eo,dx,gs,rfl,hg⟩:=v1 a _ hm;exact⟨a,dx,gs,rfl,eo,zZ hg hl,[.ref a],M1,Q,aa.cons (by simp only[Rep]) aa.nil,v1,q,hk.ext e1⟩
 |_=>exact(show False from q).elim
noncomputable def xx (lo:Int)(n:Nat):LR:=(List.range n).map λ(i:Nat)=>RV.int (lo+(i:Int))
end
theorem R6{P:Program}{w:World}{H:Hp}{h:Heap}{a:Addr}{o:HO}(x:aB P w H h a o):∃u,h.get? a=some u:=by
 cases o with
 |lst xs=>obtain⟨_,_,_,_,e⟩:=x;exact⟨_,e⟩
 |tup xs=>obtain⟨_,_,_,o,e,_⟩:=x;exact⟨o,e⟩
 |dK kvs=>obtain⟨_,_,_,_,o,_,_,e,_⟩:=x;exact⟨_,e⟩
 |dT kvs=>obtain⟨_,_,_,_,o,_,_,e,_⟩:=x;exact⟨_,e⟩
 |set S n=>obtain⟨o,_,_,_,e,_⟩:=x;exact⟨_,e⟩
 |ins C dx fs=>obtain⟨_,_,_,e,_⟩:=x;exact⟨_,e⟩
 |own y=>obtain⟨_,e⟩:=x;exact⟨_,e⟩
 |xd fs=>obtain⟨_,⟨_,_,_,e,_⟩,_⟩:=x;exact⟨_,e⟩
 |yW lo hi=>obtain⟨_,_,_,e⟩:=x;exact⟨_,e⟩
 |aV ob u=>obtain⟨e,_⟩:=x;exact⟨_,e⟩
 |nG ps=>exact⟨_,(show h.get? a=some _ from x)⟩
 |met f y=>exact⟨_,(show h.get? a=some _ from x)⟩
 |ext φ=>obtain⟨_,⟨_,e⟩,_⟩:=x;exact⟨_,e⟩
section
variable {X:Cx}{pins:aG}{σ:L2.St}{H:Hp}{s:Shared}{h':Heap}{a:Addr}{o:HO}
theorem none_of(I:Inv X pins σ H s)(hn:s.heap.get? a=none):H a=none:=by
 cases q:H a with
 |none=>rfl
 |some u=>
  obtain⟨v,e⟩:=R6 (I.au a u q);rw[hn]at e;cases e
end
theorem FV{K:ae}{H:Hp}:∀(ns:List Int),aa K H (ns.map RV.int) (ns.map V.int)
 | []=>aa.nil
 |n::r=>aa.cons (by simp only[Rep]) (FV r)
section
variable {X:Cx}
def JJ:LR->RM->aj->Prop:=λrs M Q=>match rs with
 | [.int i,.int j]=>Q (.int (if j > i then j else i)) M
 |_=>False
theorem Pk(hc:X.calm=true):cZ X (.builtin "max") (fe X.K JJ):=by
 intro pins s σ H xs us Q0 I rl h;obtain⟨rs,M,Q,rr,hv,hq,hk⟩:=h
 match rs,hq with
 | [.int i,.int j],hq=>
  simp only[aa,Rep]at rr;obtain⟨v,r,rfl,rfl,v',r',rfl,rfl,rfl⟩:=rr;exact Su hc pins s σ H _ us Q0 I rl ⟨i,j,rfl,hk _ M _ H hq (.refl H) hv (by simp only[Rep])⟩
end
open PySem.W
section
variable {X:Cx}{pins:aG}{σ:L2.St}{H:Hp}{s:Shared}
noncomputable def bM (M:RM):RV->RV
 | .ref a=>(match M a with|some (.lst xs)=>.ls xs|_=>.ref a)
 |x=>x
theorem HC(I:Inv X pins σ H s){n:Nat}:∀{rs:LR} {vs:LV} {us:aq},rs.all (aA n)=true->aa X.K H rs vs->Vals vs us->aw s.heap rs us
 | [],vs,us,_,r,w=>by
  have e:vs= []:=by simpa only[aa]using r
  subst e;cases w;simp only[aw]
 |x::rs,vs,us,o,r,w=>by
  rw[eC,aU]at o;simp only[aa]at r;obtain⟨v,vs',rfl,r1,r2⟩:=r;obtain⟨u,us',rfl,w1,w2⟩:=Vals.cons_inv w;simp only[aw];exact⟨u,us',rfl,i8 I n x v u o.1 r1 w1,HC I o.2 r2 w2⟩
theorem xB(I:Inv X pins σ H s){M:RM}(hv:View X.K H M){a:RV}{x:V}{v:Value}(o:aA 16 (bM M a)=true)(ra:Rep X.K H a x)(rx:RelV x v):Den s.heap (bM M a) v:=by
 cases a with
 |ref p=>
  cases q:M p with
  |none=>rw[show bM M (.ref p)= .ref p by simp only[bM,q]]at o;cases o
  |some ob=>
   cases ob with
   |lst xs=>
    have e:bM M (.ref p)= .ls xs:=by simp only[bM,q]
    rw[e]at o ⊢;simp only[Rep]at ra;subst ra;cases rx;obtain⟨ho,e0,vs,rfl,hr⟩:=hv p _ q;obtain⟨ab,rv,pl,hz⟩:=I.list (cg.of e0);simp only[Den];exact⟨p,ab,rfl,pl.isList,HC I (n:=15) o hr rv⟩
   |_=>rw[show bM M (.ref p)= .ref p by simp only[bM,q]]at o;cases o
 |_=>exact i8 I 16 _ x v o ra rx
def C4:cb:=λx y M Q=>aA 16 (bM M x)=true/\aA 16 (bM M y)=true/\Q (.bl (bq (bM M x) (bM M y))) M
def CQ:cb:=λx y M Q=>aA 16 (bM M x)=true/\aA 16 (bM M y)=true/\Q (.bl (!bq (bM M x) (bM M y))) M
theorem PV(hu:X.A.units+64<cLine):cJ X (compareOp .Eq) C4:=by
 intro pins s σ H x y v u Q0 I rx ry h;obtain⟨a,b,M,Q,ra,rb,hv,⟨o1,o2,hq⟩,hk⟩:=h;exact Tc 15 _ _ X.A s v u o1 o2 (xB I hv o1 ra rx) (xB I hv o2 rb ry) ∅ _ _ _ _ ⟨.bl _,H,I,rfl,hk _ M _ H hq (.refl H) hv (by simp only[Rep])⟩
theorem PM(hu:X.A.units+64<cLine):cJ X (compareOp .NotEq) CQ:=by
 intro pins s σ H x y v u Q0 I rx ry h;obtain⟨a,b,M,Q,ra,rb,hv,⟨o1,o2,hq⟩,hk⟩:=h;exact RF 15 _ _ X.A s v u o1 o2 (xB I hv o1 ra rx) (xB I hv o2 rb ry) ∅ _ _ _ _ ⟨.bl _,H,I,rfl,hk _ M _ H hq (.refl H) hv (by simp only[Rep])⟩
end
section
variable {X:Cx}
noncomputable def sP (Q:aj):LR->RM->Prop:=λrs M=>match rs with
 | [.int i,.int j]=>(-1000000<=i/\i<=1000000/\-1000000<=j/\j<=1000000)/\(j-i).toNat<=1000/\Q (.ls (xx i (j-i).toNat)) M
 |_=>False
def IG(ta tb:ak):ak:=λσ M Q=>rB ta (rB tb mh) σ M (sP Q)
theorem FT(a:Int):∀(vs:aq) (k:Nat),(∀(j:Nat) v,vs[j]? =some v->∃t,v= .int (a+((k+j:Nat):Int)) t)->Vals ((List.range' k vs.length).map λ(j:Nat)=>V.int (a+(j:Int))) vs
 | [],_,_=>.nil
 |v::vs,k,h=>by
  obtain⟨t,e⟩:=h 0 v rfl;rw[List.length_cons,List.range'_succ,cj];refine .cons ⟨t,e⟩ (FT a vs (k+1) λj u hu=>?_)
  obtain⟨t',e'⟩:=h (j+1) u (by simpa using hu)
  refine⟨t',?_⟩;rw[e',show k+(j+1)=k+1+j by omega]
theorem FW{K:ae}{H:Hp}(a:Int):∀(l:List Nat),aa K H (l.map λ(j:Nat)=>RV.int (a+(j:Int))) (l.map λ(j:Nat)=>V.int (a+(j:Int)))
 | []=>aa.nil
 |j::r=>aa.cons (by simp only[Rep]) (FW a r)
theorem boot_list:bootBuiltins "list" =some (.type "list"):=by decide+kernel
theorem VD{a b:Expr}{t1 t2:ak}{p1 p2 pos2 pos:Pos}(hml:X.mg "list" =none)(hmr:X.mg "range" =none)(hc:X.calm=true)(ha:ah X a t1)(hb:ah X b t2)(hgl:Gl X "list")(hgr:Gl X "range")
 (hst:starEach [a,b] X.env= [(false,eval a X.env),(false,eval b X.env)]:=by rfl) (hs2:starEach [b] X.env= [(false,eval b X.env)]:=by rfl)
 (he1:starEach [a,b] X.env=(false,eval a X.env)::starEach [b] X.env:=by rfl) (he2:starEach [b] X.env=(false,eval b X.env)::starEach [] X.env:=by rfl)
 (he0:starEach [Expr.Call (.Name "range" p2) [a,b] [] pos2] X.env=(false,eval (Expr.Call (.Name "range" p2) [a,b] [] pos2) X.env)::starEach [] X.env:=by rfl):
 ah X (.Call (.Name "list" p1) [.Call (.Name "range" p2) [a,b] [] pos2] [] pos) (IG t1 t2):=by
 intro pins s σ0 H Q0 I h;obtain⟨σ,M,Q,hs,hv,ht,hk⟩:=h;have args:d9 X [a,b] (rB t1 (rB t2 mh)):=yg ha (yg hb BB he2) he1;refine Call_ (m6 I hgl hml boot_list (vE ?_ he0 rfl));rw[he0];show wpAny _ _ (spliced ((false,eval (Expr.Call (.Name "range" p2) [a,b] [] pos2) X.env)::backTo pos (starEach [] X.env))) _ _ s;refine Calls.spliced_cons (Call_ (m6 I hgr hmr boot_range (vE (ay (args pos2 pins s σ0 H (λvs H1=>∃i j M1,vs= [V.int i,V.int j]/\sP Q [.int i,.int j] M1/\Ext H H1/\View X.K H1 M1) I ⟨σ,M,_,hs,hv,ht,λrs M1 vs H1 q e1 v1 r1=>?_⟩) λus s1 q1=>?_) (by rw[hst,hs2]) (by rw[hs2];rfl))))
 . unfold sP at q
   split at q
   . simp only[aa,Rep]at r1
     obtain⟨v,r,rfl,rfl,v',r',rfl,rfl,rfl⟩:=r1;exact⟨_,_,M1,rfl,q,e1,v1⟩
   . exact q.elim
 . obtain⟨vs,H1,I1,rv,i,j,M1,rfl,q,e1,v1⟩:=q1
   obtain⟨u1,us1,rfl,q1,rv⟩:=Vals.cons_inv rv;obtain⟨u2,us2,rfl,q2,rv⟩:=Vals.cons_inv rv;cases rv;obtain⟨tt1,rfl⟩:=q1;obtain⟨tt2,rfl⟩:=q2;obtain⟨⟨b1,b2,b3,b4⟩,hn,q⟩:=q;refine call_range_2 ?_;have I2:=I1.kept (h':=s1.heap.push { cls:=.type "range",data:=.fields #[.int i tt1,.int j tt2,.int 1 s1.toks] }) (t':=s1.toks+1) (λb o e=>bT _ e)
   refine Calls.spliced_nil ?_;have hsz:Builtin.Range.rangeSize i j 1=((j-i).toNat:Int):=by rw[rangeSize_one];split<;>omega
   refine call_list_range (I2.ok.hd hc) (IsRange.new s1.heap i j 1 tt1 tt2 s1.toks) (small_one ∅ ∅ ∅ ∅) hsz ∅ λh' tk acc c' kp hget hit=>?_
   have ej:=I2.au.fresh (aS _);have hv2:Vals ((List.range (j-i).toNat).map λ(k:Nat)=>V.int (i+(k:Int))) acc.toList:=by
    have:=FT i acc.toList 0 λk v e=>by
     obtain⟨t,e'⟩:=hit.2 k v (by rw[<-Array.getElem?_toList];exact e)
     exact⟨t,by rw[e'];simp⟩
    rw[Array.length_toList,hit.1]at this;rw[List.range_eq_range'];exact this
   refine frozen ⟨.ref _,_,I2.laid kp (aS _) (o:=.lst ((List.range (j-i).toNat).map λ(k:Nat)=>V.int (i+(k:Int)))) ⟨by rw[bw,zg];exact bG hn ⋯,acc.toList,c',hv2,by rw[Array.toArray_toList];exact hget⟩,rfl,H1,_,_,rfl,ej,rfl,λo=>?_⟩
   exact hk _ M1 _ _ q (e1.trans (Ext.new ej)) (v1.new ej) (lS ej (FW i _))
end
structure su(P:Program)(w:World)(K:ae)(mg:bj)(base:Heap)(C:Addr)(k:Nat)(m:Str)(ps:az)(sp:bO):Prop where
 ex:∃(g:Addr) (fd:FuncData),Meth K C m g/\Binds K fd ps []/\c6 P w K mg base eS k g fd ps (fm K sp)
structure zu(P:Program)(w:World)(K:ae)(mg:bj)(base:Heap)(C:Addr)(k:Nat)(ps:az)(sp:bO):Prop where
 ex:∃(g:Addr) (fd:FuncData),Mk K C g/\Binds K fd ps []/\c6 P w K mg base eS k g fd ps (fm K sp)
section
variable {X:Cx}{x m:Str}{p pos apos:Pos}{o e:Expr}{es:aX}{t:bA}{ta:ak}{k:Nat}{ps:az}{sp:bO}{C:Addr}
theorem VW{pl:Sem Bool}(F:su X.prog X.w X.K X.mg X.base C k m ps sp)(c:cy X.K C)(hr:aH k X.A)(he:ah X o ta)(ha:d9 X (e::es) t)
 (hst:starEach (e::es) X.env=(false,eval e X.env)::starEach es X.env:=by rfl) (hpl:(backTo pos (starEach es X.env)).any (·.1)=false:=by rfl)
 (ht:eval (.Call (.Attribute o m apos) (e::es) [] pos) X.env=(do
  let ov<-eval o X.env
  standAt apos.atName
  let(f,first) <-holding [ov] (getMethod ov m pl)
  callWith pos f first (backTo pos (starEach (e::es) X.env)) (backToKw pos (keywordEach [] X.env))):=by rfl):
 ah X (.Call (.Attribute o m apos) (e::es) [] pos) (uO C m sp ta t):=by
 obtain⟨g,fd,hm,hb,F⟩:=F.ex;exact Y5 he c hm F hr hb ha hst hpl ht
theorem Vd{pl:Sem Bool}(F:su X.prog X.w X.K X.mg X.base C k m ps sp)(c:cy X.K C)(hr:aH k X.A)(he:ah X o ta)
 (ht:eval (.Call (.Attribute o m apos) [] [] pos) X.env=(do
  let ov<-eval o X.env
  standAt apos.atName
  let(f,first) <-holding [ov] (getMethod ov m pl)
  callWith pos f first (backTo pos (starEach [] X.env)) (backToKw pos (keywordEach [] X.env))):=by rfl):
 ah X (.Call (.Attribute o m apos) [] [] pos) (uO C m sp ta mh):=by
 obtain⟨g,fd,hm,hb,F⟩:=F.ex;exact VX he c hm F hr hb ht
theorem VC(F:zu X.prog X.w X.K X.mg X.base C k ps sp)(hr:aH (k+1) X.A)(hm:X.mg x=some (.ref C))(ha:d9 X (e::es) t)(hg:Gl X x:=by rfl)(hdb:(x==("__debug__":Str))=false:=by decide)
 (he:starEach (e::es) X.env=(false,eval e X.env)::starEach es X.env:=by rfl) (hpl:(backTo pos (starEach es X.env)).any (·.1)=false:=by rfl):ah X (.Call (.Name x p) (e::es) [] pos) (rA C sp t):=by
 obtain⟨g,fd,hM,hb,F⟩:=F.ex;exact Y6 (h0:=0) hM F hr hm hb ha hg hdb he hpl
end
section
variable {X:Cx}
noncomputable def JK:LR->RM->aj->Prop:=λrs M Q=>match rs with
 | [.ref a,.ty T']=>T'= "list"/\(match M a with|some (.lst _)=>Q (.bl true) M|_=>False)
 |_=>False
theorem Ry:cZ X (.builtin "isinstance") (fe X.K JK):=by
 intro pins s σ H xs us Q0 I rl h;obtain⟨rs,M,Q,rr,hv,hq,hk⟩:=h;unfold JK at hq;split at hq
 . rename_i a T'
   obtain⟨rfl,hq⟩:=hq;obtain⟨v,w,rfl,r1,r2⟩:=rr.two;obtain⟨u,u',rfl,w1,w2⟩:=vals2 rl;simp only[Rep]at r1 r2;subst r1;subst r2;obtain rfl:u'=Value.type "list":=w2;cases(show u=Value.ref a from w1)
   split at hq
   . rename_i ys em
     obtain⟨ho,e,r⟩:=hv a _ em;obtain⟨vs,rfl,hr⟩:=r;obtain⟨ab,_,pt,_⟩:=I.list (cg.of e);obtain⟨o,h1,h2,_⟩:=pt.isList;exact qp PySem.W.kitx_list I.dj ⟨o,h1,h2⟩ (Fu X.K) (λz=>nomatch z) λtk=>⟨.bl true,H,I.tok tk,rfl,hk _ M _ H hq (.refl H) hv (by simp only[Rep])⟩
   . exact hq.elim
 . exact hq.elim
end
abbrev TK:=List (Option Key)
noncomputable def yy:RV->Option (Option Key)
 | .ao=>some none
 | .int i=>some (some (.inl i))
 | .str x=>some (some (.inr x))
 |_=>none
noncomputable def rN:LR->Option TK
 | []=>some []
 |r::rs=>match yy r,rN rs with
  |some k,some ks=>some (k::ks)
  |_,_=>none
noncomputable def gf:RV->Option TK
 | .tup rs=>rN rs
 |_=>none
noncomputable def EB:List (TK×Str)->List (TK×Addr×Value)->Prop
 | [],[]=>True
 |(k,y)::r,(k',_,v)::r'=>k=k'/\(∃t,v= .str y t)/\EB r r'
 |_,_=>False
structure Bf(P:Program)(w:World)(K:ae)(mg:bj)(x:Str)(kvs:List (TK×Str)):Prop where
 ex:∃a xs,mg x=some (.ref a)/\(a==sysModules)=false/\(∀h:Heap,K.In h->h.DictOfH (tupleKind (optKind P w)) a xs)/\EB kvs xs
section
variable {κ:Type}[DecidableEq κ]{K:ae}{H:Hp}{k:κ}{v:RV}{u:V}
noncomputable def lk {α:Type}(kvs:List (κ×α))(k:κ):Option α:=(kvs.find? λp=>decide (p.1=k)).map (·.2)
theorem iI{α:Type}{j:κ}{x:α}{r:List (κ×α)}:lk ((j,x)::r) k=if j=k then some x else lk r k:=by
 unfold lk;rw[jk]
 by_cases h:j=k
 . rw[ar h,eI (show(j,x).1=k from h)];rfl
 . rw[ag h,fH (show ¬(j,x).1=k from h)]
noncomputable def pt {α:Type}(kvs:List (κ×α))(k:κ)(v:α):List (κ×α):=
 if(kvs.any λkv=>decide (kv.1=k))=true then kvs.map (λkv=>if kv.1=k then(kv.1,v)else kv)else kvs++ [(k,v)]
noncomputable def dl {α:Type}(kvs:List (κ×α))(k:κ):List (κ×α):=kvs.filter λkv=>decide (kv.1≠k)
theorem i5:∀{kvs:List (κ×RV)} {ws:List (κ×V)},aF K H kvs ws->(∀r,lk kvs k=some r->∃v,fA ws k=some v/\Rep K H r v)/\(lk kvs k=none->fA ws k=none)
 | [],ws,h=>by
  have h:ws= []:=h;subst h;exact⟨λr e=>(by cases e),λ_=>rfl⟩
 |(j,x)::t,ws,h=>by
  obtain⟨v,u,rfl,h1,h2⟩:=h;have ih:=i5 h2;rw[iI]
  by_cases hj:j=k
  . rw[ar hj]
    refine⟨λr e=>⟨v,ux (p:=(j,v)) hj,?_⟩,λe=>(by cases e)⟩
    cases e;exact h1
  . rw[ag hj]
    exact⟨λr e=>by rw[pf (p:=(j,v)) hj];exact ih.1 r e,λe=>by rw[pf (p:=(j,v)) hj];exact ih.2 e⟩
theorem FY:∀{kvs:List (κ×RV)} {ws:List (κ×V)},aF K H kvs ws->(kvs.any λkv=>decide (kv.1=k))=ws.any λkv=>decide (kv.1=k)
 | [],ws,h=>by have h':ws= []:=h;subst h';rfl
 |(j,x)::r,ws,h=>by
  obtain⟨w,t,rfl,h1,h2⟩:=h;rw[nO,nO,FY h2]
theorem Ae(hv:Rep K H v u):∀{kvs:List (κ×RV)} {ws:List (κ×V)},aF K H kvs ws->aF K H (kvs.map λkv=>if kv.1=k then(kv.1,v)else kv) (ws.map λkv=>if kv.1=k then(kv.1,u)else kv)
 | [],ws,h=>by have h':ws= []:=h;subst h';rfl
 |(j,x)::r,ws,h=>by
  obtain⟨w,t,rfl,h1,h2⟩:=h;rw[cj,cj]
  by_cases e:j=k
  . rw[ar (show(j,x).1=k from e),ar (show(j,w).1=k from e)];exact⟨u,_,rfl,hv,Ae hv h2⟩
  . rw[ag (show ¬(j,x).1=k from e),ag (show ¬(j,w).1=k from e)];exact⟨w,_,rfl,h1,Ae hv h2⟩
theorem Ht(hv:Rep K H v u){kvs:List (κ×RV)}{ws:List (κ×V)}(h:aF K H kvs ws):aF K H (pt kvs k v) (putK ws k u):=by
 unfold pt putK;rw[FY h];split
 . exact Ae hv h
 . exact Gv h ⟨u,[],rfl,hv,rfl⟩
end
theorem T5{K:ae}{H:Hp}{r:RV}{x:V}{k:Option Key}(e:yy r=some k)(h:Rep K H r x):x=oV k:=by
 cases r<;>first|(cases e;simp only[Rep]at h;exact h)|cases e
theorem GC{K:ae}{H:Hp}:∀{rs:LR} {vs:LV} {ks:TK},rN rs=some ks->aa K H rs vs->vs=ks.map oV
 | [],vs,ks,e,h=>by cases e;exact h
 |r::rs,vs,ks,e,h=>by
  simp only[aa]at h;obtain⟨v,t,rfl,h1,h2⟩:=h;unfold rN at e;split at e
  . rename_i a b e1 e2
    cases e;rw[T5 e1 h1,GC e2 h2];rfl
  . cases e
theorem xy{K:ae}{H:Hp}{r:RV}{x:V}{k:TK}(e:gf r=some k)(h:Rep K H r x):∃b,x= .ref b/\H b=some (.tup (k.map oV)):=by
 cases r with
 |tup rs=>
  simp only[Rep]at h;obtain⟨a,vs,rfl,h1,h2⟩:=h;exact⟨a,rfl,by rw[h1,GC e h2]⟩
 |_=>cases e
noncomputable def rS (o:RO)(y:RV):Option (Option RV):=match o with
 | .dk kvs=>(eO y).map (lk kvs)
 | .dt kvs=>(gf y).map (lk kvs)
 | .fk kvs=>(eO y).map (lk kvs)
 | .ft kvs=>(gf y).map (lk kvs)
 |_=>none
noncomputable def qA (M:RM)(x y:RV):Option (Option RV):=match x with
 | .ref a=>(M a).bind (rS . y)
 |_=>none
def sM(M:RM)(x:RV):Prop:=match x with
 | .ref a=>match M a with
  |some (.dk _)=>True
  |some (.dt _)=>True
  |some (.fk _)=>True
  |some (.ft _)=>True
  |_=>False
 |_=>False
def sH(M:RM)(x y v:RV)(N:RM->Prop):Prop:=match x with
 | .ref a=>match M a with
  |some (.dk kvs)=>match eO y with
   |some k=>kvs.length<sizeLine/\N (put M a (.dk (pt kvs k v)))
   |none=>False
  |some (.dt kvs)=>match gf y with
   |some k=>kvs.length<sizeLine/\N (put M a (.dt (pt kvs k v)))
   |none=>False
  |_=>False
 |_=>False
section
variable {X:Cx}{M:RM}{H:Hp}{x y:RV}{vx vy:V}
theorem AD{K:ae}{r:Option RV}(hv:View K H M)(e:qA M x y=some r)(rx:Rep K H x vx)(ry:Rep K H y vy):
 ∃a r0,vx= .ref a/\bU H a vy r0/\(∀z,r=some z->∃v,r0=some v/\Rep K H z v)/\(r=none->r0=none):=by
 unfold qA at e;split at e
 . rename_i a
   simp only[Rep]at rx;cases q:M a with
   |none=>rw[q]at e;cases e
   |some o=>
    rw[q]at e
    replace e:rS o y=some r:=e
    obtain⟨ho,eo,ro⟩:=hv a o q;unfold rS at e;split at e
    . rename_i kvs
      obtain⟨ws,rfl,hg⟩:=ro;cases ek:eO y with
      |none=>rw[ek]at e;cases e
      |some k=>
       rw[ek]at e;have e:lk kvs k=r:=dP e;have:=pq ek ry;subst this;exact⟨a,_,rx,bU.k eo,λz hz=>(i5 (k:=k) hg).1 z (e.trans hz),λhz=>(i5 (k:=k) hg).2 (e.trans hz)⟩
    . rename_i kvs
      obtain⟨ws,rfl,hg⟩:=ro;cases ek:gf y with
      |none=>rw[ek]at e;cases e
      |some k=>
       rw[ek]at e;have e:lk kvs k=r:=dP e;obtain⟨b,rfl,hb⟩:=xy ek ry;exact⟨a,_,rx,bU.t eo hb,λz hz=>(i5 (k:=k) hg).1 z (e.trans hz),λhz=>(i5 (k:=k) hg).2 (e.trans hz)⟩
    . rename_i kvs
      obtain⟨ob,ws,rfl,hg⟩:=ro;cases ek:eO y with
      |none=>rw[ek]at e;cases e
      |some k=>
       rw[ek]at e;have e:lk kvs k=r:=dP e;have:=pq ek ry;subst this;exact⟨a,_,rx,.inl ⟨ws,k,.inr ⟨ob,eo⟩,rfl,rfl⟩,λz hz=>(i5 (k:=k) hg).1 z (e.trans hz),λhz=>(i5 (k:=k) hg).2 (e.trans hz)⟩
    . rename_i kvs
      obtain⟨ob,ws,rfl,hg⟩:=ro;cases ek:gf y with
      |none=>rw[ek]at e;cases e
      |some k=>
       rw[ek]at e;have e:lk kvs k=r:=dP e;obtain⟨b,rfl,hb⟩:=xy ek ry;exact⟨a,_,rx,.inr ⟨ws,k,b,.inr ⟨ob,eo⟩,rfl,hb,rfl⟩,λz hz=>(i5 (k:=k) hg).1 z (e.trans hz),λhz=>(i5 (k:=k) hg).2 (e.trans hz)⟩
    . cases e
 . cases e
theorem Vz{K:ae}(hv:View K H M)(d:sM M x)(rx:Rep K H x vx):∃a,vx= .ref a/\zp H a:=by
 unfold sM at d;split at d
 . rename_i a
   simp only[Rep]at rx;split at d
   . rename_i kvs e;obtain⟨ho,eo,ws,rfl,hg⟩:=hv a _ e;exact⟨a,rx,.inl ⟨ws,.inl eo⟩⟩
   . rename_i kvs e;obtain⟨ho,eo,ws,rfl,hg⟩:=hv a _ e;exact⟨a,rx,.inr ⟨ws,.inl eo⟩⟩
   . rename_i kvs e;obtain⟨ho,eo,ob,ws,rfl,hg⟩:=hv a _ e;exact⟨a,rx,.inl ⟨ws,.inr ⟨ob,eo⟩⟩⟩
   . rename_i kvs e;obtain⟨ho,eo,ob,ws,rfl,hg⟩:=hv a _ e;exact⟨a,rx,.inr ⟨ws,.inr ⟨ob,eo⟩⟩⟩
   . exact d.elim
 . exact d.elim
theorem Vr{K:ae}{v:RV}{vv:V}{N:RM->Prop}(hv:View K H M)(d:sH M x y v N)(rx:Rep K H x vx)(ry:Rep K H y vy)(rv:Rep K H v vv):
 ∃a H' M',vx= .ref a/\ff H a vy vv H'/\N M'/\Ext H H'/\View K H' M':=by
 unfold sH at d;split at d
 . rename_i a
   simp only[Rep]at rx;split at d
   . rename_i kvs em
     obtain⟨ho,eo,ws,rfl,hg⟩:=hv a _ em;split at d
     . rename_i k ek
       have:=pq ek ry;subst this;have ex:Ext H (upd H a (.dK (putK ws k vv))):=Ext.write eo rfl;exact⟨a,_,_,rx,ff.k eo (by rw[<-hR hg];exact d.1),d.2,ex,hv.write em ⟨_,rfl,Ht (Rep.ext ex _ _ rv) (hg.ext ex)⟩⟩
     . exact d.elim
   . rename_i kvs em
     obtain⟨ho,eo,ws,rfl,hg⟩:=hv a _ em;split at d
     . rename_i k ek
       obtain⟨b,rfl,hb⟩:=xy ek ry;have ex:Ext H (upd H a (.dT (putK ws k vv))):=Ext.write eo rfl;exact⟨a,_,_,rx,ff.t eo hb (by rw[<-hR hg];exact d.1),d.2,ex,hv.write em ⟨_,rfl,Ht (Rep.ext ex _ _ rv) (hg.ext ex)⟩⟩
     . exact d.elim
   . exact d.elim
 . exact d.elim
end
section
variable {X:Cx}{o i value e f:Expr}{pos pos' apos cpos:Pos}{td ty tv tx:ak}
def vd(Q:aj)(x y:RV)(M:RM):Prop:=match qA M x y with
 |some (some v)=>Q v M
 |_=>False
def JB(td ty:ak):ak:=λσ M Q=>td σ M λx M1=>ty σ M1 λy M2=>vd Q x y M2
theorem Ux{Q:aj}{x y:RV}{M:RM}(h:vd Q x y M):∃v,qA M x y=some (some v)/\Q v M:=by
 unfold vd at h;split at h
 . rename_i v e;exact⟨v,e,h⟩
 . exact h.elim
theorem Ys(hu:X.A.units+1<cLine)(ho:ah X o td)(hi:ah X i ty)(hs:yQ i):ah X (.Subscript o i pos) (JB td ty):=PE.imp (UQ hu ho hi hs) λσ0 H Q0 h=>by
 obtain⟨σ,M,Q,hs,hv,ht,hk⟩:=h;refine⟨σ,M,_,hs,hv,ht,λrx M1 x H1 q e1 v1 r1=>⟨σ,M1,_,hs.ext e1,v1,q,λry M2 y H2 q2 e2 v2 r2=>?_⟩⟩
 obtain⟨v,ev,q2⟩:=Ux q2;obtain⟨a,r0,rfl,g,g1,_⟩:=AD v2 ev (Rep.ext e2 _ _ r1) r2;obtain⟨w,rfl,rw'⟩:=g1 v rfl;exact⟨a,w,rfl,g,hk _ M2 _ H2 q2 (e1.trans e2) v2 rw'⟩
def y7(neg:Bool)(Q:aj)(x y:RV)(M:RM):Prop:=match qA M x y with
 |some r=>Q (.bl (if neg then !r.isSome else r.isSome)) M
 |none=>False
def rJ(neg:Bool)(ty td:ak):ak:=λσ M Q=>ty σ M λy M1=>td σ M1 λx M2=>y7 neg Q x y M2
theorem xq{neg:Bool}{σ0:L2.St}{H:Hp}{Q0:VK}(h:up X.K (rJ neg ty td) σ0 H Q0):up X.K ty σ0 H λy H1=>up X.K td σ0 H1 λx H2=>∃a r,x= .ref a/\bU H2 a y r/\Q0 (.bl (if neg then !r.isSome else r.isSome)) H2:=by
 obtain⟨σ,M,Q,hs,hv,ht,hk⟩:=h;refine⟨σ,M,_,hs,hv,ht,λry M1 y H1 q e1 v1 r1=>⟨σ,M1,_,hs.ext e1,v1,q,λrx M2 x H2 q2 e2 v2 r2=>?_⟩⟩
 unfold y7 at q2;split at q2
 . rename_i r er
   obtain⟨a,r0,rfl,g,g1,g2⟩:=AD v2 er r2 (Rep.ext e2 _ _ r1);refine⟨a,r0,rfl,g,hk _ M2 _ H2 q2 (e1.trans e2) v2 ?_⟩;have:r0.isSome=r.isSome:=by
    cases r with
    |none=>rw[g2 rfl];rfl
    |some z=>obtain⟨v,rfl,_⟩:=g1 z rfl;rfl
   rw[this];simp only[Rep]
 . exact q2.elim
theorem Oq(hu:X.A.units+1<cLine)(hi:ah X i ty)(ho:ah X o td)(h1:behindInMarks .In o=false):ah X (.Compare i [.In] [o] pos) (rJ false ty td):=PE.imp (IM (IP hu hi ho) h1) λσ0 H Q0 h=>xq h
theorem Uy(hu:X.A.units+1<cLine)(hi:ah X i ty)(ho:ah X o td)(h1:behindInMarks .NotIn o=false):ah X (.Compare i [.NotIn] [o] pos) (rJ true ty td):=PE.imp (IM (FN hu hi ho) h1) λσ0 H Q0 h=>xq h
theorem Yr(hu:X.A.units+1<cLine)(hi:ah X i ty)(ho:ah X o td)(h1:behindInMarks .In o=false):de X (.Compare i [.In] [o] pos) (jw (rJ false ty td)):=PT.imp (xW (IP hu hi ho) h1) λσ0 H Q0 h=>by
 obtain⟨σ,M,Q,hs,hv,ht,hk⟩:=h;exact xq (neg:=false) ⟨σ,M,_,hs,hv,ht,mM hk⟩
theorem Tw(hu:X.A.units+1<cLine)(hi:ah X i ty)(ho:ah X o td)(h1:behindInMarks .NotIn o=false):de X (.Compare i [.NotIn] [o] pos) (jw (rJ true ty td)):=PT.imp (xW (FN hu hi ho) h1) λσ0 H Q0 h=>by
 obtain⟨σ,M,Q,hs,hv,ht,hk⟩:=h;exact xq (neg:=true) ⟨σ,M,_,hs,hv,ht,mM hk⟩
def uI(Q:aj)(x y z:RV)(M:RM):Prop:=match qA M x y with
 |some r=>Q (r.getD z) M
 |none=>False
def HW(td ty:ak):ak:=λσ M Q=>td σ M λx M1=>sM M1 x/\ty σ M1 λy M2=>uI Q x y .ao M2
theorem Tz{K:ae}{Q:aj}{x y z:RV}{M:RM}{H:Hp}{a:Addr}{vy vz:V}(h:uI Q x y z M)(hv:View K H M)(rx:Rep K H x (.ref a))(ry:Rep K H y vy)(rz:Rep K H z vz):
 ∃r r0,Q r M/\bU H a vy r0/\Rep K H r (r0.getD vz):=by
 unfold uI at h;split at h
 . rename_i r er
   obtain⟨a',r0,ea,g,g1,g2⟩:=AD hv er rx ry;cases ea;refine⟨_,r0,h,g,?_⟩;cases r with
   |none=>rw[g2 rfl];exact rz
   |some q=>obtain⟨v,rfl,rw'⟩:=g1 q rfl;exact rw'
 . exact h.elim
theorem V2(hu:X.A.units+1<cLine)(ho:ah X o td)(he:ah X e ty)(m:M1 X o "get" apos e cpos):ah X (.Call (.Attribute o "get" apos) [e] [] cpos) (HW td ty):=PE.imp (SW hu ho he m) λσ0 H Q0 h=>by
 obtain⟨σ,M,Q,hs,hv,ht,hk⟩:=h;refine⟨σ,M,_,hs,hv,ht,λrx M1 x H1 q e1 v1 r1=>?_⟩
 obtain⟨a,rfl,d⟩:=Vz v1 q.1 r1;refine⟨a,rfl,d,σ,M1,_,hs.ext e1,v1,q.2,λry M2 y H2 q2 e2 v2 r2=>?_⟩
 obtain⟨r,r0,q3,g,rr⟩:=Tz q2 v2 (Rep.ext e2 _ _ r1) r2 (show Rep X.K H2 .ao .ao by simp only[Rep])
 exact⟨r0,g,hk _ M2 _ H2 q3 (e1.trans e2) v2 rr⟩
def Ig(td ty tv:ak):cD:=λD σ M=>tv σ M λv M1=>td σ M1 λx M2=>ty σ M2 λy M3=>sH M3 x y v (D.nx σ)
theorem VZ(hu:X.A.units+1<cLine)(ho:ah X o td)(hi:ah X i ty)(hv:ah X value tv)(hs:swapsWith value (some (.Subscript o i pos')) pos.line X.env=pure false):ee X (.Assign [.Subscript o i pos'] value pos) (Ig td ty tv):=PS.imp (UI hu ho hi hv hs) λD0 σ0 H h=>by
 obtain⟨σ,M,D,hs,hv,ht,hd⟩:=h;refine⟨σ,M,_,hs,hv,ht,λrv M1 v H1 q e1 v1 r1=>⟨σ,M1,_,hs.ext e1,v1,q,λrx M2 x H2 q2 e2 v2 r2=>⟨σ,M2,_,hs.ext (e1.trans e2),v2,q2,λry M3 y H3 q3 e3 v3 r3=>?_⟩⟩⟩
 obtain⟨a,H4,M4,rfl,g,n,ex,w⟩:=Vr v3 q3 (Rep.ext e3 _ _ r2) r3 (Rep.ext (e2.trans e3) _ _ r1);have e13:=((e1.trans e2).trans e3).trans ex;exact⟨a,H4,rfl,g,hd.nx σ M4 σ0 H4 n e13 w (hs.ext e13)⟩
def II:ak:=λ_ M Q=>∀p,M p=none->Q (.ref p) (put M p (.dt []))
theorem VF:ah X (.Dict [] [] pos) II:=PE.imp SU λσ0 H Q0 h=>by
 obtain⟨σ,M,Q,hs,hv,ht,hk⟩:=h;exactλp hp=>hk _ _ _ _ (ht p (hv.free hp)) (Ext.new hp) (hv.cM hp ⟨[],rfl,rfl⟩) (by simp only[Rep])
end
section
variable {prog:Program}{w:World}{K:Type}[DecidableEq K]{knd:HeapKind prog w K}{A:Around}{E:aP}{s:Shared}{d a:Addr}{k:K}{xs:List (K×Addr×Value)}
theorem Sy{xs:List (K×Addr×Value)}(hn:(xs.map (·.1)).Nodup):∀{j:Nat} {p:Addr×Value},xs[j]? =some (k,p)->xs.eraseIdx j=xs.filter λx=>decide (x.1≠k):=by
 induction xs with
 |nil=>intro j p h;simp at h
 |cons x r ih=>
  intro j p h;rw[cj,fV]at hn;cases j with
  |zero=>
   simp at h;subst h;rw[List.eraseIdx_cons_zero,fU];simp only[ne_eq,not_true_eq_false,decide_false,jl,if_false];exact(rZ.mpr λy hy=>by
    have:y.1≠k:=λz=>hn.1 (aW.mpr ⟨y,hy,z⟩)
    simpa using this).symm
  |succ j=>
   rw[List.eraseIdx_cons_succ,fU];have h':r[j]? =some (k,p):=by simpa using h
   have:x.1≠k:=λz=>hn.1 (z ▸ aW.mpr ⟨_,jG h',rfl⟩)
   rw[ar (eI this),ih hn.2 h']
theorem QO{Q:Option DictEntry->Shared->Prop}(hu:knd.room A)(hkey:knd.is s.heap k a)(hm:s.heap.DictOfH knd d xs)(ht:(PySem.atKey xs k).isSome=true)
 (hQ:∀e h',h'.DictOfH knd d (xs.filter λx=>decide (x.1≠k))->Heap.SameBut d s.heap h'->Q (some e) { s with heap:=h',toks:=s.toks+knd.draws k }) (hsz:xs.length<=sizeLine):wpAny (model prog w) A (Builtin.Dict.takeOut d (.ref a)) Q E s:=by
 obtain⟨o,es,ep,ho,hc,hd,he,his,hn⟩:=hm;unfold Builtin.Dict.takeOut
 try with_reducible refine nQ ?_
 refine ai (knd.pyHash hu hkey ?_);refine ai (wpAny_dictFind_heap (s:={ s with toks:=s.toks+knd.draws k }) hu hkey ho hd he his hn (λhno=>?_) λj p hj=>?_)
 . rw[atKey_none_of_get hno]at ht;cases ht
 . refine ai (vw (s:={ s with toks:=s.toks+knd.draws k }) ho hd ?_)
   rw[entry_at he j,hj];refine ai (wpAny_updateDictKeys (hz:=by have e:=size_of_entries he;omega) (s:={ s with toks:=s.toks+knd.draws k }) ho hd (aJ (hQ _ _ ⟨_,_,ep+1,Heap.get?_update_self _ ho (Obj.isFreed_of_dict (Obj.data_mapDictKeys hd _)),hc.mapDictKeys _,Obj.data_mapDictKeys hd _,?_,λx hx=>?_,?_⟩ (Heap.SameBut.update ..))))
   . rw[<-Sy hn hj]
     have:(xs.eraseIdx j).map (entryOfKey knd)=es.toList.eraseIdx j:=by rw[he,List.eraseIdx_eq_take_drop_succ,List.eraseIdx_eq_take_drop_succ,eQ,List.map_take,List.map_drop]
     rw[this];obtain⟨l⟩:=es;simp
   . exact knd.keeps (his x ((dJ.mp hx).1)) ho hd (Heap.SameBut.update ..)
   . exact hn.sublist (List.filter_sublist.map _)
end
theorem UG{H:Hp}{kvs:List (List bJ×V)}{xs:List (List bJ×Addr×Value)}(r:KT H kvs xs)(k:List bJ):KT H (ja kvs k) (xs.filter λx=>decide (x.1≠k)):=by
 unfold ja
 induction r with
 |nil=>exact .nil
 | @cons p q ps qs h t ih=>
  rw[fU,fU,h.1];split
  . exact .cons h ih
  . exact ih
section
variable {X:Cx}{pins:aG}{σ:L2.St}{H:Hp}{s:Shared}{a b:Addr}{kvs:List (List bJ×V)}{k:List bJ}{A:Around}{E:aP}
theorem WV{Q:Unit->Shared->Prop}(hu:A.units+1<cLine)(I:Inv X pins σ H s)(e:H a=some (.dT kvs))(eb:H b=some (.tup (k.map oV)))(l:(fA kvs k).isSome=true)(h:∀s',Inv X pins σ (upd H a (.dT (ja kvs k))) s'->Q () s'):
 wpAny (model X.prog X.w) A (delItem (.ref a) (.ref b)) Q E s:=by
 obtain⟨z,hd,xs,rel,dd⟩:=Bl I.au e;have hz:xs.length<=sizeLine:=by rw[<-Paired.length rel];exact z
 refine wpAny_delItem_slot dd.typeIs ⋯ PySem.F.slot_dict_delitem (mC PySem.F.slot_dict_delitem dd.typeIs PySem.F.entry_dict_delitem ?_ (PySem.F.args_dict_delitem_2 _ _))
 unfold Builtin.«dict.__delitem__»;refine ai ?_;unfold Builtin.Dict.dictSlotArgs;refine ai (wpAny_notOrdered_dict dd.typeIs ?_);show wpAny _ _ (pure (Value.ref a,Value.ref b)) _ _ s;refine aJ ?_;show wpAny _ _ (Builtin.Dict.takeOut a (.ref b) >>= _) _ _ s;refine ai (QO (tupleKind_room_in1 hu) (pJ I.au eb) dd (by rw[<-qo,<-(rel.val k).ba];exact l) (λen h' dd' hs=>?_) hz)
 refine ai (wpAny_letGo (aJ ⟨.none,rfl,h _ ?_⟩));obtain⟨q,es,ep,hq,h2,h3,h4,_,h5⟩:=dd';refine xJ I (by rw[e];exact True.intro) hs ⟨q,hq⟩ ⟨bG (jF _ _) z,hd,_,(UG rel k).keeps λc ys ec=>?_,q,es,ep,hq,h2,h3,h4,h5⟩
 rw[aD (jb ec e (λz=>nomatch z))]
 exact ec
end
noncomputable def dr {κ β:Type}[DecidableEq κ](kvs:List (κ×β))(k:κ):List (κ×β):=kvs.filter λp=>decide (p.1≠k)
theorem Ax{κ:Type}[DecidableEq κ]{K:ae}{H:Hp}{k:κ}:∀{xs:List (κ×RV)} {ws:List (κ×V)},aF K H xs ws->aF K H (dr xs k) (ja ws k)
 | [],_,h=>by cases h;exact rfl
 |(j,x)::r,_,h=>by
  obtain⟨v,t,rfl,h1,h2⟩:=h;have ih:=Ax (k:=k) h2;unfold dr ja at ih ⊢;rw[fU,fU];split
  . exact⟨v,_,rfl,h1,ih⟩
  . exact ih
def qC(M:RM)(x y:RV)(N:RM->Prop):Prop:=match x with
 | .ref a=>match M a with
  |some (.dk kvs)=>match eO y with
   |some k=>(lk kvs k).isSome=true/\N (put M a (.dk (dr kvs k)))
   |none=>False
  |some (.dt kvs)=>match gf y with
   |some k=>(lk kvs k).isSome=true/\N (put M a (.dt (dr kvs k)))
   |none=>False
  |_=>False
 |_=>False
section
variable {X:Cx}{o i:Expr}{td ty:ak}{pos tpos:Pos}
def HV(td ty:ak):cD:=λD σ M=>td σ M λx M1=>ty σ M1 λy M2=>qC M2 x y (D.nx σ)
theorem V0(hu:X.A.units+1<cLine)(ho:ah X o td)(hi:ah X i ty):ee X (.Delete [.Subscript o i tpos] pos) (HV td ty):=by
 intro pins s σ0 H D0 I h;obtain⟨σ,M,D,hs,hv,ht,hd⟩:=h;refine wpAny_Delete (wpAny_deleteEach_cons (wpAny_delete_Subscript (ay (ho pins s σ0 H (λx H1=>∃rx M1,(ty σ M1 λy M2=>qC M2 rx y (D.nx σ))/\Ext H H1/\View X.K H1 M1/\Rep X.K H1 rx x) I ⟨σ,M,_,hs,hv,ht,λrx M1 x H1 q e1 v1 r1=>⟨rx,M1,q,e1,v1,r1⟩⟩) λu s1 ⟨x,H1,I1,ru,rx,M1,q1,e1,v1,r1⟩=>
  ay (hi pins s1 σ0 H1 (λy H2=>∃ry M2,qC M2 rx ry (D.nx σ)/\Ext H1 H2/\View X.K H2 M2/\Rep X.K H2 ry y) I1 ⟨σ,M1,_,hs.ext e1,v1,q1,λry M2 y H2 q e2 v2 r2=>⟨ry,M2,q,e2,v2,r2⟩⟩) λiv s2 ⟨y,H2,I2,riv,ry,M2,q2,e2,v2,r2⟩=>?_)))
 have r1:=Rep.ext e2 _ _ r1;have e12:=e1.trans e2;unfold qC at q2;split at q2
 . rename_i a _ _
   simp only[Rep]at r1;subst r1;obtain rfl:u=Value.ref a:=ru;split at q2
   . rename_i kvs em
     obtain⟨ho',eo,ws,rfl,hg⟩:=v2 a _ em;split at q2
     . rename_i k ek
       have:=pq ek r2;subst this;have ex:Ext H2 (upd H2 a (.dK (ja ws k))):=Ext.write eo rfl;obtain⟨z,hz⟩:=zk.mp q2.1;obtain⟨z',hz',_⟩:=(i5 (k:=k) hg).1 z hz;exact SK I2 eo riv (by rw[hz'];rfl) λs3 I3=>wpAny_deleteEach_nil ⟨σ0,_,I3,hd.nx σ _ _ _ q2.2 (e12.trans ex) (v2.write em ⟨_,rfl,Ax (hg.ext ex)⟩) (hs.ext (e12.trans ex))⟩
     . exact q2.elim
   . rename_i kvs em
     obtain⟨ho',eo,ws,rfl,hg⟩:=v2 a _ em;split at q2
     . rename_i k ek
       obtain⟨b,rfl,hb⟩:=xy ek r2;obtain rfl:iv=Value.ref b:=riv;have ex:Ext H2 (upd H2 a (.dT (ja ws k))):=Ext.write eo rfl;obtain⟨z,hz⟩:=zk.mp q2.1;obtain⟨z',hz',_⟩:=(i5 (k:=k) hg).1 z hz;exact WV hu I2 eo hb (by rw[hz'];rfl) λs3 I3=>wpAny_deleteEach_nil ⟨σ0,_,I3,hd.nx σ _ _ _ q2.2 (e12.trans ex) (v2.write em ⟨_,rfl,Ax (hg.ext ex)⟩) (hs.ext (e12.trans ex))⟩
     . exact q2.elim
   . exact q2.elim
 . exact q2.elim
end
section
variable {X:Cx}{pins:aG}{σ:L2.St}{H:Hp}{s:Shared}{a:Addr}{A:Around}{E:aP}
theorem Xi{kvs:List (List bJ×V)}{Q:aP}(I:Inv X pins σ H s)(e:H a=some (.dT kvs))(h:∀t s',Inv X pins σ H s'->Q (.int kvs.length t) s'):wpAny (model X.prog X.w) A (call (.builtin "len") [.ref a]) Q E s:=by
 obtain⟨z,hd,xs,rel,dd⟩:=Bl I.au e;have ty:=dd.typeIs;obtain⟨o,es,ep,ho,hc,hdat,he,_,_⟩:=dd;have hl:es.size=kvs.length:=by rw[size_of_entries he,Paired.length rel]
 refine Calls.call_function_entry kind_len plain_len entry_len (args_len1 _) ?_;unfold Builtin.«len»;refine ai (m:=oneArg "len" _) (aJ ?_);refine ai (m:=callSpecial? (.ref a) (Str.ofString "__len__")) (wpAny_callSpecial?_slot (name:=Str.ofString "__len__") ty F.slot_dict_len (mC F.slot_dict_len ty F.entry_dict_len ?_ (F.args_dict_len_1 _)));show wpAny _ _ (dictSize a >>= _) _ _ s;unfold dictSize;refine ai (ai (vw ho hdat (aJ ?_)));show wpAny _ _ (Builtin.Dict.pendingCount a >>= _) _ _ s;refine ai (wpAny_pendingCount_other hd ?_);refine wpAny_ret_mkInt ?_;rw[hl];show wpAny _ _ _ _ _ { s with toks:=s.toks+1 }
 refine ai (nQ (aJ ?_));refine ai (wpAny_letGo ?_);rw[sizeLine_eq]at z;show wpAny _ _ (if((kvs.length:Nat):Int)<0 then _ else _) _ _ _
 rw[ag ∅]
 show wpAny _ _ (if((kvs.length:Nat):Int) ≥ 2 ^ 63 then _ else _) _ _ _
 rw[ag ∅]
 exact ai (wpAny_mkInt (aJ ⟨_,rfl,h _ _ (I.tok _)⟩))
theorem Zo:cZ X (.builtin "len") (fe X.K λrs M Q=>∃a kvs,rs= [.ref a]/\M a=some (.dt kvs)/\Q (.int kvs.length) M):=by
 intro pins s σ H xs us Q0 I rl h;obtain⟨rs,M,Q,rr,hv,⟨a,kvs,rfl,hm,hq⟩,hk⟩:=h;obtain⟨v,rfl,r1⟩:=rr.one;simp only[Rep]at r1;subst r1;obtain⟨ho,eo,ws,rfl,hg⟩:=hv a _ hm;obtain⟨u,rfl,ru⟩:=vals1 rl;cases ru;exact Xi I eo λt s' I'=>⟨.int ws.length,H,I',⟨t,rfl⟩,hk _ M _ H hq (.refl H) hv (by simp only[Rep];rw[hR hg])⟩
end
section
variable {X:Cx}
noncomputable def AS (c:cU)(tb:cD):cD:=λD σ M=>∃W:Nat->aY->RM->Prop,(∃m,W m σ M)/\∀m σ M,W m σ M->
 c σ M λb M1=>if b=true then tb { D with nx:=λσ' M'=>∃m',m'<m/\W m' σ' M',ct:=λσ' M'=>∃m',m'<m/\W m' σ' M',bk:=D.nx } σ M1 else D.nx σ M1
theorem VO{c:Expr}{body:List Stmt}{tc:cU}{tb:cD}{pos:Pos}(hp:PassesOwn (model X.prog X.w) X.A X.env X.xe)(hc:de X c tc)(hb:jg X body tb):ee X (.While c body [] pos) (AS tc tb):=PS.imp (Tq hp hc hb) λD0 σ0 H h=>by
 obtain⟨σ,M,D,hs,hv,⟨W,⟨m,w⟩,turn⟩,hd⟩:=h;refine⟨λm σ0' H'=>∃σ' M',aK X.K H' σ' σ0'/\View X.K H' M'/\W m σ' M'/\Ext H H',⟨m,σ,M,hs,hv,w,.refl _⟩,?_⟩
 rintro m σ1 H1 ⟨σ',M',hs1,hv1,w1,e1⟩;refine⟨σ',M',_,hs1,hv1,turn m σ' M' w1,λb M2 H2 q e2 v2=>?_⟩
 cases b with
 |false=>
  rw[ag ⋯]at q
  rw[ag ⋯]
  exact hd.nx σ' M2 σ1 H2 q (e1.trans e2) v2 (hs1.ext e2)
 |true=>
  rw[ar rfl]at q;rw[ar rfl];refine⟨λσ3 H3=>∃σ4 M4 m',aK X.K H3 σ4 σ3/\View X.K H3 M4/\(m'<m/\W m' σ4 M4)/\Ext H H3,λσ3 H3 ⟨σ4,M4,m',a,b,c,d⟩=>⟨m',c.1,σ4,M4,a,b,c.2,d⟩,?_⟩
  have e12:=e1.trans e2;refine⟨σ',M2,_,hs1.ext e2,v2,q,⟨λσ4 M4 σ04 H4 q4 e4 v4 r4=>?_,(hd.ext e12).rt,(hd.ext e12).nx,λσ4 M4 σ04 H4 q4 e4 v4 r4=>?_⟩⟩
  . obtain⟨m',a,b⟩:=q4
    exact⟨σ4,M4,m',r4,v4,⟨a,b⟩,e12.trans e4⟩
  . obtain⟨m',a,b⟩:=q4
    exact⟨σ4,M4,m',r4,v4,⟨a,b⟩,e12.trans e4⟩
def DK(i j:Nat)(ta:bA):cD:=λD σ M=>ta σ M λrs M1=>match rs with
 | [v,w]=>D.nx ((σ.set i (some v)).set j (some w)) M1
 |_=>False
theorem OO{i j:Nat}{x y:Str}{a b:Expr}{ta:bA}{px py pt:Pos}{kt k2:Nat}{pt2 pos:Pos}(hc:X.calm=true)(hN:X.N.Nodup)(hi:X.N[i]? =some x)(hj:X.N[j]? =some y)(hij:i≠j)
 (hx:X.env.scope.names.lookup x=some .local) (hy:X.env.scope.names.lookup y=some .local) (ha:d9 X [a,b] ta)
 (hw:swappedStores [.Tuple [.Name x px,.Name y py] kt pt] (.Tuple [a,b] k2 pt2) X.env=pure (some [x,y])):
 ee X (.Assign [.Tuple [.Name x px,.Name y py] kt pt] (.Tuple [a,b] k2 pt2) pos) (DK i j ta):=PS.imp (Wh hc hN hi hj hij hx hy ha hw) λD0 σ0 H h=>by
 obtain⟨σ,M,D,hs,hv,ht,hd⟩:=h;refine⟨σ,M,_,hs,hv,ht,λrs M1 vs H1 q e1 v1 r1=>?_⟩
 split at q
 . rename_i v w
   obtain⟨v',w',rfl,a1,a2⟩:=r1.two;exact⟨v',w',rfl,hd.nx _ M1 _ H1 q e1 v1 (((hs.ext e1).set a1 i).set a2 j)⟩
 . exact q.elim
noncomputable def sN (C:Addr)(f:Str)(tv:ak)(σ:aY)(N:RM->Prop):aj:=λx M=>match x with
 | .ref a=>match M a with
  |some (.ins C' fs)=>C'=C/\match fs.lookup f with
   |some (.int i)=>tv σ M λy M2=>match y with
    | .int j=>match M2 a with
     |some (.ins C2 fs2)=>C2=C/\fs2.length<1000/\N (put M2 a (.ins C (jy f (.int (i+j)) fs2)))
     |_=>False
    |_=>False
   |_=>False
  |_=>False
 |_=>False
def MM(C:Addr)(f:Str)(ta tv:ak):cD:=λD σ M=>ta σ M (sN C f tv σ (D.nx σ))
theorem ZW{C:Addr}{f:Str}{o value:Expr}{ta tv:ak}{tpos pos:Pos}(hc:cy X.K C)(hn:aQ X.K C f)(ha:ah X o ta)(hv:ah X value tv):ee X (.AugAssign (.Attribute o f tpos) .Add value pos) (MM C f ta tv):=PS.imp (RZ ha hv W6) λD0 σ0 H h=>by
 obtain⟨σ,M,D,hs,hv,ht,hd⟩:=h;refine⟨σ,M,_,hs,hv,ht,λrx M1 x H1 q e1 v1 r1=>?_⟩
 cases rx with
 |ref a=>
  simp only[Rep]at r1;subst r1;unfold sN at q;simp only at q;split at q
  . rename_i C' fs em
    obtain⟨rfl,q⟩:=q;split at q
    . rename_i i el
      obtain⟨ho,eo,dx,gs,rfl,hg⟩:=v1 a _ em;obtain⟨u,eu,ru⟩:=wG hg el;refine⟨a,C',dx,gs,u,rfl,eo,hc,hn,eu,σ,M1,_,hs.ext e1,v1,q,λry M2 y H2 q2 e2 v2 r2=>?_⟩
      cases ry with
      |int j=>
       simp only[Rep]at r2 ru;subst r2 ru;simp only at q2;split at q2
       . rename_i C2 fs2 em2
         obtain⟨rfl,hl,n⟩:=q2;obtain⟨ho2,eo2,dx2,gs2,rfl,hg2⟩:=v2 a _ em2;have ex:Ext H2 (upd H2 a (.ins C2 dx2 (eW f (.int (i+j)) gs2))):=Ext.write eo2 rfl;have e12:=(e1.trans e2).trans ex;exact⟨i,j,rfl,rfl,dx2,gs2,eo2,by rw[<-hR hg2];exact hl,hd.nx σ _ σ0 _ n e12 (v2.write em2 ⟨dx2,_,rfl,zY (by simp only[Rep]) (hg2.ext ex)⟩) (hs.ext e12)⟩
       . exact q2.elim
      |_=>exact(show False from q2).elim
    . exact q.elim
  . exact q.elim
 |_=>exact(show False from q).elim
end
def ck(h:Heap)(d:Addr)(es:Array DictEntry)(ep:Nat):Prop:=∃o,h.get? d=some o/\o.ExactDict/\o.data= .dict es ep
section
variable {prog:Program}{w:World}{A:Around}{E:aP}{s:Shared}{d it:Addr}{es:Array DictEntry}{ep i:Nat}
theorem ck.ty(x:ck s.heap d es ep):s.TypeIs (.ref d) "dict":=by
 obtain⟨o,h1,h2,h3⟩:=x;exact⟨o,h1,h2.1⟩
theorem Ql{Q:cI->Shared->Prop}(hit:s.heap.IsValIter it d i es.size ep)(hm:ck s.heap d es ep)(hi:i<es.size)
 (hQ:∀h',h'.IsValIter it d (i+1) es.size ep->Heap.SameBut it s.heap h'->Q (some es[i].val) { s with heap:=h' }):wpAny (model prog w) A (pyNext (.ref it)) Q E s:=by
 obtain⟨o,ho,hc,hd⟩:=id hit;obtain⟨od,hod,hcd,hdd⟩:=id hm;have ow:Builtin.Dict_items.ownsTuple "dict_valueiterator" =false:=by decide
 unfold pyNext;refine ai (wpAny_attempt (wpAny_callSpecial?_slot (name:=Str.ofString "__next__") hit.typeIs F.slot_dict_valueiterator_next (mC F.slot_dict_valueiterator_next hit.typeIs F.entry_dict_valueiterator_next ?_ (F.args_dict_valueiterator_next_1 _))));refine ai (aJ (ai (ai ?_)))
 first|refine ai (wpAny_typeNameOfWhole_valiter hit.typeIs (aJ (ai (wpAny_fieldsOf ho hd ?_))))|refine ai (wpAny_typeNameOf_valiter hit.typeIs (aJ (ai (wpAny_fieldsOf ho hd ?_))))
 simp only[ow,jl,if_false];refine(?_:wpAny _ _ (if(Value.ref d==Value.none)=true then _ else _) _ _ s)
 rw[ag (show ¬(Value.ref d==Value.none)=true fromλz=>gL z)]
 refine ai (aJ (ai (vw hod hdd ?_)));rw[ag (by simp)];refine ai (aJ (ai (wpAny_dictEpoch hod hdd ?_)))
 rw[ag (by simp)];refine aJ ?_
 simp only[show ¬((i:Int)<0) by omega,if_false,Int.toNat_natCast,Array.getElem?_eq_getElem hi]
 first|refine ai (ai (wpAny_typeNameOfWhole_valiter hit.typeIs (aJ (ai (wpAny_isOneOf_valiter hit.typeIs ?_)))))|refine ai (ai (wpAny_typeNameOf_valiter hit.typeIs (aJ (ai (wpAny_isOneOf_valiter hit.typeIs ?_)))))
 refine(?_:wpAny _ _ (setField (.ref it) 1 (rawInt ((i:Int)+1)) >>= _) _ _ s);refine ai (wpAny_setField ho hd (by simp) ?_)
 have hit':(s.heap.update it (Obj.mapFields λa=>a.setIfInBounds 1 (rawInt ((i:Int)+1)))).IsValIter it d (i+1) es.size ep:=⟨_,Heap.get?_update_self _ ho (Obj.isFreed_of_fields (Obj.data_mapFields hd _)),(Obj.cls_mapFields ..).trans hc,by rw[Obj.data_mapFields hd];simp[rawInt]⟩
 refine ai (nQ (ai (wpAny_isOneOf_valiter (s:={ s with heap:=s.heap.update it (Obj.mapFields λa=>a.setIfInBounds 1 (rawInt ((i:Int)+1))) }) hit'.typeIs ?_)))
 refine ai (wpAny_isOneOf_valiter (s:={ s with heap:=s.heap.update it (Obj.mapFields (·.setIfInBounds 1 (rawInt ((i:Int)+1)))) }) hit'.typeIs (?_:_))
 refine(?_:wpAny _ _ (pure es[i].val) _ _ _);exact aJ (aJ ⟨_,rfl,aJ (hQ _ hit' (Heap.SameBut.update ..))⟩)
theorem Qp{Q:cI->Shared->Prop}(hh:A.handled=none)(hit:s.heap.IsValIter it d i es.size ep)(hm:ck s.heap d es ep)(hi:es.size<=i)(hQ:∀h',Heap.ExtBut it s.heap h'->Q none { s with heap:=h' }):
 wpAny (model prog w) A (pyNext (.ref it)) Q E s:=by
 obtain⟨o,ho,hc,hd⟩:=id hit;obtain⟨od,hod,hcd,hdd⟩:=id hm;have ow:Builtin.Dict_items.ownsTuple "dict_valueiterator" =false:=by decide
 unfold pyNext;refine ai (wpAny_attempt (wpAny_callSpecial?_slot (name:=Str.ofString "__next__") hit.typeIs F.slot_dict_valueiterator_next (mC F.slot_dict_valueiterator_next hit.typeIs F.entry_dict_valueiterator_next ?_ (F.args_dict_valueiterator_next_1 _))));refine ai (aJ (ai (ai ?_)))
 first|refine ai (wpAny_typeNameOfWhole_valiter hit.typeIs (aJ (ai (wpAny_fieldsOf ho hd ?_))))|refine ai (wpAny_typeNameOf_valiter hit.typeIs (aJ (ai (wpAny_fieldsOf ho hd ?_))))
 simp only[ow,jl,if_false];refine(?_:wpAny _ _ (if(Value.ref d==Value.none)=true then _ else _) _ _ s)
 rw[ag (show ¬(Value.ref d==Value.none)=true fromλz=>gL z)]
 refine ai (aJ (ai (vw hod hdd ?_)));rw[ag (by simp)];refine ai (aJ (ai (wpAny_dictEpoch hod hdd ?_)))
 rw[ag (by simp)];refine aJ ?_
 simp only[show ¬((i:Int)<0) by omega,if_false,Int.toNat_natCast,Array.getElem?_eq_none hi]
 first|refine ai (ai (wpAny_typeNameOfWhole_valiter hit.typeIs (aJ ?_)))|refine ai (ai (wpAny_typeNameOf_valiter hit.typeIs (aJ ?_)))
 refine(?_:wpAny _ _ (setField (.ref it) 0 .none >>= _) _ _ s);refine ai (wpAny_setField ho hd (by simp) ?_)
 refine(?_:wpAny _ _ (newExc (.type "StopIteration") [] >>= _) _ _ _);simp only[newExc,newTuple];refine ai (ai (jC ?_ (by size_fits)))
 refine ai (m:=firstArgMember _ _) (wpAny_of_eq (a:=Value.none) (by first|rfl|(simp only[firstArgMember];rfl)) (jC ?_ (by size_fits)))
 simp only[raiseNew];refine ai (wpAny_handled ?_);rw[show A.in1.handled=none from hh];refine ai (aJ (wpAny_throw ?_));refine ai (wpAny_isInstance (T:="StopIteration") (b:=true) ⟨_,eJ _ rfl,rfl⟩ isSubtype_stop ?_)
 exact aJ (hQ _ (((Heap.SameBut.update ..).extBut.push _).push _))
theorem RG{Q:aP}{v:Addr}(hv:s.heap.IsValuesView v d)(hm:ck s.heap d es ep)
 (hQ:Q (.ref s.heap.objs.size) { s with heap:=s.heap.push { cls:=.type "dict_valueiterator",data:=.fields #[.ref d,.int 0 0,.int es.size 0,.int ep 0] } }):wpAny (model prog w) A (pyIter (.ref v)) Q E s:=by
 obtain⟨ov,hov,hcv,hdv⟩:=id hv;obtain⟨o,ho,hc,hdat⟩:=id hm;have ow:Builtin.Dict_items.ownsTuple "dict_valueiterator" =false:=by decide
 refine wpAny_pyIter_slot hv.typeIs F.slot_dict_values_iter (mC F.slot_dict_values_iter hv.typeIs F.entry_dict_values_iter ?_ (F.args_dict_values_iter_1 _));unfold Builtin.«dict_values.__iter__» Builtin.Dict_items.dictOf Builtin.Dict_items.newIterator;refine ai (aJ (ai (ai (wpAny_field hov hdv (x:=.ref d) rfl (aJ (ai (ai (vw ho hdat (ai (wpAny_dictEpoch ho hdat ?_))))))))));simp only[ow,jl,if_false];refine jC (aJ ⟨_,rfl,"dict_valueiterator",_,⟨_,eJ _ rfl,rfl⟩,F.slot_dict_valueiterator_next.lookup,?_⟩);simpa[rawInt]using hQ
theorem QX(hd:(d==sysModules)=false):MeetsIn prog w (Builtin.«dict.values» ⟨[.ref d],[]⟩) (λ_ R s=>(∃es ep,ck s.heap d es ep)/\R (.ok (.ret (.ref s.heap.objs.size))) { s with heap:=s.heap.push { cls:=.type "dict_values",data:=.fields #[.ref d] } }):=
 .of_wp λA R s ⟨⟨es,ep,hm⟩,h⟩=>by
  have e0:Builtin.Dict.showsAll d=pure ():=by unfold Builtin.Dict.showsAll;rw[ag (by rw[hd];exact gL)]
  refine ai ?_;unfold Builtin.Dict.noArgs;refine ai (wpAny_notOrdered_dict hm.ty ?_);refine(aJ ?_:wpAny _ _ (pure d) _ _ s);refine(?_:wpAny _ _ (Builtin.Dict.showsAll d >>= _) _ _ s);rw[e0];exact ai (aJ (ai (jC (aJ ⟨_,rfl,h⟩))))
end
noncomputable def mm:HO->Nat
 | .dK kvs=>kvs.length
 | .dT kvs=>kvs.length
 |_=>0
def J3(u:HO)(i:Nat)(H:Hp)(x:V):Prop:=match u with
 | .dK kvs=>∃kv,kvs[i]? =some kv/\x=kV kv.1
 | .dT kvs=>∃kv b,kvs[i]? =some kv/\x= .ref b/\H b=some (.tup (kv.1.map oV))
 |_=>False
def valAt(u:HO)(i:Nat)(x:V):Prop:=match u with
 | .dK kvs=>∃kv,kvs[i]? =some kv/\x=kv.2
 | .dT kvs=>∃kv,kvs[i]? =some kv/\x=kv.2
 |_=>False
theorem wZ{α β:Type}{F:α->β->Prop}:∀{l:List α} {m:List β} {i:Nat} {b:β},Paired F l m->m[i]? =some b->∃a,l[i]? =some a/\F a b
 |_,_,_,_,.nil,e=>by simp at e
 |_,_,0,_,.cons r _,e=>by simp at e;subst e;exact⟨_,rfl,r⟩
 |_,_,i+1,b,.cons _ t,e=>by
  obtain⟨a,h1,h2⟩:=wZ (i:=i) t (by simpa using e)
  exact⟨a,by simpa using h1,h2⟩
theorem FI{k:Key}{u:Value}(h:jv k u=true):RelV (kV k) u:=by
 rcases iJ h with⟨i,t,rfl,rfl⟩|⟨x,t,rfl,rfl⟩
 . exact⟨t,rfl⟩
 . exact⟨t,rfl⟩
section
variable {X:Cx}{pins:aG}{σ:L2.St}{H:Hp}{s:Shared}{a:Addr}{o:Obj}{u:HO}
theorem FF(I:Inv X pins σ H s)(h:H a=some (.aV o u))(du:je u=true):∃es ep,o.data= .dict es ep/\ck s.heap a es ep/\(a==sysModules)=false/\es.size=mm u/\mm u<=sizeLine/\
 ∀i (hi:i<es.size),(∃x,J3 u i H x/\RelV x es[i].key)/\∃x,valAt u i x/\RelV x es[i].val:=by
 obtain⟨g,hz⟩:=I.au a _ h;cases u<;>first|(cases du;done)|skip
 . rename_i kvs
   obtain⟨z,y,vs,r,o',es,ep,e,c,dd,ks,ps,nd⟩:=hz;rw[g]at e;cases e;have hl:es.size=kvs.length:=by have:=ps.length;have h2:=Paired.length r;simp at this;omega
   refine⟨es,ep,dd,⟨o,g,c,dd⟩,y,hl,z,λi hi=>?_⟩
   have hv:i<vs.length:=by have:=ps.length;simp at this;omega
   obtain⟨p1,p2⟩:=ps.get? (e:=es[i]) (i:=i) (k:=vs[i].1) (v:=vs[i].2) (by simp[hi]) (by simp[hv])
   obtain⟨kv,k1,k2,k3⟩:=wZ (i:=i) r (by simp[hv]:vs[i]? =some vs[i])
   refine⟨⟨kV kv.1,⟨kv,k1,rfl⟩,?_⟩,kv.2,⟨kv,k1,rfl⟩,by rw[p2];exact k3⟩
   rw[k2];exact FI p1
 . rename_i kvs
   obtain⟨z,y,xs,r,o',es,ep,e,c,dd,he,nd⟩:=hz;rw[g]at e;cases e;have hl:es.size=kvs.length:=by have h2:=Paired.length r;have:=congrArg List.length he;simp at this;omega
   refine⟨es,ep,dd,⟨o,g,c,dd⟩,y,hl,z,λi hi=>?_⟩
   have hx:i<xs.length:=by have:=congrArg List.length he;simp at this;omega
   have he':es[i]=entryOfKey (tupleKind (optKind X.prog X.w)) xs[i]:=by
    have:=entry_at (knd:=tupleKind (optKind X.prog X.w)) he i;simpa[hi,hx]using this
   obtain⟨kv,k1,k2,k3,k4⟩:=wZ (i:=i) r (by simp[hx]:xs[i]? =some xs[i])
   rw[he'];exact⟨⟨.ref xs[i].2.1,⟨kv,xs[i].2.1,k1,rfl,k3⟩,rfl⟩,kv.2,⟨kv,k1,rfl⟩,k4⟩
end
noncomputable def zq (o:Obj)(a:Addr)(k:Bool):It:=
 ⟨λi H=>∃u,H a=some (.aV o u)/\je u=true/\i<mm u,λi H x H'=>H'=H/\∃u,H a=some (.aV o u)/\(if k=true then J3 u i H x else valAt u i x),λi H=>∃u,H a=some (.aV o u)/\je u=true/\mm u<=i⟩
noncomputable def kR:Key->RV
 | .inl i=>.int i
 | .inr x=>.str x
noncomputable def oR:bJ->RV
 |none=>.ao
 |some k=>kR k
noncomputable def lY (k:Bool)(kvs:bH):LR:=if k=true then kvs.map (λkv=>kR kv.1)else kvs.map (·.2)
noncomputable def lX (k:Bool)(kvs:List (TK×RV)):LR:=if k=true then kvs.map (λkv=>.tup (kv.1.map oR))else kvs.map (·.2)
theorem AO{K:ae}{H:Hp}(k:Key):Rep K H (kR k) (kV k):=by cases k<;>simp only[kR,kV,Rep]
theorem VE{K:ae}{H:Hp}(k:bJ):Rep K H (oR k) (oV k):=by
 cases k with
 |none=>simp only[oR,oV,Rep]
 |some k=>exact AO k
theorem Hq{K:ae}{H:Hp}:∀ks:TK,aa K H (ks.map oR) (ks.map oV)
 | []=>aa.nil
 |k::ks=>aa.cons (VE k) (Hq ks)
theorem qT{κ:Type}{K:ae}{H:Hp}:∀{xs:List (κ×RV)} {ws:List (κ×V)} {i:Nat} {w:κ×V},aF K H xs ws->ws[i]? =some w->∃r,xs[i]? =some (w.1,r)/\Rep K H r w.2
 | [],ws,i,w,h,e=>by have h:ws= []:=h;subst h;simp at e
 |(k,x)::r,ws,i,w,h,e=>by
  obtain⟨v,t,rfl,h1,h2⟩:=h;cases i with
  |zero=>simp at e;subst e;exact⟨x,by simp,h1⟩
  |succ i=>
   obtain⟨q,a,b⟩:=qT (i:=i) h2 (by simpa using e)
   exact⟨q,by simpa using a,b⟩
section
variable {H0 Hs:Hp}{K:ae}{H1:Hp}{a:Addr}{o:Obj}{k:Bool}
theorem Ja{kvs:bH}{ws:List (Key×V)}{un:RM->RM}(h:H1 a=some (.aV o (.dK ws)))(r:aF K H1 kvs ws)
 (th:∀H M,Ext H1 H->View K H M->M a=some (.fk kvs)->∃H',eD H0 H H'/\bg H H'/\Ext Hs H'/\View K H' (un M)):iq H0 Hs K (zq o a k) (lY k kvs) (λM=>M a=some (.fk kvs)) un H1 where
 turn:=λi H M e hv hm x hx=>by
  have hH:=e.aI _ _ _ h;have hl:(lY k kvs).length=ws.length:=by rw[<-hR r];unfold lY;split<;>simp
  have hi:i<ws.length:=by rw[<-hl];exact(jE.mp hx).1
  refine⟨⟨_,hH,rfl,hi⟩,λv H' y=>?_⟩
  obtain⟨rfl,u,hu,y⟩:=y;rw[hH]at hu;cases hu;refine⟨.refl _,λ_ w=>w,?_⟩
  cases k with
  |true=>
   rw[ar rfl]at y;obtain⟨kv,e1,rfl⟩:=y;obtain⟨q,e2,_⟩:=qT r e1;have:x=kR kv.1:=by simpa[lY,e2]using hx.symm
   rw[this];exact AO _
  |false=>
   rw[ag ⋯]at y
   obtain⟨kv,e1,rfl⟩:=y;obtain⟨q,e2,rq⟩:=qT r e1;have:x=q:=by simpa[lY,e2]using hx.symm
   rw[this];exact Rep.ext e _ _ rq
 stop:=λi H M e hv hm hi=>by
  have hl:(lY k kvs).length=ws.length:=by rw[<-hR r];unfold lY;split<;>simp
  exact⟨_,e.aI _ _ _ h,rfl,by rw[hl]at hi;exact hi⟩
 bY:=th
theorem I0{kvs:List (TK×RV)}{ws:List (TK×V)}{un:RM->RM}(h:H1 a=some (.aV o (.dT ws)))(r:aF K H1 kvs ws)
 (th:∀H M,Ext H1 H->View K H M->M a=some (.ft kvs)->∃H',eD H0 H H'/\bg H H'/\Ext Hs H'/\View K H' (un M)):iq H0 Hs K (zq o a k) (lX k kvs) (λM=>M a=some (.ft kvs)) un H1 where
 turn:=λi H M e hv hm x hx=>by
  have hH:=e.aI _ _ _ h;have hl:(lX k kvs).length=ws.length:=by rw[<-hR r];unfold lX;split<;>simp
  have hi:i<ws.length:=by rw[<-hl];exact(jE.mp hx).1
  refine⟨⟨_,hH,rfl,hi⟩,λv H' y=>?_⟩
  obtain⟨rfl,u,hu,y⟩:=y;rw[hH]at hu;cases hu;refine⟨.refl _,λ_ w=>w,?_⟩
  cases k with
  |true=>
   rw[ar rfl]at y;obtain⟨kv,b,e1,rfl,hb⟩:=y;obtain⟨q,e2,_⟩:=qT r e1;have:x= .tup (kv.1.map oR):=by simpa[lX,e2]using hx.symm
   rw[this];simp only[Rep];exact⟨b,_,rfl,hb,Hq _⟩
  |false=>
   rw[ag ⋯]at y
   obtain⟨kv,e1,rfl⟩:=y;obtain⟨q,e2,rq⟩:=qT r e1;have:x=q:=by simpa[lX,e2]using hx.symm
   rw[this];exact Rep.ext e _ _ rq
 stop:=λi H M e hv hm hi=>by
  have hl:(lX k kvs).length=ws.length:=by rw[<-hR r];unfold lX;split<;>simp
  exact⟨_,e.aI _ _ _ h,rfl,by rw[hl]at hi;exact hi⟩
 bY:=th
end
noncomputable def Dg (k:Bool)(Q:LR->(RM->Prop)->(RM->RM)->RM->Prop):aj:=λv M1=>match v with
 | .ref a=>match M1 a with
  |some (.dk kvs)=>Q (lY k kvs) (λM=>M a=some (.fk kvs)) (λM=>put M a (.dk kvs)) (put M1 a (.fk kvs))
  |some (.dt kvs)=>Q (lX k kvs) (λM=>M a=some (.ft kvs)) (λM=>put M a (.dt kvs)) (put M1 a (.ft kvs))
  |some (.fk kvs)=>Q (lY k kvs) (λM=>M a=some (.fk kvs)) id M1
  |some (.ft kvs)=>Q (lX k kvs) (λM=>M a=some (.ft kvs)) id M1
  |_=>False
 |_=>False
section
variable {X:Cx}{tg:Expr}
theorem hold{pins:aG}{σ0:L2.St}{H H1:Hp}{s:Shared}{k:Bool}{Q:LR->(RM->Prop)->(RM->RM)->RM->Prop}{rv:RV}{v:V}{M1:RM}(I:Inv X pins σ0 H1 s)(e1:Ext H H1)(v1:View X.K H1 M1)(r1:Rep X.K H1 rv v)(q:Dg k Q rv M1):
 ∃a o u H2 xs ok un M2,v= .ref a/\Inv X pins σ0 H2 s/\H2 a=some (.aV o u)/\je u=true/\iq X.H₀ H X.K (zq o a k) xs ok un H2/\Q xs ok un M2/\Ext H H2/\View X.K H2 M2:=by
 cases rv<;>first|(exact(show False from q).elim)|skip
 rename_i a;simp only[Rep]at r1;unfold Dg at q;simp only at q;split at q
 . rename_i kvs em
   obtain⟨ho,eh,ws,rfl,r⟩:=v1 a _ em;obtain⟨ob,g,I2,n0⟩:=uz I eh rfl;have ex:Ext H1 (upd H1 a (.aV ob (.dK ws))):=Ext.write eh rfl;refine⟨a,ob,.dK ws,_,_,_,_,_,r1,I2,c0,rfl,Ja c0 (r.ext ex) λH2 M e hv hm=>?_,q,e1.trans ex,v1.write em ⟨ob,ws,rfl,r.ext ex⟩⟩
   have hH:=e.aI _ _ _ (c0 (H:=H1) (a:=a) (o:=.aV ob (.dK ws)));have xw:bg H2 (upd H2 a (.dK ws)):=bg.bY hH rfl;refine⟨upd H2 a (.dK ws),.inr ⟨a,ob,_,hH,rfl,n0,rfl⟩,xw,⟨λb xs z=>?_,λb o' u' z=>?_⟩,hv.write hm ⟨ws,rfl,aF.aR xw (r.ext (ex.trans e))⟩⟩
   . have z1:=e.bb _ _ (ex.bb _ _ (e1.bb _ _ z))
     rw[aD (by rintro rfl;rw[hH]at z1;cases z1)];exact z1
   . have z0:=e1.aI _ _ _ z
     rw[aD (by rintro rfl;rw[eh]at z0;cases z0)];exact e.aI _ _ _ (ex.aI _ _ _ z0)
 . rename_i kvs em
   obtain⟨ho,eh,ws,rfl,r⟩:=v1 a _ em;obtain⟨ob,g,I2,n0⟩:=uz I eh rfl;have ex:Ext H1 (upd H1 a (.aV ob (.dT ws))):=Ext.write eh rfl;refine⟨a,ob,.dT ws,_,_,_,_,_,r1,I2,c0,rfl,I0 c0 (r.ext ex) λH2 M e hv hm=>?_,q,e1.trans ex,v1.write em ⟨ob,ws,rfl,r.ext ex⟩⟩
   have hH:=e.aI _ _ _ (c0 (H:=H1) (a:=a) (o:=.aV ob (.dT ws)));have xw:bg H2 (upd H2 a (.dT ws)):=bg.bY hH rfl;refine⟨upd H2 a (.dT ws),.inr ⟨a,ob,_,hH,rfl,n0,rfl⟩,xw,⟨λb xs z=>?_,λb o' u' z=>?_⟩,hv.write hm ⟨ws,rfl,aF.aR xw (r.ext (ex.trans e))⟩⟩
   . have z1:=e.bb _ _ (ex.bb _ _ (e1.bb _ _ z))
     rw[aD (by rintro rfl;rw[hH]at z1;cases z1)];exact z1
   . have z0:=e1.aI _ _ _ z
     rw[aD (by rintro rfl;rw[eh]at z0;cases z0)];exact e.aI _ _ _ (ex.aI _ _ _ z0)
 . rename_i kvs em
   obtain⟨ho,eh,ob,ws,rfl,r⟩:=v1 a _ em;exact⟨a,ob,.dK ws,H1,_,_,_,_,r1,I,eh,rfl,Ja eh r (mS e1),q,e1,v1⟩
 . rename_i kvs em
   obtain⟨ho,eh,ob,ws,rfl,r⟩:=v1 a _ em;exact⟨a,ob,.dT ws,H1,_,_,_,_,r1,I,eh,rfl,I0 eh r (mS e1),q,e1,v1⟩
 . exact q.elim
theorem Vp{pins:aG}{σ0:L2.St}{H:Hp}{s:Shared}{a:Addr}{o:Obj}{u:HO}(I:Inv X pins σ0 H s)(h:H a=some (.aV o u))(du:je u=true):s.TypeIs (.ref a) "dict"/\∀b,Value.ref a= .ref b->∃ob,s.heap.get? b=some ob/\ob.dict=none:=by
 obtain⟨es,ep,hd,rd,_⟩:=FF I h du;refine⟨rd.ty,λb e=>?_⟩
 cases e;obtain⟨o1,h1,h2,h3⟩:=rd;exact⟨o1,h1,h2.2.1⟩
end
noncomputable def Itm (o:Obj)(a:Addr):It:=
 ⟨λi H=>∃ws:List (Key×V),H a=some (.aV o (.dK ws))/\i<ws.length,λi H x H'=>∃(ws:List (Key×V)) (kv:Key×V) (p:Addr),H a=some (.aV o (.dK ws))/\ws[i]? =some kv/\x= .ref p/\H p=none/\H'=upd H p (.tup [kV kv.1,kv.2]),λi H=>∃ws:List (Key×V),H a=some (.aV o (.dK ws))/\ws.length<=i⟩
section
variable {X:Cx}
theorem Ap{pins:aG}{σ:L2.St}{H:Hp}{s:Shared}{a:Addr}{o:Obj}{ws:List (Key×V)}(I:Inv X pins σ H s)(h:H a=some (.aV o (.dK ws))):∃vs es ep,o.data= .dict es ep/\KV ws vs/\s.heap.DictAt (dW X.prog X.w) a vs ep/\(a==sysModules)=false/\vs.length=es.size:=by
 obtain⟨g,z,y,vs,r,o',es,ep,e,c,dd,ks,ps,nd⟩:=I.au a _ h;rw[g]at e;cases e;exact⟨vs,es,ep,dd,r,⟨o,es,g,c,dd,ks,ps,nd⟩,y,by have:=ps.length;simp at this;omega⟩
theorem Qm:entryFor table "dict_itemiterator.__iter__" =some Builtin.«dict_keyiterator.__iter__»:=entryFor_alias (id':="dict_keyiterator.__iter__") (by kernel_rfl) rfl (by decide+kernel) (by kernel_rfl)
theorem RC{P:Program}{w:World}{K:ae}{o:Obj}{a it:Addr}{es:Array DictEntry}{ep:Nat}{ts:aX}{tk:Nat}{tp:Pos}(hd:o.data= .dict es ep):Turn P w K (.Tuple ts tk tp) (Itm o a) [it] it (λi h=>∃ok ov,IsItemIter h it a i es.size ep ok ov) where
 mem:=by simp
 obj:=λi h st b hb=>by
  have e:b=it:=by simpa using hb
  subst e;obtain⟨_,_,st⟩:=st;exact⟨_,st,λv z=>by cases z⟩
 keep:=λi h h' st k=>by obtain⟨x,y,st⟩:=st;exact⟨x,y,k it (by simp) _ st⟩
 item:=by
  intro X hP hw hK hc i pins s σ H E I hf ⟨x0,y0,st⟩ ⟨ws,hg,hi⟩;subst hP hw hK;obtain⟨vs,es',ep',d',r,da,hS,hl⟩:=Ap I hg;rw[hd]at d';cases d';have hv:i<vs.length:=by have:=Paired.length r;omega
  obtain⟨kv,k1,k2,k3⟩:=wZ (i:=i) r (by simp[hv]:vs[i]? =some vs[i])
  obtain⟨f0,f1,f2,f3,f4,f5⟩:=hf it (by simp)
  refine wpAny_pyNext_items_item (knd:=dW X.prog X.w) (k:=vs[i].1) (v:=vs[i].2) (by rw[hl];exact st) da (by simp[hv]) λkey h' hk st' tp' sz kp=>⟨_,rfl,?_⟩
  refine wpAny_letOwnedTupleGo_items (s:={ s with heap:=h' }) st' λh2 st2 sb=>?_
  have ej:=I.au.fresh (aS s.heap.objs.size);have hpi:s.heap.objs.size≠it:=Nat.ne_of_gt (bE st);have t2:h2.get? s.heap.objs.size=some { cls:=.type "tuple",data:=.seq #[key,vs[i].2] }:=sb.extBut _ _ hpi tp';have rk:Vals [kV kv.1,kv.2] [key,vs[i].2]:=.cons (by rw[k2];exact FI hk) (.cons k3 .nil)
  have I1:Inv X pins σ (upd H s.heap.objs.size (.tup [kV kv.1,kv.2])) { s with heap:=s.heap.push { cls:=.type "tuple",data:=.seq #[key,vs[i].2] },toks:=s.toks }:=
   I.laid (λb o e=>bT _ e) (aS _) ⟨by show 2<=sizeLine;decide,[key,vs[i].2],rk,IsTup.new s.heap _⟩
  have I2:Inv X pins σ (upd H s.heap.objs.size (.tup [kV kv.1,kv.2])) { s with heap:=h2 }:=Inv.turned (s:={ s with heap:=s.heap.push { cls:=.type "tuple",data:=.seq #[key,vs[i].2] },toks:=s.toks }) (h':=h2) (t':=s.toks) (it:=it) I1 (λb o hb e=>?_) (by rw[aD hpi.symm];exact f0) f1 f3 f4 f5
  . exact⟨.ref s.heap.objs.size,_,I2,rfl,⟨ws,kv,_,hg,k1,rfl,ej,rfl⟩,⟨_,_,by rw[<-hl];exact st2⟩,λb hb=>by
     have e:b=it:=by simpa using hb
     subst e;rw[aD hpi.symm];exact f0⟩
  . rcases Heap.get?_push_cases e with⟨rfl,rfl⟩|e'
    . exact t2
    . exact sb.extBut b o hb (kp b o hb e')
 done:=by
  intro X hP hw hK hc i pins s σ H E I hf ⟨x0,y0,st⟩ ⟨ws,hg,hi⟩;subst hP hw hK;obtain⟨vs,es',ep',d',r,da,hS,hl⟩:=Ap I hg;rw[hd]at d';cases d';have hv:vs.length<=i:=by have:=Paired.length r;omega
  obtain⟨f0,f1,f2,f3,f4,f5⟩:=hf it (by simp)
  exact wpAny_pyNext_items_end (knd:=dW X.prog X.w) (I.ok.hd hc) (by rw[hl];exact st) da (by simp[hv]) λh' eb=>⟨rfl,I.turned (t':=s.toks) (λb o hb e=>eb b o hb e) f0 f1 f3 f4 f5⟩
 self:=λA i s Q E st h=>by
  obtain⟨x,y,st⟩:=st;have hT:s.TypeIs (.ref it) "dict_itemiterator":=⟨_,st,rfl⟩;refine wpAny_pyIter_slot hT F.slot_dict_itemiterator_iter (mC F.slot_dict_itemiterator_iter hT Qm ?_ (F.args_dict_itemiterator_iter_1 _));refine(?_:wpAny _ _ (ret (.ref it)) _ _ s);exact aJ ⟨_,rfl,"dict_itemiterator",_,hT,F.slot_dict_itemiterator_next.lookup,h⟩
noncomputable def i4 (kvs:bH):LR:=kvs.map λkv=>.tup [kR kv.1,kv.2]
theorem Jb{H0 Hs:Hp}{K:ae}{H1:Hp}{a:Addr}{o:Obj}{kvs:bH}{ws:List (Key×V)}{un:RM->RM}(h:H1 a=some (.aV o (.dK ws)))(r:aF K H1 kvs ws)
 (th:∀H M,Ext H1 H->View K H M->M a=some (.fk kvs)->∃H',eD H0 H H'/\bg H H'/\Ext Hs H'/\View K H' (un M)):iq H0 Hs K (Itm o a) (i4 kvs) (λM=>M a=some (.fk kvs)) un H1 where
 turn:=λi H M e hv hm x hx=>by
  have hH:=e.aI _ _ _ h;have hl:(i4 kvs).length=ws.length:=by rw[<-hR r];simp[i4]
  have hi:i<ws.length:=by rw[<-hl];exact(jE.mp hx).1
  refine⟨⟨_,hH,hi⟩,λv H' y=>?_⟩
  obtain⟨ws',kv,p,hu,e1,rfl,hn,rfl⟩:=y;rw[hH]at hu;cases hu;obtain⟨q,e2,rq⟩:=qT r e1;have:x= .tup [kR kv.1,q]:=by simpa[i4,e2]using hx.symm
  rw[this];exact⟨Ext.new hn,λ_ w=>w.new hn,xN hn (aa.cons (AO _) (aa.cons (Rep.ext e _ _ rq) aa.nil))⟩
 stop:=λi H M e hv hm hi=>by
  have hl:(i4 kvs).length=ws.length:=by rw[<-hR r];simp[i4]
  exact⟨_,e.aI _ _ _ h,by rw[hl]at hi;exact hi⟩
 bY:=th
noncomputable def rO (Q:LR->(RM->Prop)->(RM->RM)->RM->Prop):aj:=λv M1=>match v with
 | .ref a=>match M1 a with
  |some (.dk kvs)=>Q (i4 kvs) (λM=>M a=some (.fk kvs)) (λM=>put M a (.dk kvs)) (put M1 a (.fk kvs))
  |some (.fk kvs)=>Q (i4 kvs) (λM=>M a=some (.fk kvs)) id M1
  |_=>False
 |_=>False
def C0(te:ak):gu:=λσ M Q=>te σ M (rO Q)
theorem ZA{pins:aG}{σ0:L2.St}{H H1:Hp}{s:Shared}{Q:LR->(RM->Prop)->(RM->RM)->RM->Prop}{rv:RV}{v:V}{M1:RM}(I:Inv X pins σ0 H1 s)(e1:Ext H H1)(v1:View X.K H1 M1)(r1:Rep X.K H1 rv v)(q:rO Q rv M1):
 ∃a o ws H2 xs ok un M2,v= .ref a/\Inv X pins σ0 H2 s/\H2 a=some (.aV o (.dK ws))/\iq X.H₀ H X.K (Itm o a) xs ok un H2/\Q xs ok un M2/\Ext H H2/\View X.K H2 M2:=by
 cases rv<;>first|(exact(show False from q).elim)|skip
 rename_i a;simp only[Rep]at r1;unfold rO at q;simp only at q;split at q
 . rename_i kvs em
   obtain⟨ho,eh,ws,rfl,r⟩:=v1 a _ em;obtain⟨ob,g,I2,n0⟩:=uz I eh rfl;have ex:Ext H1 (upd H1 a (.aV ob (.dK ws))):=Ext.write eh rfl;refine⟨a,ob,ws,_,_,_,_,_,r1,I2,c0,Jb c0 (r.ext ex) λH2 M e hv hm=>?_,q,e1.trans ex,v1.write em ⟨ob,ws,rfl,r.ext ex⟩⟩
   have hH:=e.aI _ _ _ (c0 (H:=H1) (a:=a) (o:=.aV ob (.dK ws)));have xw:bg H2 (upd H2 a (.dK ws)):=bg.bY hH rfl;refine⟨upd H2 a (.dK ws),.inr ⟨a,ob,_,hH,rfl,n0,rfl⟩,xw,⟨λb xs z=>?_,λb o' u' z=>?_⟩,hv.write hm ⟨ws,rfl,aF.aR xw (r.ext (ex.trans e))⟩⟩
   . have z1:=e.bb _ _ (ex.bb _ _ (e1.bb _ _ z))
     rw[aD (by rintro rfl;rw[hH]at z1;cases z1)];exact z1
   . have z0:=e1.aI _ _ _ z
     rw[aD (by rintro rfl;rw[eh]at z0;cases z0)];exact e.aI _ _ _ (ex.aI _ _ _ z0)
 . rename_i kvs em
   obtain⟨ho,eh,ob,ws,rfl,r⟩:=v1 a _ em;exact⟨a,ob,ws,H1,_,_,_,_,r1,I,eh,Jb eh r (mS e1),q,e1,v1⟩
 . exact q.elim
theorem W8{l:Expr}{te:ak}{ap p:Pos}{ts:aX}{tk:Nat}{tp:Pos}(hl:ah X l te)(hbase:attributeBase l "items" X.env (eval l X.env)=eval l X.env)(hline:(ap.endLine==p.line)=true):iV X (.Tuple ts tk tp) (.Call (.Attribute l "items" ap) [] [] p) (C0 te):=by
 intro pins s σ0 H R I h;obtain⟨σ,M,Q,hs,hv,ht,hk⟩:=h;refine wpAny_Call_method (T:="dict") (id:="dict.items") hbase rfl hline F.plainAttrs_dict F.slot_dict_items F.type_dict_items (ay (hl pins s σ0 H (λx H1=>∃rv M1,Rep X.K H1 rv x/\rO Q rv M1/\Ext H H1/\View X.K H1 M1) I ⟨σ,M,_,hs,hv,ht,λrv M1 v H1 q e1 v1 r1=>⟨rv,M1,r1,q,e1,v1⟩⟩) λuv s1 zz=>?_);obtain⟨v,H1,I1,rl,rv,M1,r1,q,e1,v1⟩:=zz
 obtain⟨a,o,ws,H2,xs,ok,un,M2,rfl,I2,hH,it,q,e2,v2⟩:=ZA I1 e1 v1 r1 q;cases(show uv=Value.ref a from rl)
 obtain⟨vs,es,ep,hd,r,da,hS,hl⟩:=Ap I2 hH;obtain⟨t1,t2⟩:=Vp I2 hH rfl;refine⟨t1,t2,method_meetsIn F.slot_dict_items F.entry_dict_items rfl (PySem.evalArgs_none ⟨rfl,t1,F.args_dict_items_1 _,_,meets_dict_items (dW X.prog X.w) a hS,⟨vs,da.dictOf⟩,?_⟩)⟩;have I3:Inv X pins σ0 H2 { s1 with heap:=s1.heap.push { cls:=.type "dict_items",data:=.fields #[.ref a] } }:=I2.kept (t':=s1.toks) λb o e=>bT _ e
 refine wpAny_pyIter_items (s:={ s1 with heap:=s1.heap.push { cls:=.type "dict_items",data:=.fields #[.ref a] } }) ⟨_,eJ _ rfl,rfl,rfl⟩ (da.push _) ?_
 have hlt:a<s1.heap.objs.size:=da.lt_size;refine⟨_,[_],_,_,H2,rfl,I3.kept (t':=s1.toks) λb o e=>bT _ e,RC hd,⟨_,_,by rw[<-hl];exact eJ _ rfl⟩,λb hb=>?_,hk xs ok un M2 _ H2 q e2 v2 it⟩
 have e:=iT.mp hb;subst e;exact I3.gU (aS _) (I3.au.fresh (aS _))
end
section
variable {prog:Program}{w:World}{A:Around}{d r:Addr}{es:Array DictEntry}{ep:Nat}
theorem ck.keep{h h':Heap}(x:ck h d es ep)(k:∀o,h.get? d=some o->h'.get? d=some o):ck h' d es ep:=by obtain⟨o,h1,h2⟩:=x;exact⟨o,k o h1,h2⟩
theorem ck.lt{h:Heap}(x:ck h d es ep):d<h.objs.size:=by obtain⟨o,h1,h2⟩:=x;exact bE h1
theorem RA(hh:A.handled=none)(I:Addr)(hne:d≠I):Walks prog w A I [I,d] [I] es.size (λi v=>∃hi:i<es.size,v=es[i].val) (λi h=>h.IsValIter I d i es.size ep/\ck h d es ep) where
 sub:=λb hb=>by simp at hb;simp[hb]
 frame:=λ_ _ _ st hk=>⟨st.1.at λo e=>hk I (by simp) o e,st.2.keep λo e=>hk d (by simp) o e⟩
 item:=λi s Q E hi st hQ=>Ql st.1 st.2 hi λh' hit' hs'=>hQ _ h' s.toks ⟨hi,rfl⟩ ⟨hit',st.2.keep λo e=>hs'.extBut d o hne e⟩ λb o hb e=>hs'.extBut b o (λh=>hb (by simp[h])) e
 done:=λs Q E st hQ=>Qp hh st.1 st.2 (aS _) λh' he'=>hQ h' s.toks λb o hb e=>he' b o (λh=>hb (by simp[h])) e
 self:=λ_ _ _ _ st hQ=>wpAny_pyIter_valiter st.1 hQ
theorem TB:PySem.W.KdlSrc prog w "dict_values" r d es.size (λi v=>∃hi:i<es.size,v=es[i].val) (λh=>h.IsValuesView r d/\ck h d es ep) where
 type:=λ_ hm=>hm.1.typeIs
 there:=λ_ hm=>⟨let⟨_,ho,_⟩:=hm.1;bE ho,hm.2.lt⟩
 keep:=λ_ _ hm hk=>⟨let⟨o,ho,x⟩:=hm.1;⟨o,hk r (.inl rfl) o ho,x⟩,hm.2.keep λo e=>hk d (.inr rfl) o e⟩
 notList:=by decide
 notTuple:=by decide
 hint:=λ_ _ _ _ hm hq=>PySem.W.kdl_hint_values hm.1.typeIs hq
 iter:=λ_ _ hh hm=>⟨_,_,(λ_ _ hq=>RG hm.1 hm.2 hq),RA hh _ (cS hm.2.lt),⟨⟨_,eJ _ rfl,rfl,rfl⟩,hm.2.keep λo e=>bT _ e⟩⟩
end
noncomputable def uV:RO->Option (LR)
 | .dk kvs=>some (kvs.map (·.2))
 | .fk kvs=>some (kvs.map (·.2))
 | .dt kvs=>some (kvs.map (·.2))
 | .ft kvs=>some (kvs.map (·.2))
 |_=>none
def sQ(md:Bool)(Q:aj):aj:=λv M=>match v with
 | .ref a=>match(M a).bind uV with
  |some xs=>jA md xs M Q
  |none=>False
 |_=>False
def MF(md:Bool)(te:ak):ak:=λσ M Q=>te σ M (sQ md Q)
section
variable {X:Cx}
theorem t6{κ:Type}{K:ae}{H:Hp}:∀{xs:List (κ×RV)} {ws:List (κ×V)},aF K H xs ws->aa K H (xs.map (·.2)) (ws.map (·.2))
 | [],ws,h=>by have h:ws= []:=h;subst h;exact aa.nil
 |(k,x)::r,ws,h=>by obtain⟨v,t,rfl,h1,h2⟩:=h;exact aa.cons h1 (t6 h2)
theorem Xh{pins:aG}{σ0:L2.St}{H:Hp}{s:Shared}{a:Addr}{o:RO}{xs:LR}{M:RM}(I:Inv X pins σ0 H s)(hv:View X.K H M)(hm:M a=some o)(hd:uV o=some xs):
 ∃vs es ep,ck s.heap a es ep/\(a==sysModules)=false/\es.size=vs.length/\vs.length<=sizeLine/\aa X.K H xs vs/\∀i (hi:i<es.size),∃x,vs[i]? =some x/\RelV x es[i].val:=by
 obtain⟨ho,eh,r⟩:=hv a o hm;have key:∀(u:HO) (H2:Hp) (ob:Obj) (vs:LV),Inv X pins σ0 H2 s->H2 a=some (.aV ob u)->je u=true->(∀i x,valAt u i x->vs[i]? =some x)->mm u=vs.length->aa X.K H xs vs->∃vs es ep,ck s.heap a es ep/\(a==sysModules)=false/\es.size=vs.length/\vs.length<=sizeLine/\aa X.K H xs vs/\∀i (hi:i<es.size),∃x,vs[i]? =some x/\RelV x es[i].val:=λu H2 ob vs I2 h2 du hva hl hr=>by
  obtain⟨es,ep,hd,rd,hS,e1,e2,hall⟩:=FF I2 h2 du;exact⟨vs,es,ep,rd,hS,by rw[e1,hl],by rw[<-hl];exact e2,hr,λi hi=>by obtain⟨_,x,k1,k2⟩:=hall i hi;exact⟨x,hva i x k1,k2⟩⟩
 have vK:∀(ws:List (Key×V)) i x,valAt (.dK ws) i x->(ws.map (·.2))[i]? =some x:=λws i x ⟨kv,e,z⟩=>by rw[gj,e,z];rfl
 have vT:∀(ws:List (TK×V)) i x,valAt (.dT ws) i x->(ws.map (·.2))[i]? =some x:=λws i x ⟨kv,e,z⟩=>by rw[gj,e,z];rfl
 cases o<;>first|(cases hd;done)|skip
 . obtain⟨ws,rfl,hg⟩:=r
   cases hd;obtain⟨ob,g,I2,n0⟩:=uz I eh rfl;exact key _ _ ob (ws.map (·.2)) I2 c0 rfl (vK ws) (by simp[mm]) (t6 hg)
 . obtain⟨ws,rfl,hg⟩:=r
   cases hd;obtain⟨ob,g,I2,n0⟩:=uz I eh rfl;exact key _ _ ob (ws.map (·.2)) I2 c0 rfl (vT ws) (by simp[mm]) (t6 hg)
 . obtain⟨ob,ws,rfl,hg⟩:=r
   cases hd;exact key _ _ ob (ws.map (·.2)) I eh rfl (vK ws) (by simp[mm]) (t6 hg)
 . obtain⟨ob,ws,rfl,hg⟩:=r
   cases hd;exact key _ _ ob (ws.map (·.2)) I eh rfl (vT ws) (by simp[mm]) (t6 hg)
theorem Fe:∀{vs:LV} {us:aq},us.length=vs.length->(∀(i:Nat) u,us[i]? =some u->∃x,vs[i]? =some x/\RelV x u)->Vals vs us
 | [],[],_,_=>.nil
 | [],_::_,h,_=>by cases h
 |_::_,[],h,_=>by cases h
 |v::vs,u::us,h,f=>by
  obtain⟨x,e,r⟩:=f 0 u rfl;cases e;exact .cons r (Fe (by simpa using h) λi u e=>f (i+1) u (by simpa using e))
theorem ZT{l:Expr}{te:ak}{md:Bool}{p1 ap p2 pos:Pos}(hml:X.mg "list" =none)(hc:X.calm=true)(hl:ah X l te)(hgl:Gl X "list")(hbase:attributeBase l "values" X.env (eval l X.env)=eval l X.env)(hline:(ap.endLine==p2.line)=true):
 ah X (.Call (.Name "list" p1) [.Call (.Attribute l "values" ap) [] [] p2] [] pos) (MF md te):=by
 intro pins s σ0 H Q0 I h;obtain⟨σ,M,Q,hs,hv,ht,hk⟩:=h;have he0:starEach [Expr.Call (.Attribute l "values" ap) [] [] p2] X.env=(false,eval (Expr.Call (.Attribute l "values" ap) [] [] p2) X.env)::starEach [] X.env:=rfl;refine Call_ (m6 I hgl hml boot_list (vE ?_ he0 rfl));rw[he0];show wpAny _ _ (spliced ((false,eval (Expr.Call (.Attribute l "values" ap) [] [] p2) X.env)::backTo pos (starEach [] X.env))) _ _ s;refine Calls.spliced_cons (wpAny_Call_method (T:="dict") (id:="dict.values") hbase rfl hline F.plainAttrs_dict F.slot_dict_values F.type_dict_values (ay (hl pins s σ0 H (λx H1=>∃rv M1,Rep X.K H1 rv x/\sQ md Q rv M1/\Ext H H1/\View X.K H1 M1) I ⟨σ,M,_,hs,hv,ht,λrv M1 v H1 q e1 v1 r1=>⟨rv,M1,r1,q,e1,v1⟩⟩) λuv s1 zz=>?_));obtain⟨v,H1,I1,rl,rv,M1,r1,q,e1,v1⟩:=zz
 cases rv<;>first|(exact(show False from q).elim)|skip
 rename_i a;simp only[Rep]at r1;subst r1;cases(show uv=Value.ref a from rl)
 unfold sQ at q;simp only at q;split at q
 . rename_i xs ex
   obtain⟨o,hm,hd⟩:=Option.bind_eq_some_iff.mp ex;obtain⟨vs,es,ep,rd,hS,e2,e3,hr,hall⟩:=Xh I1 v1 hm hd;refine⟨rd.ty,λb e=>by cases e;obtain⟨o1,h1,h2,h3⟩:=rd;exact⟨o1,h1,h2.2.1⟩,method_meetsIn F.slot_dict_values F.entry_dict_values rfl (PySem.evalArgs_none ⟨rfl,rd.ty,F.args_dict_values_1 _,_,QX hS,⟨es,ep,rd⟩,Calls.spliced_nil ?_⟩)⟩
   have I3:Inv X pins σ0 H1 { s1 with heap:=s1.heap.push { cls:=.type "dict_values",data:=.fields #[.ref a] } }:=I1.kept (t':=s1.toks) λb o e=>bT _ e
   refine PySem.W.kdl_call (s:={ s1 with heap:=s1.heap.push { cls:=.type "dict_values",data:=.fields #[.ref a] } }) TB (I3.ok.hd hc) ⟨⟨_,eJ _ rfl,rfl,rfl⟩,rd.keep λo e=>bT _ e⟩ (by rw[e2];exact e3) λh' tk acc c' kp hget hit=>?_
   have hv':Vals vs acc.toList:=Fe (by simp[hit.1,e2]) λi u e=>by
    obtain⟨hi,rfl⟩:=hit.2 i u (by rw[<-Array.getElem?_toList];exact e)
    exact hall i hi
   have ej:=I3.au.fresh (aS _);have I4:=I3.laid (t':=tk) (o:=.lst vs) (h':=h') kp (aS _) ⟨e3,acc.toList,c',hv',by simpa using hget⟩
   cases md with
   |true=>exact⟨.ref _,_,I4,rfl,hk (.ref _) _ _ _ (q _ (v1.free ej)) (e1.trans (Ext.new ej)) (v1.cM ej ⟨vs,rfl,aa.ext (Ext.new ej) _ _ hr⟩) (by simp only[Rep])⟩
   |false=>exact frozen ⟨.ref _,_,I4,rfl,H1,_,vs,rfl,ej,rfl,λo=>hk _ M1 _ _ q (e1.trans (Ext.new ej)) (v1.new ej) (lS ej hr)⟩
 . exact q.elim
end
noncomputable def js:bJ->bJ->Bool
 |some (.inl _),some (.inl _)=>true
 |some (.inr _),some (.inr _)=>true
 |_,_=>false
noncomputable def mi (r:TK):RV:=.tup (r.map oR)
section
variable {X:Cx}
noncomputable abbrev gI (i:Int):Str:=Str.ofString (toString i)
theorem RX{i:Int}(h0:0<=i)(h1:i<10000000000):i.natAbs.log2<1920:=by
 by_cases hz:i.natAbs=0
 . rw[hz];decide
 . rw[Nat.log2_lt hz]
   refine eR (show i.natAbs<1099511627776 by omega) ?_
   have e:(1099511627776:Nat)=2 ^ 40:=by decide
   rw[e];exact Nat.pow_le_pow_right ⋯ ⋯
def JD:LR->RM->aj->Prop:=λrs M Q=>match rs with
 | [.int i]=>0<=i/\i<10000000000/\Q (.str (gI i)) M
 |_=>False
theorem Ph:cZ X (.type "str") (fe X.K JD):=by
 intro pins s σ H xs us Q0 I rl h;obtain⟨rs,M,Q,rr,hv,hq,hk⟩:=h
 match rs,hq with
 | [.int i],hq=>
  obtain⟨h0,h1,hq⟩:=hq;simp only[aa,Rep]at rr;obtain⟨v,r,rfl,rfl,rfl⟩:=rr;exact Q3 pins s σ H _ us Q0 I rl ⟨i,rfl,RX h0 h1,hk _ M _ H hq (.refl H) hv (by simp only[Rep])⟩
variable {tg:Expr}{pos:Pos}
end
section
variable {prog:Program}{w:World}{A:Around}{s:Shared}{E:aP}
structure yi(v:Str)(params:Arguments)(scope:Scope):Prop where
 bd:∀name qual body pm cd ct u,bindArgs (kla_fn name qual params body scope [] pm cd ct) ⟨[u],[]⟩=pure [(v,u)]
 loc:scope.names.lookup v=some .local
 cell:∀y∈scope.names,y.2≠.cell
 co:scope.isCoroutine=false
 gen:scope.isGenerator=false
 kind:scope.kind= .function
 iE:(v==("__debug__":Str))=false
theorem c8.kp{h h':Heap}{x dx C:Addr}{mA:bj}(O:c8 h x dx C mA)(k:∀b o,h.get? b=some o->h'.get? b=some o):c8 h' x dx C mA:=
 let⟨o,es,ep,ho,r⟩:=O.ns;⟨k _ _ O.obj,⟨o,es,ep,k _ _ ho,r⟩,O.ne⟩
theorem UE{K:Frag}{f c' x C dx:Addr}{name qual v fld:Str}{params:Arguments}{scope:Scope}{pm ctv u:Value}{mA:bj}{p1 p2:Pos}{Q:aP}
 (hroom:A.depth<recursionLimit) (js:K.In s.heap) (lim:s.heap.NoLimit) (L:yi v params scope)
 (ho:s.heap.get? f=some (kla_obj name qual params (.Attribute (.Name v p1) fld p2) scope [] pm c' ctv)) (hcd:s.heap.CodeRec (.ref c') qual)
 (O:c8 s.heap x dx C mA) (c:cy K C) (n:aQ K C fld) (hu:mA fld=some u) (hh:handedIn u=true)
 (h:∀h' tk,(∀b o,s.heap.get? b=some o->h'.get? b=some o)->Q u { s with heap:=h',toks:=tk }):
 wpAny (model prog w) A (call (.ref f) [.ref x]) Q E s:=by
 refine wpAny_call (kla_callFunE hroom ho rfl L.co L.gen rfl hcd ?_);rw[L.bd];refine aJ (wpAny_newFunctionEnv L.cell (λy hy=>by cases iT.mp hy;exact L.loc) (λh₁ hns hsb=>⟨lim.fresh _ hsb,kla_codeExpr ?_⟩) L.kind)
 have kp:∀b o,s.heap.get? b=some o->h₁.get? b=some o:=λb o e=>hsb.extBut b o (cS (bE e)) (bT _ e)
 refine HR rfl (wpAny_Name (wpAny_loadName_local (v:=Value.ref x) L.kind (show _=_ from L.loc) hns (by simp) ?_) L.iE)
 refine get_map (K:=K) (js.keeps kp) (c8.kp O kp) (c.get fld) c.hd n hu hh ?_;exact h _ _ kp
end
section
variable {X:Cx}{pins:aG}{σ:L2.St}{H:Hp}{s:Shared}{h':Heap}
theorem Yi{l f c' C:Addr}{name qual v fld:Str}{params:Arguments}{scope:Scope}{pm ctv:Value}{p1 p2:Pos}{as:List Addr}{ks:List Int}{Q:aP}{E:aP}(I:Inv X pins σ H s)
 (hl:s.heap.IsList l (as.map Value.ref).toArray) (hlen:ks.length=as.length) (h64:as.length<64) (hi:∀(i:Nat) a k,as[i]? =some a->ks[i]? =some k->∃dx fs,H a=some (.ins C dx fs)/\fs.lookup fld=some (.int k))
 (hroom:X.A.depth<recursionLimit) (L:yi v params scope) (ho:s.heap.get? f=some (kla_obj name qual params (.Attribute (.Name v p1) fld p2) scope [] pm c' ctv)) (hcd:s.heap.CodeRec (.ref c') qual)
 (c:cy X.K C) (n:aQ X.K C fld)
 (h:∀D h' tk out ep,(∀m,s.heap.Ns X.env.locals m->h'.Ns X.env.locals m)->(∀b o,b≠X.env.locals->s.heap.get? b=some o->h'.get? b=some o)->s.heap.get? D=none->D≠X.env.locals->h'.get? D=some (seqObj "list" out ep)->KskOut false ks (as.map Value.ref) out.toList->Q (.ref D) { s with heap:=h',toks:=tk }):
 wpAny (model X.prog X.w) X.A (call (.builtin "sorted") [.ref l] [(Str.ofString "key",.ref f)]) Q E s:=by
 obtain⟨m,F⟩:=I.fr;have nL:∀b,(∃m',s.heap.Ns X.env.locals m')->b=X.env.locals->∀o,s.heap.get? b=some o->∃es ep,o.data= .dict es ep:=λb ⟨m',o',es,ep,q,d,_⟩ e o z=>by
  rw[e,q]at z;cases z;exact⟨es,ep,d⟩
 have fL:f≠X.env.locals:=λe=>by obtain⟨_,_,d⟩:=nL f ⟨m,F.ns⟩ e _ ho;cases d
 have ho':=ho;obtain⟨c1,oc,vc,tc,ec,gc,dc,qc⟩:=hcd;cases ec;have cL:c'≠X.env.locals:=λe=>by obtain⟨_,_,d⟩:=nL c' ⟨m,F.ns⟩ e _ gc;rw[dc]at d;cases d
 have aL:∀b u,H b=some u->b≠X.env.locals:=λb u e z=>by rw[z,I.free]at e;cases e
 refine ksk_sorted (h₀:=X.base) (news:=rest X.base s.heap X.env.locals s.heap.objs.size) (kz:=ks) (f:=.ref f) F (λp hp=>T8 p (dJ.mp hp).1) hl (by rw[bw];exact hlen) (by rw[bw];exact h64) (ksk_s1 _ _) (λx=>ksk_l1 _ _) (λx=>ksk_t1 f x) ?turn ?fin
 case turn=>
  intro i v' k hv hk h1 tk own F1 N1;rw[gj]at hv;cases ea:as[i]? with
  |none=>rw[ea]at hv;cases hv
  |some a=>
   rw[ea]at hv;cases hv;obtain⟨dx,fs,e1,e2⟩:=hi i a k ea hk;have kp:∀b o,b≠X.env.locals->s.heap.get? b=some o->h1.get? b=some o:=λb o hb e=>Fd (d:=s.heap.objs.size) I.bk F1 (λp hp=>N1 p (y9 _ hp)) b o hb (cS (bE e)) e
   obtain⟨mA,O,r,_,_,hdx⟩:=xH I.au e1;obtain⟨u,hu,ru⟩:=bK.some_of (v:=V.int k) (o:=mA fld) (by rw[<-e2];exact r fld)
   obtain⟨t,rfl⟩:=(show ∃t,u=Value.int k t from ru)
   obtain⟨od,es,ep,g1,g2⟩:=O.ns;have O1:c8 h1 a dx C mA:=⟨kp _ _ (aL a _ e1) O.obj,⟨od,es,ep,kp _ _ (aL dx _ hdx) g1,g2⟩,O.ne⟩;refine UE (K:=X.K) (s:={ s with heap:=h1,toks:=tk }) hroom (I.ok.mod.js.keeps F1.keep) (I.ok.mod.nolimit.keeps F1.keep) L (kp _ _ fL ho') ⟨c',oc,vc,tc,rfl,kp _ _ cL gc,dc,qc⟩ O1 c n hu rfl λh2 tk2 k2=>?_
   exact KskEnd.intro ⟨(by obtain⟨o,es,ep,g,r⟩:=F1.ns;exact⟨o,es,ep,k2 _ _ g,r⟩),λb o e=>k2 b o (F1.keep b o e),F1.above⟩ (λp hp=>⟨k2 _ _ (N1 p hp).1,(N1 p hp).2⟩) λp hp=>hp
 case fin=>
  intro D h1 tk out ep F1 N1 lt ko;have kp:∀b o,b≠X.env.locals->s.heap.get? b=some o->h1.get? b=some o:=λb o hb e=>Fd (d:=s.heap.objs.size) I.bk F1 (λp hp=>N1 p (gk _ hp)) b o hb (cS (bE e)) e
  have hD:=N1 (D,seqObj "list" out ep) iA;refine h D h1 tk out ep (λm' hm'=>by rw[hm'.eq_nsMap,<-F.ns.eq_nsMap];exact F1.ns) kp ?_ hD.2.1 hD.1 ko
  cases q:s.heap.get? D with
  |none=>rfl
  |some o=>exact bp (lt _ (GI hD.2.1 hD.2.2 q (cS (bE q)))) (mE _)
end
theorem AG{P:Program}{w:World}{H:Hp}{h:Heap}{a:Addr}{pos:Pos}{x:Option Addr}(e:fC a pos x h):aB P w H h a (.ext (fC a pos x)):=⟨e,⟨_,e⟩,λ_ _ e k=>k _ e⟩
section
variable {X:Cx}{pins:aG}{σ:L2.St}{H:Hp}{s:Shared}{P c c':Addr}{pos:Pos}{h':Heap}{u:HO}{oc:Obj}
theorem Inv.qb{t':Nat}(I:Inv X pins σ H s)(hP:H P=some (.ext (fC P pos none)))(k:∀b o,b≠P->s.heap.get? b=some o->h'.get? b=some o)(hc:s.heap.objs.size<=c')(hoc:h'.get? c'=some oc)(ht:fC P pos (some c') h'):
 Inv X pins σ (upd (upd H P (.ext (fC P pos (some c')))) c' (.aV oc (.own c'))) { s with heap:=h',toks:=t' }:=by
 have hn:H c'=none:=I.au.fresh hc;have cP:c'≠P:=bC (fb hP hn);have nP:∀b,H b=none->b≠P:=λb n z=>by rw[z,hP]at n;cases n
 have nc:∀b o,s.heap.get? b=some o->b≠c':=λb o e=>cS (eR (bE e) hc)
 have kp:∀b u,H b=some u->b≠P->upd (upd H P (.ext (fC P pos (some c')))) c' (.aV oc (.own c')) b=some u:=λb u e z=>by rw[aD (fb e hn),aD z];exact e
 have np:∀b u,H b=some u->u≠.ext (fC P pos none)->b≠P:=λb u e z y=>by subst y;rw[hP]at e;exact z (dP e).symm
 refine I.un ⟨λb o e n _ _=>k b o (nP b n) e,λb o e n _ _=>⟨o.slots,k b o (nP b n) e⟩,λb o e n _=>(aD (nc b o e)).trans ((aD (nP b n)).trans n),λb o e _=>?_,λb xs e=>kp b _ e (np b _ e nofun),λb o u e=>kp b _ e (np b _ e nofun),λb ps e=>⟨#[],(kp b _ e (np b _ e nofun)).trans (by simp)⟩⟩ λb u e=>?_
 . by_cases z:b=P
   . exact⟨_,z ▸ ht⟩
   . exact⟨o,k b o z e⟩
 . by_cases z:b=c'
   . subst z;rw[c0]at e;cases e;exact⟨hoc,_,hoc⟩
   . rw[aD z]at e
     by_cases y:b=P
     . subst y;rw[c0]at e;cases e;exact AG ht
     . rw[aD y]at e
       refine(I.au b u e).eG (λd v hd q=>k d v ?_ q) (λd q=>kp d _ q (np d _ q nofun)) λd xs q=>kp d _ q (np d _ q nofun)
       rcases hd with rfl|q
       . exact y
       . exact np d _ q nofun
theorem Uh{q:Str}{ho:HO}{params:Arguments}{body:Expr}{scope:Scope}{M:Model}{A:Around}{E:aP}{Q:aP}(I:Inv X pins σ H s)(hP:H P=some ho)(r:cK X.K H (.tb P pos q) ho)
 (hcode:X.env.code= .ref c) (C:CodeHd X.base c P) (hb:X.base.BuiltinsAt X.mg P) (hgP:mainGlobals≠P) (hdef:defaultsOf params X.env=([],[])) (hcl:closureFor scope X.env=pure []) (hq:X.env.qual++("<lambda>":Str)=q)
 (h:∀f c' ctv h' tk H',Inv X pins σ H' { s with heap:=h',toks:=tk }->Ext H H'->(∀b u,H b=some u->b≠P->H' b=some u)->(∃ho',H' P=some ho'/\cK X.K H' (.tb P pos q) ho')->
  h'.get? f=some (kla_obj "<lambda>" q params body scope [] ((X.mg "__name__").getD .none) c' ctv)->h'.CodeRec (.ref c') q->Q (.ref f) { s with heap:=h',toks:=tk }):
 wpAny M A (eval (.Lambda params body scope pos) X.env) Q E s:=by
 subst hq;have hg:s.heap.Ns mainGlobals X.mg:=by obtain⟨o,es,ep,e,z⟩:=I.ok.mod.glob;exact⟨o,es,ep,I.bk _ _ e,z⟩
 have hb':s.heap.BuiltinsAt X.mg P:=by obtain⟨bm,o,b1,b2,b3,b4,b5,b6⟩:=hb;exact⟨bm,o,b1,b2,b3,b4,I.bk _ _ b5,b6⟩
 refine kla_eval hdef ?_;rcases r with rfl|⟨c',oc,vs,t,rfl,hc',hd,hv⟩
 . have ht:fC P pos none s.heap:=(I.au P _ hP).1
   refine kla_makeFunction (mg:=X.mg) (clos:=[]) (ps:=#[]) hcl I.ok.glob hg hcode (C.keeps I.bk) ht (by first|trivial|decide|simp[TriplesOk]) rfl hgP hb' λc' ctv h1 tk hx hge hlt hrec htb=>?_
   obtain⟨c2,oc,vs,t,e2,hoc,hd,hv⟩:=hrec;cases e2;have I':=R.Inv.qb (t':=tk) (h':=h1.push (kla_obj "<lambda>" (X.env.qual++("<lambda>":Str)) params body scope [] ((X.mg "__name__").getD .none) c' ctv)) (c':=c') (oc:=oc) I hP (λb o hb e=>bT _ (hx b o hb e)) hge (bT _ hoc) (bT _ htb)
   have hn:H c'=none:=I.au.fresh hge;have cP:c'≠P:=bC (fb hP hn);have kp:∀b u,H b=some u->b≠P->upd (upd H P (.ext (fC P pos (some c')))) c' (.aV oc (.own c')) b=some u:=λb u e z=>by rw[aD (fb e hn),aD z];exact e
   have np:∀b u,H b=some u->u≠.ext (fC P pos none)->b≠P:=λb u e z y=>by subst y;rw[hP]at e;exact z (dP e).symm
   refine h _ c' ctv _ tk _ I' ⟨λb xs e=>kp b _ e (np b _ e nofun),λb o u e=>kp b _ e (np b _ e nofun)⟩ kp ⟨_,by rw[aD (bC cP)];exact c0,.inr ⟨c',oc,vs,t,rfl,c0,hd,hv⟩⟩ (eJ _ rfl) ⟨c',oc,vs,t,rfl,bT _ hoc,hd,hv⟩
 . have ht:fC P pos (some c') s.heap:=(I.au P _ hP).1
   have hoc:s.heap.get? c'=some oc:=(I.au c' _ hc').1;refine kla_makeFunctionHit (mg:=X.mg) (clos:=[]) (ps:=#[rawInt pos.line,rawInt pos.col,.ref c']) (cv:=.ref c') hcl I.ok.glob hg hcode (C.keeps I.bk) ht (by first|trivial|decide|simp[TriplesOk]) (by simp[codeAmong,rawInt]) hb' λctv h1 tk hk hsz=>?_
   exact h _ c' ctv _ tk H (I.kept (t':=tk) λb o e=>bT _ (hk b o e)) (.refl H) (λb u e _=>e) ⟨_,hP,.inr ⟨c',oc,vs,t,rfl,hc',hd,hv⟩⟩ (eJ _ rfl) ⟨c',oc,vs,t,rfl,bT _ (hk _ _ hoc),hd,hv⟩
end
theorem Hu{K:Frag}{H:Hp}:∀{as:List Addr} {vs:LV},aa K H (as.map RV.ref) vs->vs=as.map V.ref
 | [],_,h=>by simpa only[qq,aa]using h
 |a::as,vs,h=>by
  simp only[cj,aa,Rep]at h;obtain⟨v,r,rfl,rfl,h2⟩:=h;rw[Hu h2];rfl
theorem GO:∀{as:List Addr} {us:aq},Vals (as.map V.ref) us->us=as.map Value.ref
 | [],_,h=>by rw[qq]at h;cases h;rfl
 |a::as,_,h=>by
  rw[cj]at h;cases h with
  |cons r t=>rw[GO t];cases(show _=Value.ref a from r);rfl
theorem Gw{K:Frag}{H:Hp}:∀{as:List Addr},aa K H (as.map RV.ref) (as.map V.ref)
 | []=>aa.nil
 |a::as=>aa.cons (by simp only[Rep]) Gw
theorem FZ:∀{as:List Addr},Vals (as.map V.ref) (as.map Value.ref)
 | []=>.nil
 |a::as=>.cons rfl FZ
noncomputable def adr:Value->Addr
 | .ref a=>a
 |_=>0
theorem Wy{kx:List (Int×Addr)}{out:aq}(h:KskOut false (kx.map Prod.fst) ((kx.map Prod.snd).map Value.ref) out):∃ys:List (Int×Addr),ys.Perm kx/\ys.Pairwise (λa b=>a.1<=b.1)/\out=(ys.map Prod.snd).map Value.ref:=by
 obtain⟨ps,hp,rfl,hw⟩:=h;have e:(kx.map Prod.fst).zip ((kx.map Prod.snd).map Value.ref)=kx.map λz=>(z.1,Value.ref z.2):=by rw[cE,List.zip_map'];rfl
 rw[e]at hp;have hm:∀p∈ps,p=(p.1,Value.ref (adr p.2)):=λp h=>by
  obtain⟨z,_,rfl⟩:=aW.mp (hp.mem_iff.mp h);rfl
 have pe:ps=(ps.map λp=>(p.1,adr p.2)).map λz=>(z.1,Value.ref z.2):=by
  rw[cE];exact(List.map_id ps).symm.trans (vF λp h=>hm p h)
 refine⟨ps.map λp=>(p.1,adr p.2),?_,?_,?_⟩
 . have:=hp.map λp=>(p.1,adr p.2)
   rwa [cE,show((λp:Int×Value=>(p.1,adr p.2)) ∘ λz:Int×Addr=>(z.1,Value.ref z.2))=id from rfl,List.map_id]at this
 . rw[List.pairwise_map];exact hw
 . conv=>lhs;rw[pe]
   rw[cE,cE,cE,cE];rfl
section
variable {X:Cx}{pins:aG}{σ:L2.St}{H:Hp}{s:Shared}{h':Heap}{D:Addr}{o:HO}
theorem Inv.sR{t':Nat}(I:Inv X pins σ H s)(k:∀b o,b≠X.env.locals->s.heap.get? b=some o->h'.get? b=some o)(ns:∀m,s.heap.Ns X.env.locals m->h'.Ns X.env.locals m)(hg:s.heap.get? D=none)(new:aB X.prog X.w (upd H D o) h' D o):Inv X pins σ (upd H D o) { s with heap:=h',toks:=t' }:=by
 have hn:=none_of I hg;have nl:∀b u,H b=some u->b≠X.env.locals:=λb u e z=>by rw[z,I.free]at e;cases e
 have kp:∀b u,H b=some u->upd H D o b=some u:=λb u e=>(aD (fb e hn)).trans e
 refine I.step (g':=s.gens) (d':=s.drawn) (ch:=[]) (λ_ z=>nomatch z) (λb o hL _ _ e _=>k b o hL e) (λb o hL _ _ e _=>⟨o.slots,k b o hL e⟩) (λb q _ e n=>(aD λz=>by rw[z,hg]at e;cases e).trans n) (λb o _ e=>?_) (λb _ e=>kp b _ e) (λb _ _ e=>kp b _ e) (λb ps e=>⟨#[],(kp b _ e).trans (by simp)⟩) ns (λb u e=>?_) I.bare
 . by_cases hb:b=X.env.locals
   . obtain⟨m,hn,_⟩:=I.loc
     obtain⟨o',_,_,q,_⟩:=ns m hn;exact⟨o',hb ▸ q⟩
   . exact⟨o,k b o hb e⟩
 . by_cases hb:b=D
   . subst hb;rw[c0]at e;cases e;exact new
   . rw[aD hb]at e
     refine(I.au b u e).eG (λc v hc q=>k c v ?_ q) (λc q=>kp c _ q) λc xs q=>kp c _ q
     rcases hc with z|z
     . rw[z];exact nl b u e
     . exact nl c _ z
end
noncomputable def zM (C:Addr)(fld:Str)(P:Addr)(lp:Pos)(q:Str)(Q:aj):aj:=λx M=>∃kx:List (Int×Addr),
 (x= .ls ((kx.map Prod.snd).map RV.ref)∨∃a,x= .ref a/\M a=some (.lst ((kx.map Prod.snd).map RV.ref)))/\(∀z∈kx,∃fs,M z.2=some (.ins C fs)/\fs.lookup fld=some (.int z.1))/\kx.length<64/\M P=some (.tb P lp q)/\
 ∀ys:List (Int×Addr),ys.Perm kx->ys.Pairwise (λa b=>a.1<=b.1)->Q (.ls ((ys.map Prod.snd).map RV.ref)) M
def MG(C:Addr)(fld:Str)(P:Addr)(lp:Pos)(q:Str)(te:ak):ak:=λσ M Q=>te σ M (zM C fld P lp q Q)
section
variable {X:Cx}{e:Expr}{te:ak}{p p1 p2 kp lp pos:Pos}{v fld q:Str}{params:Arguments}{scope:Scope}{C P cc:Addr}
theorem VU(he:ah X e te)(hm:X.mg "sorted" =none)(hg:Gl X "sorted")(c:cy X.K C)(n:aQ X.K C fld)(L:yi v params scope)(hroom:X.A.depth<recursionLimit)
 (hcode:X.env.code= .ref cc) (CH:CodeHd X.base cc P) (hb:X.base.BuiltinsAt X.mg P) (hgP:mainGlobals≠P) (hdef:defaultsOf params X.env=([],[])) (hcl:closureFor scope X.env=pure []) (hq:X.env.qual++("<lambda>":Str)=q)
 (s1:starEach [e] X.env=(false,eval e X.env)::starEach [] X.env):ah X (.Call (.Name "sorted" p) [e] [⟨some "key",.Lambda params (.Attribute (.Name v p1) fld p2) scope lp,kp⟩] pos) (MG C fld P lp q te):=by
 intro pins s σ0 H Q0 I h;obtain⟨σ,M,Q,hs,hv,ht,hk⟩:=h;have bt:bootBuiltins "sorted" =some (.builtin "sorted"):=by decide+kernel
 refine wpAny_Call_Name_kw (m6 I hg hm bt ?_);have bk:backTo pos (starEach [e] X.env)=(false,eval e X.env)::backTo pos (starEach [] X.env):=by rw[s1];rfl
 refine PyProof.Rows.callWith_kw ?_ bk (by rw[bk];rfl)
 rw[bk];refine Calls.spliced_cons (ay (he pins s σ0 H (λv H1=>∃x M1,zM C fld P lp q Q x M1/\Ext H H1/\View X.K H1 M1/\Rep X.K H1 x v) I ⟨σ,M,_,hs,hv,ht,λrv M' v H' q e w r=>⟨rv,M',q,e,w,r⟩⟩) λu s1 ⟨v1,H1,I1,r1,x,M1,⟨kx,hx,hi,h64,hP,hQ⟩,ex1,w1,rep⟩=>Calls.spliced_nil ?_)
 show wpAny _ _ (evalAll [do let v<-eval (.Lambda params (.Attribute (.Name v p1) fld p2) scope lp) X.env;standAt pos;pure v]) _ _ _
 obtain⟨ho,eP,rP⟩:=w1 P _ hP;refine wpAny_evalAll_cons (ai (Uh I1 eP rP hcode CH hb hgP hdef hcl hq λf c' ctv h2 tk H2 I2 ex2 kp2 ⟨ho2,eP2,rP2⟩ hof hcd=>ai (wpAny_standAt (aJ (wpAny_evalAll_nil ?_)))))
 have nP:∀b u,H1 b=some u->(∀φ,u≠.ext φ)->b≠P:=λb u e z y=>by
  subst y;rw[eP]at e;cases e;rcases rP with rfl|⟨_,_,_,_,rfl,_⟩<;>exact z _ rfl
 have w2:View X.K H2 M1:=λa o e=>by
  by_cases ha:a=P
  . subst ha;rw[hP]at e;cases e;exact⟨ho2,eP2,rP2⟩
  . obtain⟨ho',e1,r'⟩:=w1 a o e
    exact⟨ho',kp2 a _ e1 ha,r'.ext ex2⟩
 have lst:∃l,u= .ref l/\h2.IsList l ((kx.map Prod.snd).map Value.ref).toArray:=by
  have fin:∀(l:Addr) (vs:LV),cg X.K H2 l vs->aa X.K H2 ((kx.map Prod.snd).map RV.ref) vs->v1= .ref l->∃l,u= .ref l/\h2.IsList l ((kx.map Prod.snd).map Value.ref).toArray:=λl vs hs hr ev=>by
   subst ev;cases r1;obtain⟨ab,hw,⟨o,n,g1,g2,g3,g4⟩,hz⟩:=I2.list hs;rw[Hu hr]at hw;rw[GO hw]at g4;exact⟨l,rfl,o,g1,g2,n,g4⟩
  rcases hx with rfl|⟨a,rfl,ea⟩
  . simp only[Rep]at rep
    obtain⟨a,vs,ev,hf,hr⟩:=rep;exact fin a vs (hf.ext ex2).sq (aa.ext ex2 _ _ hr) ev
  . simp only[Rep]at rep
    obtain⟨ho',e1,vs,rfl,hr⟩:=w1 a _ ea;exact fin a vs (.inl (.inl (kp2 a _ e1 (nP a _ e1 nofun)))) (aa.ext ex2 _ _ hr) rep
 obtain⟨l,rfl,hl⟩:=lst;show wpAny _ _ (call (.builtin "sorted") [.ref l] [(Str.ofString "key",.ref f)]) _ _ _;refine Yi (as:=kx.map Prod.snd) (ks:=kx.map Prod.fst) I2 hl (by rw[bw,bw]) (by rw[bw];exact h64) (λi a k e1 e2=>?_) hroom L hof hcd c n λD h3 tk3 out ep ns kp3 hD nD hget ko=>?_
 . rw[gj]at e1 e2
   cases ez:kx[i]? with
   |none=>rw[ez]at e1;cases e1
   |some z=>
    rw[ez]at e1 e2;cases e1;cases e2;obtain⟨fs,m1,m2⟩:=hi z (jG ez);obtain⟨ho',g1,dx,gs,rfl,g2⟩:=w1 _ _ m1;obtain⟨u',l1,l2⟩:=wG g2 m2;simp only[Rep]at l2;exact⟨dx,gs,kp2 _ _ g1 (nP _ _ g1 nofun),l2 ▸ l1⟩
 . obtain⟨ys,hp,hw,eo⟩:=Wy ko
   have hn:=none_of I2 hD;have eo':out=((ys.map Prod.snd).map Value.ref).toArray:=by rw[<-eo]
   subst eo';refine frozen ⟨.ref D,upd H2 D (.lst ((ys.map Prod.snd).map V.ref)),Inv.sR (t':=tk3) I2 kp3 ns hD ⟨?_,_,ep,FZ,hget⟩,rfl,H2,D,_,rfl,hn,rfl,λo=>?_⟩
   . rw[bw,bw,hp.length_eq];exact bG (Nat.le_of_lt h64) ⋯
   . exact hk _ M1 _ _ (hQ ys hp hw) (ex1.trans (ex2.trans (Ext.new hn))) (w2.new hn) (lS hn Gw)
end
section
variable {X:Cx}
noncomputable def Yz:V->LV->Hp->VK->Prop:=λx vs H Q=>∃l xs i y,x= .ref l/\vs= [.int i,y]/\H l=some (.lst xs)/\0<=i/\i<=xs.length/\xs.length<sizeLine/\Q .ao (upd H l (.lst (xs.take i.toNat++y::xs.drop i.toNat)))
theorem R7:zr X "list.insert" Yz:=by
 intro pins s σ H x vs v us Q I rx rv h;obtain⟨l,xs,i,y,rfl,rfl,hH,h1,h2,hz,q⟩:=h;cases rx;obtain⟨u,w,rfl,ru,rw'⟩:=rv.two;obtain⟨t,rfl⟩:=ru;obtain⟨z,ab,n,r,hl,e⟩:=I.lD hH;have hs:sizeLine<2 ^ 63:=by decide
 refine call_meets F.slot_list_insert ⟨_,e,rfl⟩ F.entry_list_insert (F.args_list_insert_3 _ _ _)
  (AutoSeq1.list_insert_list_int_val_1 l ab.toArray n i t w (by rw[fitsIndex_both ∅ ∅];decide) (by rw[c7];omega)) ⟨e,?_⟩
 refine⟨.ao,_,I.o6 (its':=ab.take i.toNat++w::ab.drop i.toNat) hH e ?_ ((r.take _).append (.cons rw' (r.drop _))) ?_,rfl,q⟩
 . show(have k:=if i<0 then(i+(ab.toArray.size:Int)).toNat else min i.toNat ab.toArray.size;(ab.toArray.extract 0 k).push w++ab.toArray.extract k)=_
   have hk:(if i<0 then(i+(ab.toArray.size:Int)).toNat else min i.toNat ab.toArray.size)=i.toNat:=by
    rw[ag ∅,c7];omega
   simp only[hk];apply Array.ext';simp;exact List.take_of_length_le (by rw[vC];omega)
 . rw[cN,List.length_cons,vB,vC]
   omega
noncomputable def JF (to:ak)(t:bA):ak:=λσ M Q=>to σ M λx M1=>match x with
 | .ref p=>(∃ys,M1 p=some (.lst ys))/\t σ M1 λrs M2=>∃y ys,rs= [.int 0]/\M2 p=some (.lst (y::ys))/\Q y (put M2 p (.lst ys))
 |_=>False
theorem Y2{o e:Expr}{to:ak}{t:bA}{apos cpos:Pos}(ho:ah X o to)(ha:d9 X [e] t)
 (hbase:attributeBase o "pop" X.env (eval o X.env)=eval o X.env:=by rfl)
 (hfew:((backTo cpos (starEach [e] X.env)).all (λx=>!x.1)&&(backToKw cpos (keywordEach [] X.env)).all (λx=>x.1.isSome)&&decide ([e].length+([]:List Keyword).length+(if([]:List Keyword).isEmpty then 0 else 1)<30))=true:=by rfl)
 (hline:(apos.endLine==cpos.line)=true:=by rfl) (hs:starEach [e] X.env=(false,eval e X.env)::starEach [] X.env:=by rfl) (hplain:(backTo cpos (starEach [] X.env)).any (·.1)=false:=by rfl):
 ah X (.Call (.Attribute o "pop" apos) [e] [] cpos) (JF to t):=PE.imp (Ba PySem.F.plainAttrs_list PySem.F.slot_list_pop PySem.F.type_list_pop Ua ho ha hbase hfew hline hs hplain) λσ0 H Q0 h=>by
 obtain⟨σ,M,Q,hs,hv,ht,hk⟩:=h;refine⟨σ,M,_,hs,hv,ht,λrx M1 x H1 q e1 v1 r1=>?_⟩
 cases rx with
 |ref p=>
  obtain⟨⟨ys,hm⟩,q⟩:=q;simp only[Rep]at r1;subst r1;obtain⟨ho',e0,r0⟩:=v1 p _ hm;obtain⟨vs0,rfl,rr0⟩:=r0;refine⟨.inl ⟨rfl,_,cg.of e0⟩,σ,M1,_,hs.ext e1,v1,q,λrs M2 vs H2 q2 e2 v2 r2=>?_⟩
  obtain⟨y,ys2,rfl,hm2,q2⟩:=q2;obtain⟨v,rfl,r3⟩:=r2.one;simp only[Rep]at r3;subst r3;obtain⟨ho2,e3,r4⟩:=v2 p _ hm2;obtain⟨vs2,rfl,rr2⟩:=r4;obtain⟨w,ws,rfl,rw1,rw2⟩:=(by simpa only[aa]using rr2:∃v r,vs2=v::r/\Rep X.K H2 y v/\aa X.K H2 ys2 r)
  have ex:Ext H2 (upd H2 p (.lst ws)):=Ext.write e3 rfl;refine⟨p,w::ws,0,0,w,rfl,rfl,e3,⋯,⋯,?_,rfl,hk _ _ _ _ q2 ((e1.trans e2).trans ex) (v2.write hm2 ⟨_,rfl,?_⟩) (Rep.ext ex _ _ rw1)⟩
  . show seqIndex? 0 (ws.length+1)=some 0
    unfold seqIndex?;simp
  . exact aa.ext ex _ _ rw2
 |_=>exact(show False from q).elim
noncomputable def C3 (to:ak)(t:bA):ak:=λσ M Q=>to σ M λx M1=>match x with
 | .ref p=>(∃ys,M1 p=some (.lst ys))/\t σ M1 λrs M2=>∃i ys y,rs= [.int i,y]/\M2 p=some (.lst ys)/\0<=i/\i<=ys.length/\ys.length<sizeLine/\Q .ao (put M2 p (.lst (ys.take i.toNat++y::ys.drop i.toNat)))
 |_=>False
theorem Vf{o e f:Expr}{to:ak}{t:bA}{apos cpos:Pos}(ho:ah X o to)(ha:d9 X [e,f] t)
 (hbase:attributeBase o "insert" X.env (eval o X.env)=eval o X.env:=by rfl)
 (hfew:((backTo cpos (starEach [e,f] X.env)).all (λx=>!x.1)&&(backToKw cpos (keywordEach [] X.env)).all (λx=>x.1.isSome)&&decide ([e,f].length+([]:List Keyword).length+(if([]:List Keyword).isEmpty then 0 else 1)<30))=true:=by rfl)
 (hline:(apos.endLine==cpos.line)=true:=by rfl) (hs:starEach [e,f] X.env=(false,eval e X.env)::starEach [f] X.env:=by rfl) (hplain:(backTo cpos (starEach [f] X.env)).any (·.1)=false:=by rfl):
 ah X (.Call (.Attribute o "insert" apos) [e,f] [] cpos) (C3 to t):=PE.imp (Ba PySem.F.plainAttrs_list PySem.F.slot_list_insert PySem.F.type_list_insert R7 ho ha hbase hfew hline hs hplain) λσ0 H Q0 h=>by
 obtain⟨σ,M,Q,hs,hv,ht,hk⟩:=h;refine⟨σ,M,_,hs,hv,ht,λrx M1 x H1 q e1 v1 r1=>?_⟩
 cases rx with
 |ref p=>
  obtain⟨⟨ys,hm⟩,q⟩:=q;simp only[Rep]at r1;subst r1;obtain⟨ho',e0,r0⟩:=v1 p _ hm;obtain⟨vs0,rfl,rr0⟩:=r0;refine⟨.inl ⟨rfl,_,cg.of e0⟩,σ,M1,_,hs.ext e1,v1,q,λrs M2 vs H2 q2 e2 v2 r2=>?_⟩
  obtain⟨i,ys2,y,rfl,hm2,i1,i2,hz,q2⟩:=q2;obtain⟨v,w,rfl,r3,r5⟩:=r2.two;simp only[Rep]at r3;subst r3;obtain⟨ho2,e3,r4⟩:=v2 p _ hm2;obtain⟨vs2,rfl,rr2⟩:=r4;have ex:Ext H2 (upd H2 p (.lst (vs2.take i.toNat++w::vs2.drop i.toNat))):=Ext.write e3 rfl;have hl:=rr2.length;refine⟨p,vs2,i,w,rfl,rfl,e3,i1,∅,∅,hk _ _ _ _ q2 ((e1.trans e2).trans ex) (v2.write hm2 ⟨_,rfl,?_⟩) (by simp only[Rep])⟩
  exact aa.ext ex _ _ ((rr2.take _).append (.cons r5 (rr2.drop _)))
 |_=>exact(show False from q).elim
end
inductive T where
 |v (i:Nat)|i (n:Int)|s (x:Str)|b (x:Bool)|n
 |g (x:Str)|ty (x:String)
 |op (o:Operator) (a b:T)|cm (o:CmpOp) (a b:T)|ch (o p:CmpOp) (a b c:T)
 |an (a b:T)|or (a b:T)|no (a:T)|ng (a:T)|ie (t a b:T)
 |tu (a:T)|ll (a:T)|lm (a:T)|e0|ec (a r:T)
 |ix (a b:T)|sl (a l h:T)|p0|p1 (a:T)
 |fl (c:Nat) (f:Str) (a:T)
 |ca (f:Nat) (a:T)|me (f:Nat) (o a:T)|mk (c:Nat) (a:T)
 |bf (f:Str) (a:T)|bt (f:Str) (a:T)
 |ap (o a:T)
 |dg (d k:T)|dn (neg:Bool) (k d:T)|d1 (d k:T)|dk|dt
 |ic (neg:Bool) (a:T) (x:Str)
 |tx (x:Str) (a:T)|tn (x:Str) (a:T)|ti (x:Str) (a:T)
 |cv (i:Nat) (a:T)
 |cp (md tup:Bool) (nm:az) (cap:List (Nat×Str)) (it t e:T)
 |sc (i:Nat) (md tup:Bool) (nm:az) (cap:List (Nat×Str)) (it t e:T)
 |lr (a b:T)
 |im (a:T)|lv (md:Bool) (a:T)
 |pr (i j:Nat) (a:T)|wh (t b:T)|af (c:Nat) (f:Str) (o a:T)|dd (d k:T)
 |is (a:T)|r1 (a:T)|st (a:T)
 |set (i:Nat) (a:T)|un (is:List Nat) (a:T)|sf (c:Nat) (f:Str) (o a:T)|dp (d k a:T)|sp (l i a:T)
 |re (a:T)|r0|aZ (t a b:T)|fo (tup:Bool) (is:List Nat) (it b:T)|ex (a:T)|ra
 |se (a b:T)|en
 |sk (c:Nat) (f:Str) (a:T)
 |po (o a:T)|li (o a:T)
structure FD where
 kind:Nat
 cls:Nat
 name:Str
 ps:az
 N:az
 body:T
structure SI where
 gi:List (Str×Int)
 gt:List (Str×az)
 tb:az
 tt:List (Str×List (TK×Str))
 cl:az
 fs:List (Nat×Str)
 bl:az
 fd:List FD
 ln:az:=[""]
 lp:Pos:=⟨0,0,0,0⟩
 lq:Str:=""
structure G where
 S:SI
 tb:Str->bH
 C:Nat->Addr
 fn:Nat->bO
 lz:Nat->bO
 gP:List (Addr×bO)
 lP:Addr
def fY:Operator->cb
 | .Add=>yu| .Sub=>DG| .Mult=>CS| .Mod=>CT| .FloorDiv=>C5| .Pow=>DJ
 |_=>λ_ _ _ _=>False
noncomputable def eE:CmpOp->cb
 | .Lt=>ME| .LtE=>MD| .Gt=>MB| .GtE=>MA| .Eq=>C4| .NotEq=>CQ| .Is=>MC| .IsNot=>IH| .In=>yp false| .NotIn=>yp true
noncomputable def Cy:String->RV->Option Bool:=λx=>if x= "int" then Jd else if x= "bool" then is_bool else if x= "str" then Jc else if x= "tuple" then GN else if x= "list" then HJ elseλ_=>none
noncomputable def Bx:LR->RM->aj->Prop:=λrs M Q=>match rs with
 | [.ref a,.ty "list"]=>match M a with|some (.lst _)=>Q (.bl true) M|_=>False
 | [x,.ty t]=>match Cy t x with|some c=>Q (.bl c) M|none=>False
 |_=>False
noncomputable def Bd:LR->RM->aj->Prop:=λrs M Q=>match rs with
 | [.ref a]=>match M a with
  |some (.lst xs)=>Q (.int xs.length) M
  |some (.dk kvs)=>Q (.int kvs.length) M
  |some (.dt kvs)=>Q (.int kvs.length) M
  |_=>False
 |rs=>yE rs M Q
noncomputable def fM (f:Str):LR->RM->aj->Prop:=
 if f= "len" then Bd else if f= "isinstance" then Bx else if f= "all" then C6 else if f= "max" then JJ else if f= "ord" then DL elseλ_ _ _=>False
def qy(f:Str):LR->RM->aj->Prop:=
 if f= "list" then Bc else if f= "str" then JD elseλ_ _ _=>False
noncomputable def qD (C:Addr)(f:Str)(Q:aj):aj:=λx M=>match x with
 | .ref a=>match M a with
  |some (.ins C' fs)=>C'=C/\match fs.lookup f with
   |some v=>Q v M
   |none=>False
  |_=>False
 |_=>False
def B9(C:Addr)(f:Str)(ta:ak):ak:=λσ M Q=>ta σ M (qD C f Q)
noncomputable def qE (C:Addr)(f:Str)(y:RV)(N:RM->Prop):aj:=λx M=>match x with
 | .ref a=>match M a with
  |some (.ins C' fs)=>C'=C/\fs.length<1000/\N (put M a (.ins C (jy f y fs)))
  |_=>False
 |_=>False
def Ca(C:Addr)(f:Str)(ta tv:ak):cD:=λD σ M=>tv σ M λy M1=>ta σ M1 (qE C f y (D.nx σ))
noncomputable def oW (C:Addr)(m:Str)(sp:bO)(t:bA)(σ:aY)(Q:aj):aj:=λx M=>match x with
 | .ref a=>match M a with
  |some (.ins C' fs)=>C'=C/\fs.lookup m=none/\t σ M λrs M2=>sp (.ref a::rs) M2 Q
  |_=>False
 |_=>False
def qd(C:Addr)(m:Str)(sp:bO)(ta:ak)(t:bA):ak:=λσ M Q=>ta σ M (oW C m sp t σ Q)
def iL:ak:=λ_ _ _=>False
structure Sm where
 E:ak:=λ_ _ _=>False
 T:cU:=λ_ _ _=>False
 A:bA:=λ_ _ _=>False
 I:gu:=λ_ _ _=>False
 P:nV:=λ_ _ _=>False
 S:cD:=λ_ _ _=>False
 L:List ak:=[]
noncomputable def ex (e:ak):Sm:={ E:=e,T:=jw e }
noncomputable def tr (Γ:G):T->Sm
 | .v i=>ex (pY i)
 | .i n=>ex (rC (.int n))
 | .s x=>ex (rC (.str x))
 | .b x=>ex (rC (.bl x))
 | .n=>ex (rC .ao)
 | .g x=>ex (match Γ.S.gi.lookup x with|some i=>rC (.int i)|none=>iL)
 | .ty x=>ex (rC (.ty x))
 | .op o a b=>ex (nz (fY o) (tr Γ a).E (tr Γ b).E)
 | .cm o a b=>ex (nz (eE o) (tr Γ a).E (tr Γ b).E)
 | .ch o p a b c=>ex (qZ (eE o) (eE p) (tr Γ a).E (tr Γ b).E (tr Γ c).E)
 | .an a b=>{ E:=ya (tr Γ a).E (tr Γ b).E,T:=yt (tr Γ a).T (tr Γ b).T }
 | .or a b=>{ E:=yD (tr Γ a).E (tr Γ b).E,T:=yV (tr Γ a).T (tr Γ b).T }
 | .no a=>{ E:=JH (tr Γ a).E,T:=DM (tr Γ a).T }
 | .ng a=>ex (B6 Ji (tr Γ a).E)
 | .ie t a b=>ex (yU (tr Γ t).T (tr Γ a).E (tr Γ b).E)
 | .tu a=>ex (DE (tr Γ a).A)
 | .ll a=>ex (CV (tr Γ a).A)
 | .lm a=>ex (CU (tr Γ a).A)
 | .e0=>{ A:=mh }
 | .ec a r=>{ A:=rB (tr Γ a).E (tr Γ r).A,L:=(tr Γ a).E::(tr Γ r).L }
 | .ix a b=>ex (nz cw (tr Γ a).E (tr Γ b).E)
 | .sl a l h=>ex (MH (tr Γ a).E (tr Γ l).P (tr Γ h).P)
 | .p0=>{ P:=DN }
 | .p1 a=>{ P:=JG (tr Γ a).E }
 | .fl c f a=>ex (B9 (Γ.C c) f (tr Γ a).E)
 | .ca f a=>ex (jx (Γ.fn f) (tr Γ a).A)
 | .me f o a=>ex (match Γ.S.fd[f]? with|some d=>qd (Γ.C d.cls) d.name (Γ.fn f) (tr Γ o).E (tr Γ a).A|none=>iL)
 | .mk f a=>ex (match Γ.S.fd[f]? with|some d=>rA (Γ.C d.cls) (Γ.lz f) (tr Γ a).A|none=>iL)
 | .bf f a=>ex (jx (fM f) (tr Γ a).A)
 | .bt f a=>ex (jx (qy f) (tr Γ a).A)
 | .ap o a=>ex (yr (tr Γ o).E (tr Γ a).A)
 | .po o a=>ex (JF (tr Γ o).E (tr Γ a).A)
 | .li o a=>ex (C3 (tr Γ o).E (tr Γ a).A)
 | .dg d k=>ex (JB (tr Γ d).E (tr Γ k).E)
 | .dn neg k d=>ex (rJ neg (tr Γ k).E (tr Γ d).E)
 | .d1 d k=>ex (HW (tr Γ d).E (tr Γ k).E)
 | .dk=>ex JN
 | .dt=>ex II
 | .ic neg a x=>ex (match Γ.S.gt.lookup x with|some ss=>rM neg ss (tr Γ a).E|none=>iL)
 | .tx x a=>ex (yC (Γ.tb x) (tr Γ a).E)
 | .tn x a=>ex (Ai (Γ.tb x) (tr Γ a).E)
 | .ti x a=>ex (AU false (Γ.tb x) (tr Γ a).E)
 | .cv i a=>ex (IJ Γ.gP (pY i) (tr Γ a).A)
 | .cp md tup nm cap it t e=>ex (qY (gh tup nm.length) md (tr Γ it).I (cap.map Prod.fst) (tr Γ t).T (tr Γ e).E)
 | .sc i md tup nm cap it t e=>{ S:=ve i (qY (gh tup nm.length) md (tr Γ it).I (cap.map Prod.fst) (tr Γ t).T (tr Γ e).E) }
 | .lr a b=>ex (IG (tr Γ a).E (tr Γ b).E)
 | .im a=>{ I:=C0 (tr Γ a).E }
 | .lv md a=>ex (MF md (tr Γ a).E)
 | .pr i j a=>{ S:=DK i j (tr Γ a).A }
 | .wh t b=>{ S:=AS (tr Γ t).T (tr Γ b).S }
 | .af c f o a=>{ S:=MM (Γ.C c) f (tr Γ o).E (tr Γ a).E }
 | .dd d k=>{ S:=HV (tr Γ d).E (tr Γ k).E }
 | .is a=>{ I:=CY (tr Γ a).E }
 | .r1 a=>{ I:=CZ (tr Γ a).E }
 | .st a=>{ I:=CW (tr Γ a).E }
 | .set i a=>{ S:=ve i (tr Γ a).E }
 | .un is a=>{ S:=By (tr Γ a).E (iQ is) }
 | .sf c f o a=>{ S:=Ca (Γ.C c) f (tr Γ o).E (tr Γ a).E }
 | .dp d k a=>{ S:=Ig (tr Γ d).E (tr Γ k).E (tr Γ a).E }
 | .sp l i a=>{ S:=By (tr Γ a).E (Jh (tr Γ l).E (tr Γ i).E pL) }
 | .re a=>{ S:=DI (tr Γ a).E }
 | .r0=>{ S:=JE }
 | .aZ t a b=>{ S:=yq (tr Γ t).T (tr Γ a).S (tr Γ b).S }
 | .fo tup is it b=>{ S:=JL (tr Γ it).I (match tup,is with|true,is=>iQ is|false,[i]=>jh i|_,_=>λ_ _ _ _=>False) (tr Γ b).S }
 | .ex a=>{ S:=JM (tr Γ a).E }
 | .ra=>{ S:=λ_ _ _=>False }
 | .se a b=>{ S:=DH (tr Γ a).S (tr Γ b).S }
 | .en=>{ S:=JI }
 | .sk c f a=>ex (MG (Γ.C c) f Γ.lP Γ.S.lp Γ.S.lq (tr Γ a).E)
inductive Nd where
 |e (x:Expr)|t (x:Expr)|a (xs:aX)|i (tg x:Expr)|p (x:Option Expr)|s (x:Stmt)|b (xs:List Stmt)|l (xs:aX)
noncomputable def fP (sc:Scope)(x:Str):Bool:=sc.names.lookup x==some .globalImplicit&& !(x==("__debug__":Str))
noncomputable def yb (tup:Bool)(tg:Expr)(nm:az):Bool:=match tup,tg with
 |false,.Name x _=>nm==[x]
 |true,.Tuple es _ _=>nh es==some nm
 |_,_=>false
noncomputable def lU (N:az):List Nat->aX->Bool
 | [],[]=>true
 |i::is,.Name x _::es=>(N[i]? ==some x)&&lU N is es
 |_,_=>false
noncomputable def loc (sc:Scope)(x:Str):Bool:=sc.names.lookup x==some .local||sc.names.lookup x==some .cell
noncomputable def cf (sc:Scope)(x:Str):Bool:=sc.names.lookup x==some .cell||sc.names.lookup x==some .free
noncomputable def iE (x:Str):Bool:=!(x==("__debug__":Str))&& !(x==("__classdict__":Str))
noncomputable def rL (N:az)(sc scope:Scope)(nm:az)(cap:List (Nat×Str)):Bool:=
 cap.all (λp=>(N[p.1]? ==some p.2)&&(scope.names.lookup p.2==some .free)&&cf sc p.2)&&scope.names.all (λy=>y.2 != .free||cf sc y.1)&&scope.names.all (λy=>y.2 != .cell)&&scope.kind== .function&&
 scope.names.all (λy=>y.2 != .local||scope.names.lookup y.1==some .local)&&nm.all (λx=>scope.names.lookup x==some .local)&&decide (nm++cap.map Prod.snd).Nodup&&(nm++cap.map Prod.snd).all iE
noncomputable def zD:az:=["len","isinstance","all","max","ord"]
noncomputable def zF:az:=["list","str"]
noncomputable def iG (ap p:Pos):Bool:=ap.endLine==p.line
noncomputable def Br (t:T):Bool:=if h:t.ctorIdx=3 then T.b.elim t h id else false
@[elab_as_elim] theorem ni {α:Type} [BEq α] [LawfulBEq α] {z c:α} {b:Bool} {C:α->Prop} (h:((z==c)&&b)=true) (k:b=true->C c):C z:=by
 rw[aU,eX]at h;rw[h.1];exact k h.2
theorem m7{a b:Bool}(h:(a&&b)=true):a=true/\b=true:=by rwa [aU]at h
theorem di{c:Prop}[Decidable c]{t:c->Bool}{C:Prop}(h:(if h:c then t h else false)=true)(k:c->(if h:c then t h else false)=true->C):C:=
 if i:c then k i h else by rw[dif_neg i]at h;cases h
noncomputable def dN (e:Expr)(f:Str->Pos->Bool):Bool:=if h:e.ctorIdx=23 then Expr.Name.elim e h f else false
@[elab_as_elim] theorem gd {e f} {C:Expr->Prop} (h:dN e f=true) (k:∀a b,f a b=true->C (.Name a b)):C e:=di h λi=>Expr.Name.elim e i k
noncomputable def dK (e:Expr)(f:Const->Nat->Pos->Bool):Bool:=if h:e.ctorIdx=19 then Expr.Constant.elim e h f else false
@[elab_as_elim] theorem ye {e f} {C:Expr->Prop} (h:dK e f=true) (k:∀a b c,f a b c=true->C (.Constant a b c)):C e:=di h λi=>Expr.Constant.elim e i k
noncomputable def dB (e:Expr)(f:Expr->Operator->Expr->Pos->Bool):Bool:=if h:e.ctorIdx=2 then Expr.BinOp.elim e h f else false
@[elab_as_elim] theorem Zl {e f} {C:Expr->Prop} (h:dB e f=true) (k:∀a b c d,f a b c d=true->C (.BinOp a b c d)):C e:=di h λi=>Expr.BinOp.elim e i k
noncomputable def dC (e:Expr)(f:Expr->List CmpOp->aX->Pos->Bool):Bool:=if h:e.ctorIdx=15 then Expr.Compare.elim e h f else false
@[elab_as_elim] theorem JR {e f} {C:Expr->Prop} (h:dC e f=true) (k:∀a b c d,f a b c d=true->C (.Compare a b c d)):C e:=di h λi=>Expr.Compare.elim e i k
noncomputable def dQ (e:Expr)(f:BoolOp->aX->Pos->Bool):Bool:=if h:e.ctorIdx=0 then Expr.BoolOp.elim e h f else false
@[elab_as_elim] theorem yd {e f} {C:Expr->Prop} (h:dQ e f=true) (k:∀a b c,f a b c=true->C (.BoolOp a b c)):C e:=di h λi=>Expr.BoolOp.elim e i k
noncomputable def dU (e:Expr)(f:UnaryOp->Expr->Pos->Bool):Bool:=if h:e.ctorIdx=3 then Expr.UnaryOp.elim e h f else false
@[elab_as_elim] theorem Bm {e f} {C:Expr->Prop} (h:dU e f=true) (k:∀a b c,f a b c=true->C (.UnaryOp a b c)):C e:=di h λi=>Expr.UnaryOp.elim e i k
noncomputable def dI (e:Expr)(f:Expr->Expr->Expr->Pos->Bool):Bool:=if h:e.ctorIdx=5 then Expr.IfExp.elim e h f else false
@[elab_as_elim] theorem Zk {e f} {C:Expr->Prop} (h:dI e f=true) (k:∀a b c d,f a b c d=true->C (.IfExp a b c d)):C e:=di h λi=>Expr.IfExp.elim e i k
noncomputable def dT (e:Expr)(f:aX->Nat->Pos->Bool):Bool:=if h:e.ctorIdx=25 then Expr.Tuple.elim e h f else false
@[elab_as_elim] theorem uW {e f} {C:Expr->Prop} (h:dT e f=true) (k:∀a b c,f a b c=true->C (.Tuple a b c)):C e:=di h λi=>Expr.Tuple.elim e i k
noncomputable def dL (e:Expr)(f:aX->Pos->Bool):Bool:=if h:e.ctorIdx=24 then Expr.List.elim e h f else false
@[elab_as_elim] theorem JO {e f} {C:Expr->Prop} (h:dL e f=true) (k:∀a b,f a b=true->C (.List a b)):C e:=di h λi=>Expr.List.elim e i k
noncomputable def dS (e:Expr)(f:Expr->Expr->Pos->Bool):Bool:=if h:e.ctorIdx=21 then Expr.Subscript.elim e h f else false
@[elab_as_elim] theorem pU {e f} {C:Expr->Prop} (h:dS e f=true) (k:∀a b c,f a b c=true->C (.Subscript a b c)):C e:=di h λi=>Expr.Subscript.elim e i k
noncomputable def dX (e:Expr)(f:Option Expr->Option Expr->Option Expr->Pos->Bool):Bool:=if h:e.ctorIdx=26 then Expr.Slice.elim e h f else false
@[elab_as_elim] theorem Zj {e f} {C:Expr->Prop} (h:dX e f=true) (k:∀a b c d,f a b c d=true->C (.Slice a b c d)):C e:=di h λi=>Expr.Slice.elim e i k
noncomputable def dA (e:Expr)(f:Expr->Str->Pos->Bool):Bool:=if h:e.ctorIdx=20 then Expr.Attribute.elim e h f else false
@[elab_as_elim] theorem uX {e f} {C:Expr->Prop} (h:dA e f=true) (k:∀a b c,f a b c=true->C (.Attribute a b c)):C e:=di h λi=>Expr.Attribute.elim e i k
noncomputable def dF (e:Expr)(f:Expr->aX->List Keyword->Pos->Bool):Bool:=if h:e.ctorIdx=16 then Expr.Call.elim e h f else false
@[elab_as_elim] theorem Bo {e f} {C:Expr->Prop} (h:dF e f=true) (k:∀a b c d,f a b c d=true->C (.Call a b c d)):C e:=di h λi=>Expr.Call.elim e i k
noncomputable def dD (e:Expr)(f:List (Option Expr)->aX->Pos->Bool):Bool:=if h:e.ctorIdx=6 then Expr.Dict.elim e h f else false
@[elab_as_elim] theorem JQ {e f} {C:Expr->Prop} (h:dD e f=true) (k:∀a b c,f a b c=true->C (.Dict a b c)):C e:=di h λi=>Expr.Dict.elim e i k
noncomputable def dG (e:Expr)(f:Expr->List Comprehension->Scope->Pos->Bool):Bool:=if h:e.ctorIdx=8 then Expr.ListComp.elim e h f else false
@[elab_as_elim] theorem JP {e f} {C:Expr->Prop} (h:dG e f=true) (k:∀a b c d,f a b c d=true->C (.ListComp a b c d)):C e:=di h λi=>Expr.ListComp.elim e i k
noncomputable def tA (e:Stmt)(f:aX->Expr->Pos->Bool):Bool:=if h:e.ctorIdx=5 then Stmt.Assign.elim e h f else false
@[elab_as_elim] theorem Yb {e f} {C:Stmt->Prop} (h:tA e f=true) (k:∀a b c,f a b c=true->C (.Assign a b c)):C e:=di h λi=>Stmt.Assign.elim e i k
noncomputable def tW (e:Stmt)(f:Expr->List Stmt->List Stmt->Pos->Bool):Bool:=if h:e.ctorIdx=11 then Stmt.While.elim e h f else false
@[elab_as_elim] theorem XT {e f} {C:Stmt->Prop} (h:tW e f=true) (k:∀a b c d,f a b c d=true->C (.While a b c d)):C e:=di h λi=>Stmt.While.elim e i k
noncomputable def tU (e:Stmt)(f:Expr->Operator->Expr->Pos->Bool):Bool:=if h:e.ctorIdx=7 then Stmt.AugAssign.elim e h f else false
@[elab_as_elim] theorem XU {e f} {C:Stmt->Prop} (h:tU e f=true) (k:∀a b c d,f a b c d=true->C (.AugAssign a b c d)):C e:=di h λi=>Stmt.AugAssign.elim e i k
noncomputable def tD (e:Stmt)(f:aX->Pos->Bool):Bool:=if h:e.ctorIdx=4 then Stmt.Delete.elim e h f else false
@[elab_as_elim] theorem X6 {e f} {C:Stmt->Prop} (h:tD e f=true) (k:∀a b,f a b=true->C (.Delete a b)):C e:=di h λi=>Stmt.Delete.elim e i k
noncomputable def tR (e:Stmt)(f:Option Expr->Pos->Bool):Bool:=if h:e.ctorIdx=3 then Stmt.Return.elim e h f else false
@[elab_as_elim] theorem Jn {e f} {C:Stmt->Prop} (h:tR e f=true) (k:∀a b,f a b=true->C (.Return a b)):C e:=di h λi=>Stmt.Return.elim e i k
noncomputable def tI (e:Stmt)(f:Expr->List Stmt->List Stmt->Pos->Bool):Bool:=if h:e.ctorIdx=12 then Stmt.If.elim e h f else false
@[elab_as_elim] theorem X1 {e f} {C:Stmt->Prop} (h:tI e f=true) (k:∀a b c d,f a b c d=true->C (.If a b c d)):C e:=di h λi=>Stmt.If.elim e i k
noncomputable def tF (e:Stmt)(f:Expr->Expr->List Stmt->List Stmt->Pos->Bool):Bool:=if h:e.ctorIdx=9 then Stmt.For.elim e h f else false
@[elab_as_elim] theorem X3 {e f} {C:Stmt->Prop} (h:tF e f=true) (k:∀a b c d g,f a b c d g=true->C (.For a b c d g)):C e:=di h λi=>Stmt.For.elim e i k
noncomputable def tE (e:Stmt)(f:Expr->Pos->Bool):Bool:=if h:e.ctorIdx=24 then Stmt.Expr.elim e h f else false
@[elab_as_elim] theorem X4 {e f} {C:Stmt->Prop} (h:tE e f=true) (k:∀a b,f a b=true->C (.Expr a b)):C e:=di h λi=>Stmt.Expr.elim e i k
section
variable {α:Type}{xs:List α}{b:Bool}{x:Option α}{e:Expr}{s:Stmt}
noncomputable def l0 (xs:List α)(b:Bool):Bool:=match xs with| []=>b|_=>false
noncomputable def lc (xs:List α)(f:α->List α->Bool):Bool:=match xs with|x::r=>f x r|_=>false
noncomputable def l1 (xs:List α)(f:α->Bool):Bool:=lc xs λx r=>l0 r (f x)
noncomputable def l2 (xs:List α)(f:α->α->Bool):Bool:=lc xs λx r=>l1 r (f x)
noncomputable def o0 (x:Option α)(b:Bool):Bool:=match x with|none=>b|_=>false
noncomputable def o1 (x:Option α)(f:α->Bool):Bool:=match x with|some y=>f y|_=>false
variable {C:List α->Prop}{D:Option α->Prop}{E:Expr->Prop}{F:Stmt->Prop}
@[elab_as_elim] theorem gH (h:l0 xs b=true) (k:b=true->C []):C xs:=by cases xs<;>first|exact k h|cases h
@[elab_as_elim] theorem ib {f} (h:lc xs f=true) (k:∀x r,f x r=true->C (x::r)):C xs:=by cases xs<;>first|exact k _ _ h|cases h
@[elab_as_elim] theorem fS {f} (h:l1 xs f=true) (k:∀y,f y=true->C [y]):C xs:=ib h λy _ h=>gH h (k y)
@[elab_as_elim] theorem rF {f} (h:l2 xs f=true) (k:∀y z,f y z=true->C [y,z]):C xs:=ib h λy _ h=>fS h (k y)
@[elab_as_elim] theorem Bb (h:o0 x b=true) (k:b=true->D none):D x:=by cases x<;>first|exact k h|cases h
@[elab_as_elim] theorem JX {f} (h:o1 x f=true) (k:∀y,f y=true->D (some y)):D x:=by cases x<;>first|exact k _ h|cases h
noncomputable def iZ (e:Expr)(f:Str->Pos->aX->Pos->Bool):Bool:=dF e λg es ks p=>dN g λx q=>l0 ks (f x q es p)
@[elab_as_elim] theorem lR {f} (h:iZ e f=true) (k:∀x q es p,f x q es p=true->E (.Call (.Name x q) es [] p)):E e:=Bo h λ_ es _ p h=>gd h λx q h=>gH h (k x q es p)
noncomputable def mH (e:Expr)(f:Expr->Str->Pos->aX->Pos->Bool):Bool:=dF e λg es ks p=>dA g λx m q=>l0 ks (f x m q es p)
@[elab_as_elim] theorem pF {f} (h:mH e f=true) (k:∀x m q es p,f x m q es p=true->E (.Call (.Attribute x m q) es [] p)):E e:=Bo h λ_ es _ p h=>uX h λx m q h=>gH h (k x m q es p)
noncomputable def qB (e:Expr)(f:Expr->CmpOp->Expr->Pos->Bool):Bool:=dC e λx os ys p=>l1 os λo=>l1 ys λy=>f x o y p
@[elab_as_elim] theorem rf {f} (h:qB e f=true) (k:∀x o y p,f x o y p=true->E (.Compare x [o] [y] p)):E e:=JR h λx _ _ p h=>fS h λo h=>fS h λy=>k x o y p
noncomputable def nE (s:Stmt)(f:Expr->Expr->Pos->Bool):Bool:=tA s λz v p=>l1 z λt=>f t v p
@[elab_as_elim] theorem pB {f} (h:nE s f=true) (k:∀t v p,f t v p=true->F (.Assign [t] v p)):F s:=Yb h λ_ v p h=>fS h λt=>k t v p
end
noncomputable def cY (e:Expr):Bool:=!([22,7,26,9,10].contains e.ctorIdx)
noncomputable def lA (e:Expr):Bool:=e.ctorIdx==8
noncomputable def Bs (e:Expr):Bool:=[0,5,15].contains e.ctorIdx||dU e λo _ _=>o== .Not
noncomputable def gF (e:Expr):Bool:=iZ e λ_ _ es _=>es.isEmpty
noncomputable def bX (nd:Nd)(f:Expr->Bool):Bool:=match nd with
 | .e x=>cY x&&f x
 | .t x=>!Bs x&&f x
 |_=>false
noncomputable def sV (nd:Nd)(f:Expr->Bool):Bool:=match nd with
 | .e x=>cY x&&f x
 | .t x=>f x
 |_=>false
noncomputable def fX (nd:Nd)(f:Stmt->Bool):Bool:=match nd with
 | .s x=>f x
 |_=>false
noncomputable def zS (nd:Nd)(f:(aX->Nd)->aX->Bool):Bool:=match nd with
 | .a x=>f .a x
 | .l x=>f .l x
 |_=>false
noncomputable def sW (nd:Nd)(f:Expr->Expr->Bool):Bool:=match nd with
 | .i tg x=>f tg x
 |_=>false
noncomputable def zU (nd:Nd)(f:Option Expr->Bool):Bool:=match nd with
 | .p x=>f x
 |_=>false
noncomputable def zT (nd:Nd)(f:List Stmt->Bool):Bool:=match nd with
 | .b x=>f x
 |_=>false
noncomputable def qH (nd:Nd)(f g:Expr->Bool):Bool:=match nd with
 | .e x=>cY x&&f x
 | .t x=>g x
 |_=>false
noncomputable def dY (e:Expr)(f:Arguments->Expr->Scope->Pos->Bool):Bool:=if h:e.ctorIdx=4 then Expr.Lambda.elim e h f else false
@[elab_as_elim] theorem Zi {e f} {C:Expr->Prop} (h:dY e f=true) (k:∀a b c d,f a b c d=true->C (.Lambda a b c d)):C e:=di h λi=>Expr.Lambda.elim e i k
noncomputable def BA (ps:Arguments)(v:Str):Bool:=ps.posonlyargs.isEmpty&&ps.vararg.isNone&&ps.kwonlyargs.isEmpty&&ps.kw_defaults.isEmpty&&ps.kwarg.isNone&&ps.defaults.isEmpty&&(l1 ps.args λa=>a.arg==v)
noncomputable def Bw (v:Str)(sc:Scope):Bool:=(sc.names.lookup v==some .local)&&sc.names.all (λy=>y.2 != .cell&&y.2 != .free)&& !sc.isCoroutine&& !sc.isGenerator&&sc.kind== .function&&iE v
noncomputable def mt (S:SI)(fc:Bool)(N:az)(sc:Scope):T->Nd->Bool
 | .v i,nd=>bX nd λy0=>dN y0 λx _=>N[i]? ==some x
 | .i n,nd=>bX nd λy0=>dK y0 λz _ _=>z== .int n
 | .s x,nd=>bX nd λy0=>dK y0 λz _ _=>z== .str x
 | .b x,nd=>bX nd λy0=>dK y0 λz _ _=>z== .bool x
 | .n,nd=>bX nd λy0=>dK y0 λz _ _=>z== .none
 | .g x,nd=>bX nd λy0=>dN y0 λy _=>(x==y)&&(S.gi.lookup x).isSome&&fP sc x
 | .ty x,nd=>bX nd λy0=>dN y0 λy _=>(Str.ofString x==y)&&["int","bool","str","tuple","list"].contains x&&S.bl.contains y&&fP sc y
 | .op o a b,nd=>bX nd λy0=>dB y0 λx o' y _=>(o==o')&&mt S fc N sc a (.e x)&&mt S fc N sc b (.e y)
 | .cm o a b,nd=>sV nd λy0=>qB y0 λx o' y _=>(o==o')&&mt S fc N sc a (.e x)&&mt S fc N sc b (.e y)
 | .ch o p a b c,nd=>sV nd λy0=>dC y0 λx z1 z2 _=>l2 z1 λo' p'=>l2 z2 λy z=>(o==o')&&(p==p')&&mt S fc N sc a (.e x)&&mt S fc N sc b (.e y)&&mt S fc N sc c (.e z)
 | .dn neg k d,nd=>sV nd λy0=>qB y0 λx o' y _=>(o'==if neg then .NotIn else .In)&&mt S fc N sc k (.e x)&&mt S fc N sc d (.e y)
 | .an a b,nd=>qH nd (λy0=>dQ y0 λz1 z2 p=>(z1== .And)&&(lc z2 λx z3=>lc z3 λy r=>mt S fc N sc a (.e x)&&mt S fc N sc b (.e (if r.isEmpty then y else .BoolOp .And (y::r) p)))) (λy0=>dQ y0 λz1 z2 p=>(z1== .And)&&(lc z2 λx z3=>lc z3 λy r=>mt S fc N sc a (.t x)&&mt S fc N sc b (.t (if r.isEmpty then y else .BoolOp .And (y::r) p))))
 | .or a b,nd=>qH nd (λy0=>dQ y0 λz1 z2 p=>(z1== .Or)&&(lc z2 λx z3=>lc z3 λy r=>mt S fc N sc a (.e x)&&mt S fc N sc b (.e (if r.isEmpty then y else .BoolOp .Or (y::r) p)))) (λy0=>dQ y0 λz1 z2 p=>(z1== .Or)&&(lc z2 λx z3=>lc z3 λy r=>mt S fc N sc a (.t x)&&mt S fc N sc b (.t (if r.isEmpty then y else .BoolOp .Or (y::r) p))))
 | .no a,nd=>qH nd (λy0=>dU y0 λz1 x _=>(z1== .Not)&&(mt S fc N sc a (.e x))) (λy0=>dU y0 λz1 x _=>(z1== .Not)&&(mt S fc N sc a (.t x)))
 | .ng a,nd=>bX nd λy0=>dU y0 λz1 x _=>(z1== .USub)&&(mt S fc N sc a (.e x))
 | .ie t a b,nd=>bX nd λy0=>dI y0 λx y z _=>mt S fc N sc t (.t x)&&mt S fc N sc a (.e y)&&mt S fc N sc b (.e z)
 | .tu a,nd=>bX nd λy0=>dT y0 λes _ _=>mt S fc N sc a (.a es)
 | .ll a,nd=>bX nd λy0=>dL y0 λes _=>mt S fc N sc a (.a es)
 | .lm a,nd=>bX nd λy0=>dL y0 λes _=>mt S fc N sc a (.a es)
 | .e0,nd=>zS nd λ_ y0=>l0 y0 <|true
 | .ec a r,nd=>zS nd λmk y0=>lc y0 λx xs=>mt S fc N sc a (.e x)&&mt S fc N sc r (mk xs)
 | .ix a b,nd=>bX nd λy0=>dS y0 λx y _=>mt S fc N sc a (.e x)&&mt S fc N sc b (.e y)
 | .sl a l h,nd=>bX nd λy0=>dS y0 λx z1 _=>dX z1 λlo hi z2 _=>o0 z2 <|mt S fc N sc a (.e x)&&mt S fc N sc l (.p lo)&&mt S fc N sc h (.p hi)
 | .p0,nd=>zU nd λy0=>o0 y0 <|true
 | .p1 a,nd=>zU nd λy0=>o1 y0 λx=>mt S fc N sc a (.e x)
 | .fl c f a,nd=>bX nd λy0=>dA y0 λx f' _=>(f==f')&&S.fs.contains (c,f)&& !gF x&&mt S fc N sc a (.e x)
 | .ca f a,nd=>bX nd λy0=>iZ y0 λx _ es _=>(match S.fd[f]? with|some d=>d.kind==0&&d.name==x|none=>false)&&fP sc x&&mt S fc N sc a (.a es)
 | .me f o a,nd=>bX nd λy0=>mH y0 λx m ap es p=>(match S.fd[f]? with|some d=>d.kind==1&&d.name==m|none=>false)&& !gF x&&iG ap p&&decide (es.length<29)&&mt S fc N sc o (.e x)&&mt S fc N sc a (.a es)
 | .mk f a,nd=>bX nd λy0=>iZ y0 λx _ es _=>(match S.fd[f]? with|some d=>d.kind==2&&S.cl[d.cls]? ==some x|none=>false)&&fP sc x&&mt S fc N sc a (.a es)
 | .bf f a,nd=>bX nd λy0=>iZ y0 λx _ es _=>(f==x)&&zD.contains x&&S.bl.contains x&&fP sc x&& !es.isEmpty&&mt S fc N sc a (.a es)
 | .bt f a,nd=>bX nd λy0=>iZ y0 λx _ es _=>(f==x)&&zF.contains x&&S.bl.contains x&&fP sc x&& !es.isEmpty&&mt S fc N sc a (.a es)
 | .ap o a,nd=>bX nd λy0=>mH y0 λx m ap z1 p=>l1 z1 λy=>(m==("append":Str))&& !gF x&&iG ap p&&mt S fc N sc o (.e x)&&mt S fc N sc a (.a [y])
 | .po o a,nd=>bX nd λy0=>mH y0 λx m ap z1 p=>l1 z1 λy=>(m==("pop":Str))&& !gF x&&iG ap p&&mt S fc N sc o (.e x)&&mt S fc N sc a (.a [y])
 | .li o a,nd=>bX nd λy0=>mH y0 λx m ap z1 p=>l2 z1 λy w=>(m==("insert":Str))&& !gF x&&iG ap p&&mt S fc N sc o (.e x)&&mt S fc N sc a (.a [y,w])
 | .dg d k,nd=>bX nd λy0=>dS y0 λx y _=>mt S fc N sc d (.e x)&&mt S fc N sc k (.e y)
 | .d1 d k,nd=>bX nd λy0=>mH y0 λx m ap z1 p=>l1 z1 λy=>(m==("get":Str))&& !gF x&&iG ap p&&mt S fc N sc d (.e x)&&mt S fc N sc k (.e y)
 | .dk,nd=>bX nd λy0=>dD y0 λz1 z2 _=>l0 z1 <|l0 z2 <|true
 | .dt,nd=>bX nd λy0=>dD y0 λz1 z2 _=>l0 z1 <|l0 z2 <|true
 | .ic neg a x,nd=>sV nd λy0=>qB y0 λy o z1 _=>dN z1 λx' _=>(o==if neg then .NotIn else .In)&&(x==x')&&(S.gt.lookup x).isSome&&fP sc x&&mt S fc N sc a (.e y)
 | .tx x a,nd=>bX nd λy0=>dS y0 λz1 y _=>dN z1 λx' _=>(x==x')&&S.tb.contains x&&fP sc x&&mt S fc N sc a (.e y)
 | .tn x a,nd=>qH nd (λ_=>false) λy0=>qB y0 λy o z1 _=>dN z1 λx' _=>(o== .NotIn)&&(x==x')&&S.tb.contains x&&fP sc x&&mt S fc N sc a (.e y)
 | .ti x a,nd=>qH nd (λ_=>false) λy0=>qB y0 λy o z1 _=>dN z1 λx' _=>(o== .In)&&(x==x')&&S.tb.contains x&&fP sc x&&mt S fc N sc a (.e y)
 | .cv i a,nd=>bX nd λy0=>iZ y0 λx _ es _=>(N[i]? ==some x)&& !es.isEmpty&&mt S fc N sc a (.a es)
 | .lr a b,nd=>bX nd λy0=>iZ y0 λx _ z1 _=>l1 z1 λz2=>iZ z2 λy _ z3 _=>l2 z3 λz w=>(x==("list":Str))&&(y==("range":Str))&&S.bl.contains x&&S.bl.contains y&&fP sc x&&fP sc y&&mt S fc N sc a (.e z)&&mt S fc N sc b (.e w)
 | .cp _ tup nm cap it t e,nd=>bX nd λy0=>dG y0 λel z1 scope _=>l1 z1 λz2=>match z2 with|⟨tg,ite,ifs,as⟩=>fc&&(as==0)&&yb tup tg nm&&rL N sc scope nm cap&&cY ite&&mt S fc N sc it (.i tg ite)&&mt S false (nm++cap.map Prod.snd) scope e (.e el)&&(match ifs with| []=>Br t| [c]=>mt S false (nm++cap.map Prod.snd) scope t (.t c)|_=>false)
 | .im a,nd=>sW nd λtg=>λy0=>mH y0 λx m ap z1 p=>l0 z1 <|(tg.ctorIdx==25)&&(m==("items":Str))&& !gF x&&iG ap p&&mt S fc N sc a (.e x)
 | .lv _ a,nd=>bX nd λy0=>iZ y0 λy _ z1 _=>l1 z1 λz2=>mH z2 λx m ap z3 p=>l0 z3 <|(y==("list":Str))&&(m==("values":Str))&&S.bl.contains y&&fP sc y&& !gF x&&iG ap p&&mt S fc N sc a (.e x)
 | .pr i j a,nd=>fX nd λy0=>nE y0 λz1 z2 _=>dT z1 λz3 _ _=>l2 z3 λz4 z5=>dN z4 λx px=>dN z5 λy py=>dT z2 λz6 _ _=>l2 z6 λu v=>fc&&(N[i]? ==some x)&&(N[j]? ==some y)&&(i != j)&&(sc.names.lookup x==some .local)&&(sc.names.lookup y==some .local)&&(py.line==px.line)&& !(y==x)&& !([u,v].all (foldedForSure 8))&& !([u,v].all (constantsAlone 8))&&mt S fc N sc a (.a [u,v])
 | .wh t b,nd=>fX nd λy0=>tW y0 λx y z1 _=>l0 z1 <|fc&&mt S fc N sc t (.t x)&&mt S fc N sc b (.b y)
 | .af c f o a,nd=>fX nd λy0=>tU y0 λz1 z2 e _=>dA z1 λx f' _=>(z2== .Add)&&((f==f')&&S.fs.contains (c,f)&&mt S fc N sc o (.e x)&&mt S fc N sc a (.e e))
 | .dd d k,nd=>fX nd λy0=>tD y0 λz1 _=>l1 z1 λz2=>dS z2 λx y _=>mt S fc N sc d (.e x)&&mt S fc N sc k (.e y)
 | .is a,nd=>sW nd λ_ x=>cY x&&mt S fc N sc a (.e x)
 | .st a,nd=>sW nd λ_ x=>cY x&&mt S fc N sc a (.e x)
 | .r1 a,nd=>sW nd λ_=>λy0=>iZ y0 λx _ z1 _=>l1 z1 λy=>(x==("range":Str))&&S.bl.contains x&&fP sc x&&mt S fc N sc a (.e y)
 | .set i a,nd=>fX nd λy0=>nE y0 λz1 e _=>dN z1 λx p=>fc&&(N[i]? ==some x)&&(!lA e||sc.names.lookup x==some .cell)&&mt S fc N sc a (.e e)
 | .sc i _ tup nm cap it t e,nd=>fX nd λy0=>nE y0 λz1 z2 _=>dN z1 λx p=>dG z2 λel z3 scope p2=>l1 z3 λz4=>match z4 with|⟨tg,ite,ifs,as⟩=>fc&&(N[i]? ==some x)&&(sc.names.lookup x==some .local)&&(p.line==p2.line)&& !(scope.names.any λy=>y.1==x&&(y.2== .local||y.2== .cell))&&(as==0)&&yb tup tg nm&&rL N sc scope nm cap&&cY ite&&mt S fc N sc it (.i tg ite)&&mt S false (nm++cap.map Prod.snd) scope e (.e el)&&(match ifs with| []=>Br t| [c]=>mt S false (nm++cap.map Prod.snd) scope t (.t c)|_=>false)
 | .un is a,nd=>fX nd λy0=>nE y0 λz1 e _=>dT z1 λes _ _=>fc&&lU N is es&& !lA e&&(e.ctorIdx != 25)&&mt S fc N sc a (.e e)
 | .sf c f o a,nd=>fX nd λy0=>nE y0 λz1 e _=>dA z1 λx f' _=>(f==f')&&S.fs.contains (c,f)&& !lA e&&mt S fc N sc o (.e x)&&mt S fc N sc a (.e e)
 | .dp d k a,nd=>fX nd λy0=>nE y0 λz1 e _=>dS z1 λx y _=>!lA e&&mt S fc N sc d (.e x)&&mt S fc N sc k (.e y)&&mt S fc N sc a (.e e)
 | .sp l i a,nd=>fX nd λy0=>nE y0 λz1 e _=>dS z1 λx y _=>!lA e&&mt S fc N sc l (.e x)&&mt S fc N sc i (.e y)&&mt S fc N sc a (.e e)
 | .re a,nd=>fX nd λy0=>tR y0 λz1 _=>o1 z1 λe=>mt S fc N sc a (.e e)
 | .r0,nd=>fX nd λy0=>tR y0 λz1 _=>o0 z1 <|true
 | .aZ t a b,nd=>fX nd λy0=>tI y0 λx y z _=>mt S fc N sc t (.t x)&&mt S fc N sc a (.b y)&&mt S fc N sc b (.b z)
 | .fo tup is it b,nd=>fX nd λy0=>tF y0 λtg x y z1 _=>l0 z1 <|fc&&cY x&&cond tup (dT tg λes _ _=>lU N is es) (dN tg λz _=>l1 is λi=>N[i]? ==some z)&&mt S fc N sc it (.i tg x)&&mt S fc N sc b (.b y)
 | .ex a,nd=>fX nd λy0=>tE y0 λe _=>!lA e&&mt S fc N sc a (.e e)
 | .ra,nd=>match nd with| .s _=>true| .b _=>true|_=>false
 | .se a b,nd=>zT nd λy0=>lc y0 λx y=>mt S fc N sc a (.s x)&&mt S fc N sc b (.b y)
 | .en,nd=>zT nd λy0=>l0 y0 <|true
 | .sk c f a,nd=>bX nd λy0=>dF y0 λg es ks _=>dN g λx _=>l1 es λe=>l1 ks λk=>(x==("sorted":Str))&&(k.arg==some ("key":Str))&&(dY k.value λps b ls lp=>dA b λe' f' _=>(f'==f)&&(dN e' λv _=>decide (lp=S.lp)&&BA ps v&&Bw v ls))&&fc&&decide (N=S.ln)&&S.bl.contains x&&fP sc x&&S.fs.contains (c,f)&&mt S fc N sc a (.e e)
section
variable {S:SI}{fc:Bool}{N:az}{sc:Scope}
theorem dH{t:T}{x:Expr}(h:mt S fc N sc t (.e x)=true):cY x=true:=by
 cases t<;>first|exact(m7 h).1|exact bp h gL
theorem gm{e:Expr}{es:aX}{env:Env}(h:cY e=true):starEach (e::es) env=(false,eval e env)::starEach es env:=by
 cases e<;>first|rfl|cases h
theorem Ay{i:Expr}(h:cY i=true):∀o v,subscripted i false o v=operate [o,v] (getItem o v):=by
 intro o v;cases i<;>first|rfl|cases h
theorem lQ{op:CmpOp}{e:Expr}(h:cY e=true):behindInMarks op e=false:=by
 cases e<;>first|rfl|cases h
theorem xI{e:Expr}{env:Env}(h:cY e=true):∀x,foldedSetIterable e env x=pure x:=by
 intro x;cases e<;>first|rfl|cases h
theorem qS{e:Expr}{tg:Option Expr}{l:Nat}{env:Env}(h:cY e=true)(hc:lA e=false):swapsWith e tg l env=pure false:=by
 cases e<;>first|rfl|(cases hc;done)|(cases h;done)
theorem mW{o:Expr}{m:Str}{env:Env}(h:gF o=false):attributeBase o m env (eval o env)=eval o env:=by
 cases o<;>first|rfl|skip
 rename_i f as ks p;cases f<;>first|rfl|skip
 cases as<;>first|rfl|skip
 cases ks<;>first|rfl|cases h
theorem Up{e:Expr}{env:Env}(h:Bs e=false):∀whole,isTrue e env whole=(do let v<-whole;standAt e.pos;holding [v] (truthy v)):=by
 intro w;cases e<;>first|rfl|cases h|skip
 rename_i o x p;cases o<;>first|rfl|cases h
theorem gn:∀{r:T} {xs:aX},mt S fc N sc r (.a xs)=true->xs.all cY=true
 |r,[],_=>rfl
 |r,x::xs,h=>by
  cases r<;>first|exact bp h gL|skip
  have h:=m7 h;rw[eC,dH h.1,gn h.2];rfl
theorem xu{env:Env}:∀{xs:aX},xs.all cY=true->starEach xs env=xs.map λe=>(false,eval e env)
 | [],_=>rfl
 |x::xs,h=>by
  rw[eC,aU]at h;rw[gm h.1,xu h.2];rfl
theorem qR{env:Env}{p:Pos}{xs:aX}(h:xs.all cY=true):(backTo p (starEach xs env)).any (·.1)=false:=by
 rw[xu h];unfold backTo;simp
theorem uk{env:Env}{p:Pos}{xs:aX}(h:xs.all cY=true):(backTo p (starEach xs env)).all (λx=>!x.1)=true:=by
 rw[xu h];unfold backTo;simp
theorem back_eq{env:Env}{p:Pos}{xs:aX}(h:xs.all cY=true):backTo p (starEach xs env)=xs.map λe=>(false,eval e env):=by
 rw[xu h];unfold backTo;simp[cE,Function.comp_def]
theorem Hl{o:Expr}{m:Str}{apos pos:Pos}{es:aX}{env:Env}(hb:gF o=false)(ha:es.all cY=true)(hl:es.length<29)(hn:iG apos pos=true):
 eval (.Call (.Attribute o m apos) es [] pos) env=(do
  let ov<-eval o env
  standAt apos.atName
  let(f,first) <-holding [ov] (getMethod ov m (do return (<-importBound o env).getD true))
  callWith pos f first (backTo pos (starEach es env)) (backToKw pos (keywordEach [] env))):=by
 have e1:eval (.Call (.Attribute o m apos) es [] pos) env=(do
  let ov<-attributeBase o m env (eval o env)
  standAt apos.atName
  methodCall o m apos pos env ov (es.length+([]:List Keyword).length) (backTo pos (starEach es env)) (backToKw pos (keywordEach [] env))):=rfl
 rw[e1,mW hb];have sL:methodCallForm (es.length+([]:List Keyword).length) (backTo pos (starEach es env)) (backToKw pos (keywordEach [] env))=true:=by
  unfold methodCallForm;rw[uk ha];have:es.length+0+0<30:=by omega
  simp[backToKw,keywordEach,this];omega
 have hpos:methodCallPos true o env apos pos=pure pos:=by
  unfold methodCallPos;unfold iG at hn;rw[ar (by rw[hn];rfl)]
 unfold methodCall;rw[sL,hpos];rfl
end
structure Wd(P:Program)(w:World)(K:ae)(mg:bj)(base:Heap)(Γ:G)(k:Nat):Prop where
 bl:∀x∈Γ.S.bl,mg x=none
 gi:∀x i,Γ.S.gi.lookup x=some i->BS mg x i
 gt:∀x l,Γ.S.gt.lookup x=some l->rT K mg x l
 tb:∀x∈Γ.S.tb,KTab P w K mg x (Γ.tb x)
 tt:∀x l,Γ.S.tt.lookup x=some l->Bf P w K mg x l
 cl:∀i c,Γ.S.cl[i]? =some c->cy K (Γ.C i)/\mg c=some (.ref (Γ.C i))
 fs:∀c f,(c,f)∈Γ.S.fs->cy K (Γ.C c)/\aQ K (Γ.C c) f
 fn:∀(i:Nat) d,Γ.S.fd[i]? =some d->d.kind=0->zt P w K mg base k d.name d.ps (Γ.fn i)
 me:∀(i:Nat) d,Γ.S.fd[i]? =some d->d.kind=1->cy K (Γ.C d.cls)/\su P w K mg base (Γ.C d.cls) k d.name d.ps (Γ.fn i)
 lz:∀(i:Nat) d,Γ.S.fd[i]? =some d->d.kind=2->∃j,j+1<=k/\zu P w K mg base (Γ.C d.cls) j d.ps (Γ.lz i)
 gP:∀q∈Γ.gP,∃fd ps,PySem.W.keepIn K (.ref q.1)=true/\Binds K fd ps []/\c6 P w K mg base eS k q.1 fd ps (fm K q.2)
structure MT(Γ:G)(X:Cx):Prop where
 q:X.env.qual++("<lambda>":Str)=Γ.S.lq
 cc:∃cc,X.env.code= .ref cc/\PySem.W.CodeHd X.base cc Γ.lP
 bt:X.base.BuiltinsAt X.mg Γ.lP
 gp:mainGlobals≠Γ.lP
structure fv(Γ:G)(k:Nat)(fc:Bool)(N:az)(sc:Scope)(X:Cx):Prop where
 hN:X.N=N
 y8:∀x∈N,qx X.env.scope x/\iE x=true
 gl:∀x,sc.names.lookup x=some .globalImplicit->Gl X x
 calm:X.calm=true
 room:aH k X.A
 fn:fc=true->X.env.scope=sc/\N.Nodup/\(∀x∈N,Loc sc x)/\(∀x,X.fn x=true)/\PassesOwn (model X.prog X.w) X.A X.env X.xe/\X.env.blockKind= .function/\∀x,X.env.kindOf x=sc.names.lookup x
 lm:fc=true->N=Γ.S.ln->MT Γ X
def zv(X:Cx):aX->List ak->Prop
 | [],ts=>ts= []
 |x::xs,ts=>∃t r,ts=t::r/\ah X x t/\zv X xs r
noncomputable def Good (Γ:G)(X:Cx)(t:T):Nd->Prop
 | .e x=>ah X x (tr Γ t).E
 | .t x=>de X x (tr Γ t).T
 | .a xs=>d9 X xs (tr Γ t).A
 | .i tg x=>iV X tg x (tr Γ t).I
 | .p x=>qv X x (tr Γ t).P
 | .s x=>ee X x (tr Γ t).S
 | .b xs=>jg X xs (tr Γ t).S
 | .l xs=>zv X xs (tr Γ t).L
section
variable {X:Cx}{Γ:G}{t:T}{r:ak}{f:Expr->Bool}{nd:Nd}
theorem uB(e:tr Γ t=ex r)(he:∀x,f x=true->ah X x r)(h:bX nd f=true):Good Γ X t nd:=by
 cases nd<;>first|(cases h;done)|skip
 . show ah X _ (tr Γ t).E;rw[e];exact he _ (m7 h).2
 . rename_i x
   have h':(!Bs x&&f x)=true:=h;rw[aU,jD]at h';show de X _ (tr Γ t).T;rw[e];exact YZ (he _ h'.2) (Up h'.1)
theorem uo(e:tr Γ t=ex r)(he:∀x,f x=true->ah X x r/\de X x (jw r))(h:sV nd f=true):Good Γ X t nd:=by
 cases nd<;>first|(cases h;done)|skip
 . show ah X _ (tr Γ t).E;rw[e];exact(he _ (m7 h).2).1
 . show de X _ (tr Γ t).T;rw[e];exact(he _ h).2
theorem ah.imp{e:Expr}{t t':ak}(h:ah X e t)(i:∀σ M Q,t' σ M Q->t σ M Q):ah X e t':=PE.imp h λσ0 H Q0 h=>by
 obtain⟨σ,M,Q,hs,hv,ht,hk⟩:=h;exact⟨σ,M,Q,hs,hv,i _ _ _ ht,hk⟩
theorem ee.imp{e:Stmt}{t t':cD}(h:ee X e t)(i:∀D σ M,t' D σ M->t D σ M):ee X e t':=PS.imp h λD0 σ0 H h=>by
 obtain⟨σ,M,D,hs,hv,ht,hd⟩:=h;exact⟨σ,M,D,hs,hv,i _ _ _ ht,hd⟩
theorem Hi{e:Expr}:ah X e iL:=λpins s σ0 H Q0 I h=>by
 obtain⟨σ,M,Q,hs,hv,ht,hk⟩:=h;exact ht.elim
theorem T9{g:Value->Value->Sem Value}:cJ X g (λ_ _ _ _=>False):=λpins s σ H x y v u Q0 I rx ry h=>by
 obtain⟨a,b,M,Q,ra,rb,hv,hq,hk⟩:=h;exact hq.elim
theorem V8:∀o:Operator,cJ X (binaryOp o) (fY o):=by
 intro o;cases o<;>first|exact PY|exact PH|exact PN|exact PQ|exact PX|exact PK|exact T9
theorem rg(hu:X.A.units+64<cLine):∀o:CmpOp,cJ X (compareOp o) (eE o):=by
 intro o;cases o<;>first|exact NS|exact NR|exact NL|exact NK|exact PV hu|exact PM hu|exact NO|exact Wb|exact NM hu|exact V9 hu
theorem Fj{o p:CmpOp}{b c:Expr}(h:cY c=true):lastMarks [o,p] [b,c]=false:=lQ h
end
section
variable {X:Cx}
theorem Zs:cZ X (.builtin "isinstance") (fe X.K Bx):=by
 intro pins s σ H xs us Q0 I rl h;obtain⟨rs,M,Q,rr,hv,hq,hk⟩:=h;unfold Bx at hq;split at hq
 . rename_i a
   exact Ry pins s σ H xs us Q0 I rl ⟨_,M,Q,rr,hv,⟨rfl,hq⟩,hk⟩
 . rename_i x t _
   by_cases h1:t= "int"
   . subst h1;exact TV pins s σ H xs us Q0 I rl ⟨_,M,Q,rr,hv,⟨rfl,hq⟩,hk⟩
   by_cases h2:t= "bool"
   . subst h2;exact Ss pins s σ H xs us Q0 I rl ⟨_,M,Q,rr,hv,⟨rfl,hq⟩,hk⟩
   by_cases h3:t= "str"
   . subst h3;exact TU pins s σ H xs us Q0 I rl ⟨_,M,Q,rr,hv,⟨rfl,hq⟩,hk⟩
   by_cases h4:t= "tuple"
   . subst h4;exact Rx pins s σ H xs us Q0 I rl ⟨_,M,Q,rr,hv,⟨rfl,hq⟩,hk⟩
   by_cases h5:t= "list"
   . subst h5;exact Sr pins s σ H xs us Q0 I rl ⟨_,M,Q,rr,hv,⟨rfl,hq⟩,hk⟩
   . unfold Cy at hq
     rw[ag h1,ag h2,ag h3,ag h4,ag h5]at hq;exact hq.elim
 . exact hq.elim
theorem Zr:cZ X (.builtin "len") (fe X.K Bd):=by
 intro pins s σ H xs us Q0 I rl h;obtain⟨rs,M,Q,rr,hv,hq,hk⟩:=h;unfold Bd at hq;split at hq
 . rename_i a
   split at hq
   . rename_i ys e
     exact CM pins s σ H xs us Q0 I rl ⟨_,M,Q,rr,hv,by simp only[yE,e];exact hq,hk⟩
   . rename_i kvs e
     exact Zp pins s σ H xs us Q0 I rl ⟨_,M,Q,rr,hv,⟨a,kvs,rfl,e,hq⟩,hk⟩
   . rename_i kvs e
     exact Zo pins s σ H xs us Q0 I rl ⟨_,M,Q,rr,hv,⟨a,kvs,rfl,e,hq⟩,hk⟩
   . exact hq.elim
 . exact CM pins s σ H xs us Q0 I rl ⟨_,M,Q,rr,hv,hq,hk⟩
theorem Xv:bootBuiltins "max" =some (.builtin "max"):=by decide+kernel
variable {x:Str}{p pos:Pos}{e:Expr}{es:aX}{t:bA}
theorem Zv(hc:X.calm=true)(hx:zD.contains x=true)(hm:X.mg x=none)(hg:Gl X x)(hd:(x==("__debug__":Str))=false)(ha:d9 X (e::es) t)(ho:(e::es).all cY=true):ah X (.Call (.Name x p) (e::es) [] pos) (jx (fM x) t):=by
 rw[eC,aU]at ho;have s1:=gm (es:=es) (env:=X.env) ho.1;have s2:=qR (env:=X.env) (p:=pos) ho.2;have hm':x= "len"∨x= "isinstance"∨x= "all"∨x= "max"∨x= "ord":=by simpa[zD]using hx
 rcases hm' with rfl|rfl|rfl|rfl|rfl
 . exact uE Zr hm Xw ha hg ⋯ hd s1 s2
 . exact uE Zs hm Qs ha hg ⋯ hd s1 s2
 . exact uE (TZ hc) hm Xy ha hg ⋯ hd s1 s2
 . exact uE (Pk hc) hm Xv ha hg ⋯ hd s1 s2
 . exact uE Pj hm Xu ha hg ⋯ hd s1 s2
theorem Xs(hc:X.calm=true)(hx:zF.contains x=true)(hm:X.mg x=none)(hg:Gl X x)(hd:(x==("__debug__":Str))=false)(ha:d9 X (e::es) t)(ho:(e::es).all cY=true):ah X (.Call (.Name x p) (e::es) [] pos) (jx (qy x) t):=by
 rw[eC,aU]at ho;have s1:=gm (es:=es) (env:=X.env) ho.1;have s2:=qR (env:=X.env) (p:=pos) ho.2;have hm':x= "list"∨x= "str":=by simpa[zF]using hx
 rcases hm' with rfl|rfl
 . exact Ia Zn hm HP ha hg ⋯ hd s1 s2
 . exact Ia Ph hm pG ha hg ⋯ hd s1 s2
theorem Yt{y:String}(hx:["int","bool","str","tuple","list"].contains y=true)(hm:X.mg (Str.ofString y)=none)(hg:Gl X (Str.ofString y)):ah X (.Name (Str.ofString y) pos) (rC (.ty y)):=by
 have hm':y= "int"∨y= "bool"∨y= "str"∨y= "tuple"∨y= "list":=by simpa using hx
 rcases hm' with rfl|rfl|rfl|rfl|rfl
 . exact U7 hm hg
 . exact S9 hm hg
 . exact U6 hm hg
 . exact Sd hm hg
 . exact S8 hm hg
theorem Xr{C:Addr}{f:Str}{Q:aj}:qD C f Q=(λx M1=>match x with| .ref a=>∃fs v,M1 a=some (.ins C fs)/\fs.lookup f=some v/\Q v M1|_=>False):=by
 funext x M1;cases x with
 |ref a=>
  refine propext ⟨λh=>?_,λ⟨fs,v,e1,e2,q⟩=>?_⟩
  . unfold qD at h
    simp only at h;split at h
    . rename_i C' fs e1
      obtain⟨rfl,h'⟩:=h;split at h'
      . rename_i v e2;exact⟨fs,v,e1,e2,h'⟩
      . exact h'.elim
    . exact h.elim
  . unfold qD;simp only[e1,e2];exact⟨trivial,q⟩
 |_=>rfl
theorem ZI{C:Addr}{f:Str}{ta:ak}(hc:cy X.K C)(hn:aQ X.K C f)(he:ah X e ta)(hb:gF e=false):ah X (.Attribute e f pos) (B9 C f ta):=ah.imp (Pp hc hn he (mW hb)) λσ M Q h=>by
 unfold B9 at h;rw[Xr]at h;exact h
theorem Yk{C:Addr}{f:Str}{o value:Expr}{ta tv:ak}{pos':Pos}(hc:cy X.K C)(hn:aQ X.K C f)(ha:ah X o ta)(hv:ah X value tv)(hs:swapsWith value (some (.Attribute o f pos')) pos.line X.env=pure false):ee X (.Assign [.Attribute o f pos'] value pos) (Ca C f ta tv):=ee.imp (OR hc hn ha hv hs) λD σ M h=>by
 unfold Ca at h;have:∀y,qE C f y (D.nx σ)=(λx M2=>match x with| .ref a=>∃fs,M2 a=some (.ins C fs)/\fs.length<1000/\D.nx σ (put M2 a (.ins C (jy f y fs)))|_=>False):=λy=>by
  funext x M1;cases x with
  |ref a=>
   refine propext ⟨λh=>?_,λ⟨fs,e1,q⟩=>?_⟩
   . unfold qE at h
     simp only at h;split at h
     . rename_i C' fs e1
       obtain⟨rfl,h'⟩:=h;exact⟨fs,e1,h'⟩
     . exact h.elim
   . unfold qE;simp only[e1];exact⟨trivial,q⟩
  |_=>rfl
 simp only[this]at h;exact h
theorem IY{C:Addr}{m:Str}{sp:bO}{t:bA}{σ:aY}{Q:aj}:oW C m sp t σ Q=(λx M1=>match x with| .ref a=>∃fs,M1 a=some (.ins C fs)/\fs.lookup m=none/\t σ M1 λrs M2=>sp (.ref a::rs) M2 Q|_=>False):=by
 funext x M1;cases x with
 |ref a=>
  refine propext ⟨λh=>?_,λ⟨fs,e1,e2,q⟩=>?_⟩
  . unfold oW at h
    simp only at h;split at h
    . rename_i C' fs e1
      obtain⟨rfl,h'⟩:=h;exact⟨fs,e1,h'⟩
    . exact h.elim
  . unfold oW;simp only[e1];exact⟨trivial,e2,q⟩
 |_=>rfl
theorem Xj{C:Addr}{m:Str}{sp:bO}{o:Expr}{ta:ak}{apos:Pos}{k:Nat}{ps:az}(F:su X.prog X.w X.K X.mg X.base C k m ps sp)(c:cy X.K C)(hr:aH k X.A)(he:ah X o ta)(hb:gF o=false)(hn:iG apos pos=true):
 ah X (.Call (.Attribute o m apos) [] [] pos) (qd C m sp ta mh):=ah.imp (Vd F c hr he (Hl hb rfl ⋯ hn)) λσ M Q h=>by
 unfold qd at h;rw[IY]at h;exact h
theorem Yw{C:Addr}{m:Str}{sp:bO}{o:Expr}{ta:ak}{apos:Pos}{k:Nat}{ps:az}(F:su X.prog X.w X.K X.mg X.base C k m ps sp)(c:cy X.K C)(hr:aH k X.A)(he:ah X o ta)(ha:d9 X (e::es) t)(hb:gF o=false)(ho:(e::es).all cY=true)(hl:(e::es).length<29)(hn:iG apos pos=true):
 ah X (.Call (.Attribute o m apos) (e::es) [] pos) (qd C m sp ta t):=by
 have ho':=ho;rw[eC,aU]at ho;refine ah.imp (VW F c hr he ha (gm ho.1) (qR ho.2) (Hl hb ho' hl hn)) λσ M Q h=>?_
 unfold qd at h;rw[IY]at h;exact h
end
theorem Bj{S:SI}{fc:Bool}{N:az}{sc:Scope}{r:T}(h:mt S fc N sc r (.a [])=true):r= .e0:=by
 cases r<;>first|rfl|exact bp h gL
section
variable {X:Cx}{C:Addr}
theorem Ve{x:Str}{p pos:Pos}{k:Nat}{ps:az}{sp:bO}(F:zu X.prog X.w X.K X.mg X.base C k ps sp)(hr:aH (k+1) X.A)(hm:X.mg x=some (.ref C))(hg:Gl X x)(hdb:(x==("__debug__":Str))=false):ah X (.Call (.Name x p) [] [] pos) (rA C sp mh):=by
 obtain⟨g,fd,hM,hb,F⟩:=F.ex;refine PE.imp (SR hM F hr hg hm hb .nil pN hdb) λσ0 H Q0 h=>?_
 obtain⟨σ,M,Q,hs,hv,ht,hk⟩:=h;refine λa dx na nd ne=>?_
 have ex1:Ext H (upd H dx (.own a)):=Ext.new nd;have na':(upd H dx (.own a)) a=none:=by rw[aD (bC ne)];exact na
 have ex2:Ext H (upd (upd H dx (.own a)) a (.ins C dx [])):=ex1.trans (Ext.new na');refine⟨[.ref a],put M a (.ins C []),_,aa.cons (by simp only[Rep]) aa.nil,(hv.new nd).cM na' ⟨dx,[],rfl,rfl⟩,ht a (hv.free na),λrv M2 v H2 q2 e2 v2 r2=>?_⟩
 obtain⟨rfl,q2⟩:=q2;simp only[Rep]at r2;exact⟨r2,hk _ M2 _ H2 q2 (ex2.trans e2) v2 (by simp only[Rep])⟩
theorem gb{sc:Scope}{x:Str}(h:fP sc x=true):sc.names.lookup x=some .globalImplicit/\(x==("__debug__":Str))=false:=by
 unfold fP at h;rw[aU,eX,jD]at h;exact h
theorem Xg{x:Str}(h:iE x=true):(x==("__debug__":Str))=false/\(x==("__classdict__":Str))=false:=by
 unfold iE at h
 rwa [aU,jD,jD]at h
theorem GR{tg e:Expr}{l:Nat}{env:Env}(h:cY e=true)(hc:lA e=false):swapsWithSole [tg] e l env=pure false:=qS h hc
theorem mem_of{α:Type}[BEq α][LawfulBEq α]{a:α}{l:List α}(h:l.contains a=true):a∈l:=by simpa using h
theorem Vv{o i:Expr}{p:Pos}(h:cY i=true):∀v,assign (.Subscript o i p) X.env v=(do
 let ov<-holding [v] (eval o X.env)
 let iv<-holding [v,ov] (eval i X.env)
 standAt p
 holding [v,ov,iv] (setItem ov iv v)
 release [v,ov,iv] []):=by intro v;cases i<;>first|rfl|cases h
theorem HN{K:ae}{neg:Bool}{ss:az}{ta:ak}{σ0:L2.St}{H:Hp}{Q0:VK}(h:up K (rM neg ss ta) σ0 H Q0):rW (rX K (yo K neg)) (up K ta) (up K (Mz K ss)) σ0 H Q0:=by
 obtain⟨σ,M,Q,hs,hv,ht,hk⟩:=h;refine⟨σ,M,_,hs,hv,ht,λrx M1 x H1 q e1 v1 r1=>?_⟩
 refine⟨σ,M1,λy M2=>∃p,y= .ref p/\vh K p ss/\M2=M1,hs.ext e1,v1,λp hp=>⟨p,rfl,hp,rfl⟩,λry M2 y H2 q2 e2 v2 r2=>?_⟩
 obtain⟨p,rfl,hp,rfl⟩:=q2;exact⟨rx,.ref p,_,Q,Rep.ext e2 _ _ r1,r2,v2,⟨ss,hp,q.1,q.2⟩,hk.ext (e1.trans e2)⟩
theorem Ih{neg:Bool}{op:CmpOp}{ss:az}{a:Expr}{ta:ak}{x:Str}{p pos:Pos}(ho:cJ X (compareOp op) (yo X.K neg))(h:rT X.K X.mg x ss)(ha:ah X a ta)(hg:Gl X x)(hd:(x==("__debug__":Str))=false):ah X (.Compare a [op] [.Name x p] pos) (rM neg ss ta)/\de X (.Compare a [op] [.Name x p] pos) (jw (rM neg ss ta)):=
 ⟨PE.imp (He ho ha (MI h hg hd) (lQ rfl)) λ_ _ _ h=>HN h,PT.imp (Hb ho ha (MI h hg hd) (lQ rfl)) λσ0 H Q0 h=>by
  obtain⟨σ,M,Q,hs,hv,ht,hk⟩:=h;exact HN ⟨σ,M,_,hs,hv,ht,mM hk⟩⟩
theorem Yx{o e:Expr}{m:Str}{ap p:Pos}(h0:gF o=false)(hn:iG ap p=true)(he:cY e=true):M1 X o m ap e p where
 base:=mW h0
 sL:=by rw[uk (by rw[eC,he];rfl)];rfl
 line:=hn
 trees:=back_eq (by rw[eC,he];rfl)
end
section
variable {X:Cx}{Γ:G}{k:Nat}{fc:Bool}{N:az}{sc:Scope}
theorem fv.var(O:fv Γ k fc N sc X){i:Nat}{x:Str}{pos:Pos}(h:N[i]? =some x):ah X (.Name x pos) (pY i):=by
 have m:=O.y8 x (jG h);have d:=Xg m.2;exact rv i (by rw[O.hN];exact h) m.1 d.1 d.2
theorem fv.qa(O:fv Γ k true N sc X){i:Nat}{x:Str}{e:Expr}{te:ak}{pos pos':Pos}(h:N[i]? =some x)(he:ah X e te)(hs:swapsWith e (some (.Name x pos')) pos.line X.env=pure false):ee X (.Assign [.Name x pos'] e pos) (ve i te):=by
 obtain⟨hsc,nd,hl,hf,_⟩:=O.fn rfl;exact sset i he (by rw[O.hN];exact nd) (by rw[O.hN];exact h) (by rw[hsc];exact hl x (jG h)) hs (.inl (hf x))
theorem fv.gN(O:fv Γ k true N sc X){i:Nat}{x:Str}{pos:Pos}(h:N[i]? =some x):nU X (.Name x pos) (jh i):=by
 obtain⟨hsc,nd,hl,hf,_⟩:=O.fn rfl;exact ZE i (by rw[O.hN];exact nd) (by rw[O.hN];exact h) (by rw[hsc];exact hl x (jG h)) (.inl (hf x))
theorem FQ(O:fv Γ k true N sc X):∀(is:List Nat) (es:aX),lU N is es=true->nT X es (mn is)/\(assignEach es X.env).length=is.length/\(assignEach es X.env).findIdx? (·.1)=none
 | [],[],_=>⟨Hc,rfl,rfl⟩
 | [],_::_,h=>by simp[lU]at h
 |i::is,[],h=>by simp[lU]at h
 |i::is,e::es,h=>by
  cases e<;>first|(simp[lU]at h;done)|skip
  rename_i x p;simp only[lU,aU,eX]at h;obtain⟨hsc,nd,hl,hf,_⟩:=O.fn rfl;obtain⟨a,b,c⟩:=FQ O is es h.2;have hd:(assignEach (.Name x p::es) X.env)=(false,assign (.Name x p) X.env)::assignEach es X.env:=rfl;refine⟨GA (xG (i:=i) (by rw[O.hN];exact nd) (by rw[O.hN];exact h.1) (by rw[hsc];exact hl x (jG h.1)) (.inl (hf x))) a,by rw[hd,List.length_cons,b];rfl,by rw[hd,List.findIdx?_cons,c];rfl⟩
theorem gT(O:fv Γ k true N sc X){is:List Nat}{es:aX}{j:Nat}{pos:Pos}(h:lU N is es=true):nU X (.Tuple es j pos) (iQ is):=by
 obtain⟨a,b,c⟩:=FQ O is es h;exact Pa O.calm a rfl b c
theorem xD{scope:Scope}{nm:az}{cap:List (Nat×Str)}{cl:List (Str×Addr)}{C:Addr}{s:Shared}{H:Hp}{fp:List Addr}(O:fv Γ k fc N sc X)(hs:rL N sc scope nm cap=true):
 fv Γ k false (nm++cap.map Prod.snd) scope (cQ X scope cl C (nm++cap.map Prod.snd) s H fp):=by
 unfold rL at hs;simp only[aU,fG,eX]at hs;obtain⟨⟨⟨⟨⟨⟨⟨hcap,_⟩,_⟩,_⟩,_⟩,hnm⟩,_⟩,hdb⟩:=hs;refine⟨rfl,λx hx=>⟨?_,hdb x hx⟩,λx h=>Nn h,O.calm,O.room,(λh=>by cases h),λh=>by cases h⟩
 rcases dM.mp hx with hx|hx
 . exact .inl (lookup_relabel_local (hnm x hx))
 . obtain⟨p,hp,rfl⟩:=aW.mp hx
   exact .inr (Fb (hcap p hp).1.2)
theorem JS{x:Str}(h:cf sc x=true):sc.names.lookup x=some .cell∨sc.names.lookup x=some .free:=by
 unfold cf at h
 rwa [Bool.or_eq_true,eX,eX]at h
theorem Jl{tup:Bool}{tg:Expr}{nm:az}(h:yb tup tg nm=true):uZ tup tg nm:=by
 unfold yb at h;unfold uZ;split at h
 . simpa using h
 . simpa using h
 . cases h
structure A5(X:Cx)(N:az)(sc scope:Scope)(nm:az)(cap:List (Nat×Str)):Prop where
 eZ:∀p∈cap,N[p.1]? =some p.2/\scope.names.lookup p.2=some .free/\(sc.names.lookup p.2=some .cell∨sc.names.lookup p.2=some .free)
 ej:∀y∈scope.names,y.2= .free->(sc.names.lookup y.1=some .cell∨sc.names.lookup y.1=some .free)
 bz:∀y∈scope.names,y.2≠.cell
 bD:scope.kind= .function
 bW:∀y∈scope.names,y.2= .local->scope.names.lookup y.1=some .local
 hx:∀x∈nm,scope.names.lookup x=some .local
 jr:(nm++cap.map Prod.snd).Nodup
theorem Ge{scope:Scope}{nm:az}{cap:List (Nat×Str)}(hs:rL N sc scope nm cap=true):A5 X N sc scope nm cap:=by
 unfold rL at hs;simp only[aU,fG,eX,iB]at hs;obtain⟨⟨⟨⟨⟨⟨⟨hcap,ej⟩,bz⟩,bD⟩,bW⟩,hnm⟩,jr⟩,hdb⟩:=hs;refine⟨λp hp=>⟨(hcap p hp).1.1,(hcap p hp).1.2,JS (hcap p hp).2⟩,λy hy e=>?_,λy hy e=>?_,bD,λy hy e=>?_,hnm,jr⟩
 . have:=ej y hy
   rw[e]at this;exact JS (by simpa using this)
 . have:=bz y hy
   rw[e]at this;simp at this
 . have:=bW y hy
   rw[e]at this;simpa using this
end
section
variable {Γ:G}{k:Nat}{X:Cx}{fc:Bool}{N:az}{sc:Scope}
theorem Yd{el:Expr}{gs:List Comprehension}{scope:Scope}{p:Pos}{x:Str}{px:Pos}{l:Nat}(O:fv Γ k true N sc X)(h:sc.names.lookup x=some .cell):swapsWith (.ListComp el gs scope p) (some (.Name x px)) l X.env=pure false:=by
 obtain⟨_,_,_,_,_,hb,hk⟩:=O.fn rfl;show(pure (X.env.blockKind== .function&&X.env.kindOf x==some .local&&px.line==p.line&& !(scope.names.any λ(n,k)=>n==x&&(k== .local||k== .cell))):Sem Bool)=_
 rw[hk,h,show((some NameKind.cell:Option NameKind)==some .local)=false from by decide]
 simp
theorem Yc{el:Expr}{gs:List Comprehension}{scope:Scope}{p:Pos}{x:Str}{px:Pos}{l:Nat}(O:fv Γ k true N sc X)(h:sc.names.lookup x=some .local)(hl:px.line=p.line)(ha:(scope.names.any λy=>y.1==x&&(y.2== .local||y.2== .cell))=false):swapsWith (.ListComp el gs scope p) (some (.Name x px)) l X.env=pure true:=by
 obtain⟨_,_,_,_,_,hb,hk⟩:=O.fn rfl;show(pure (X.env.blockKind== .function&&X.env.kindOf x==some .local&&px.line==p.line&& !(scope.names.any λ(n,k)=>n==x&&(k== .local||k== .cell))):Sem Bool)=_
 rw[hk,h,hb,hl];have:(scope.names.any λ(n,k)=>n==x&&(k== .local||k== .cell))=false:=ha
 rw[this];simp
theorem VR{elt iter tg:Expr}{nm:az}{tup md:Bool}{y:Str}{py:Pos}{scope:Scope}{pos ir:Pos}{ti:gu}{tt:cU}{te:ak}{ifs:aX}{cap:List (Nat×Str)}(O:fv Γ k true N sc X)(i:Nat)(c:A5 X N sc scope nm cap)(htg:uZ tup tg nm)(hi:iV X tg iter ti)
 (hif:∀cl C s H fp,p5 (cQ X scope cl C (nm++cap.map Prod.snd) s H fp) ifs tt) (hel:∀cl C s H fp,ah (cQ X scope cl C (nm++cap.map Prod.snd) s H fp) elt te) (hs:∀v,foldedSetIterable iter X.env v=pure v) (hiN:N[i]? =some y)
 (hsw:swapsWith (.ListComp elt [⟨tg,iter,ifs,0⟩] scope pos) (some (.Name y py)) ir.line X.env=pure true):
 ee X (.Assign [.Name y py] (.ListComp elt [⟨tg,iter,ifs,0⟩] scope pos) ir) (ve i (qY (gh tup nm.length) md ti (cap.map Prod.fst) tt te)):=by
 obtain⟨hsc,nd,hl,hf,_⟩:=O.fn rfl;intro pins s σ0 H D0 I h;obtain⟨σ,M,D,hst,hv,ht,hd⟩:=h;rw[exec_Assign_Name_used _ _ _ _ hsw];refine ai (wpAny_standAt (ai ?_));show wpAny _ _ (do let _<-comprehension (.ListComp elt [⟨tg,iter,ifs,0⟩] scope pos) scope X.env _ (newList []) false (eval iter X.env) (some (assign (.Name y py) X.env))) _ _ s
 refine ai (gq (Gp (PP:=λ_ s'=>∃σ' H',Inv X pins σ' H' s'/\D0.nx σ' H') cap htg O.calm hi hif hel hsc O.hN c.eZ c.ej c.bz c.bD c.bW c.hx c.jr hs I (Q0:=λv H'=>D0.nx (σ0.set i (some v)) H') ⟨σ,M,_,hst,hv,ht,λrx M1 v H1 q e1 v1 r1=>hd.nx _ M1 _ H1 q e1 v1 ((hst.ext e1).set r1 i)⟩ ?_) (λ_ s' hq=>aJ (aJ hq)) λ_ _ e=>e)
 intro D C s5 m5 H5 hn inv q hC hL hS hce hpi;have J:Inv X pins σ0 H5 s5:=inv s5.heap (Heap.SameBut.refl ..);refine wpAny_assign_Name (FU J (by rw[O.hN];exact nd) (by rw[O.hN];exact hiN) (by rw[hsc];exact hl y (jG hiN)) (v:=.ref D) rfl (λs6 I6 sb=>?_) (.inl (hf y)))
 obtain⟨a,sb,ha⟩:=sb;have hCa:C≠a:=by
  rcases ha with rfl|e
  . exact hL
  . exactλz=>hce y a e z.symm
 obtain⟨o,es,ep,ho,r⟩:=hn;refine⟨m5,⟨o,es,ep,sb.extBut _ _ hCa ho,r⟩,λh' sb'=>⟨_,H5,Inv.turned (t':=s6.toks) (it:=C) I6 (λb o hb e=>sb'.extBut b o hb e) hC hL (.inr hS) hce hpi,q⟩⟩
theorem VG{elt iter tg:Expr}{nm:az}{tup md:Bool}{scope:Scope}{pos:Pos}{ti:gu}{tt:cU}{te:ak}{ifs:aX}{cap:List (Nat×Str)}(O:fv Γ k true N sc X)(c:A5 X N sc scope nm cap)(htg:uZ tup tg nm)(hi:iV X tg iter ti)
 (hif:∀cl C s H fp,p5 (cQ X scope cl C (nm++cap.map Prod.snd) s H fp) ifs tt) (hel:∀cl C s H fp,ah (cQ X scope cl C (nm++cap.map Prod.snd) s H fp) elt te) (hs:∀v,foldedSetIterable iter X.env v=pure v):
 ah X (.ListComp elt [⟨tg,iter,ifs,0⟩] scope pos) (qY (gh tup nm.length) md ti (cap.map Prod.fst) tt te):=by
 obtain⟨hsc,nd,hl,hf,_⟩:=O.fn rfl;intro pins s σ0 H Q0 I hw;rw[eval_ListComp];exact Gp cap htg O.calm hi hif hel hsc O.hN c.eZ c.ej c.bz c.bD c.bW c.hx c.jr hs I hw (use:=none) λD C s5 m5 H5 hn inv q hC hL hS hce hpi=>⟨m5,hn,λh' sb=>⟨.ref D,H5,inv h' sb,rfl,q⟩⟩
end
section
variable {X:Cx}{Γ:G}{t:T}{nd:Nd}
theorem Gy{op:BoolOp}{vs:aX}{p:Pos}{t:cU}(h:de X (.BoolOp op vs p) t):mF X (.BoolOp op vs p) t:=λwhole pins s σ H Q I w=>h pins s σ H Q I w
theorem uD{f g:Expr->Bool}(he:∀x,f x=true->ah X x (tr Γ t).E)(ht:∀x,g x=true->de X x (tr Γ t).T)(h:qH nd f g=true):Good Γ X t nd:=by
 cases nd<;>first|(cases h;done)|exact ht _ h|exact he _ (m7 h).2
theorem Xb{f:Stmt->Bool}(he:∀x,f x=true->ee X x (tr Γ t).S)(h:fX nd f=true):Good Γ X t nd:=by
 cases nd<;>first|(cases h;done)|exact he _ h
theorem Im{f:(aX->Nd)->aX->Bool}(he:∀x,f .a x=true->d9 X x (tr Γ t).A)(hl:∀x,f .l x=true->zv X x (tr Γ t).L)(h:zS nd f=true):Good Γ X t nd:=by
 cases nd<;>first|(cases h;done)|exact he _ h|exact hl _ h
theorem xZ{f:Expr->Expr->Bool}(he:∀tg x,f tg x=true->iV X tg x (tr Γ t).I)(h:sW nd f=true):Good Γ X t nd:=by
 cases nd<;>first|(cases h;done)|exact he _ _ h
theorem Ik{f:Option Expr->Bool}(he:∀x,f x=true->qv X x (tr Γ t).P)(h:zU nd f=true):Good Γ X t nd:=by
 cases nd<;>first|(cases h;done)|exact he _ h
theorem Il{f:List Stmt->Bool}(he:∀x,f x=true->jg X x (tr Γ t).S)(h:zT nd f=true):Good Γ X t nd:=by
 cases nd<;>first|(cases h;done)|exact he _ h
theorem OQ{st:Stmt}:ee X st (λ_ _ _=>False):=λpins s σ0 H D0 I h=>by
 obtain⟨σ,M,D,hs,hv,ht,hd⟩:=h;exact ht.elim
theorem Yj{st:List Stmt}:jg X st (λ_ _ _=>False):=λpins s σ0 H D0 I h=>by
 obtain⟨σ,M,D,hs,hv,ht,hd⟩:=h;exact ht.elim
end
theorem Ye{x y:Str}{px py pt pt2:Pos}{kt k2:Nat}{u v:Expr}{env:Env}(hb:env.blockKind= .function)(hx:env.kindOf x=some .local)(hy:env.kindOf y=some .local)(hl:py.line=px.line)(ne:¬y=x)(ho:[u,v].all cY=true)(hf:[u,v].all (foldedForSure 8)=false)(hc:[u,v].all (constantsAlone 8)=false):
 swappedStores [.Tuple [.Name x px,.Name y py] kt pt] (.Tuple [u,v] k2 pt2) env=pure (some [x,y]):=by
 unfold swappedStores;have en:([x,y]:az).eraseDups.length=2:=by
  have:(y==x)=false:=by simpa using ne
  simp[List.eraseDups_cons,this]
 simp only[eC,List.all_nil,Bool.and_true,aU]at ho;simp[hb,hx,hy,hl,hf,hc,en,show ∀(x:Str) (p:Pos),(Expr.Name x p).pos=p fromλ_ _=>rfl]
 rintro (z|z)
 . split at z
   . cases ho.1
   . cases z
 . split at z
   . cases ho.2
   . cases z
theorem Zf{ps:Arguments}{v:Str}(h:BA ps v=true):∃an p,ps=⟨[],[⟨v,an,p⟩],none,[],[],none,[]⟩:=by
 unfold BA at h;simp only[aU,List.isEmpty_iff,Option.isNone_iff_eq_none]at h;obtain⟨⟨⟨⟨⟨⟨h1,h2⟩,h3⟩,h4⟩,h5⟩,h6⟩,h7⟩:=h;obtain⟨a,b,c,d,e,f,g⟩:=ps;cases h1;cases h2;cases h3;cases h4;cases h5;cases h6;refine fS (C:=λb=>∃an p,(⟨[],b,none,[],[],none,[]⟩:Arguments)=⟨[],[⟨v,an,p⟩],none,[],[],none,[]⟩) h7 λy hy=>?_
 obtain⟨y1,y2,y3⟩:=y;obtain rfl:=fW hy;exact⟨y2,y3,rfl⟩
theorem Zm{sc:Scope}{env:Env}(h:∀y∈sc.names,y.2≠.free):closureFor sc env=pure []:=by
 unfold closureFor;have:∀(l:List (Str×NameKind)) (cs:List (Str×Addr)),(∀y∈l,y.2≠.free)->(forIn l cs λx r=>do
  let(name,kind):=x
  if(kind== .free)=true then do
   let y<-cellOf env name
   pure (ForInStep.yield ((name,y)::r))
  else pure (ForInStep.yield r):Sem (List (Str×Addr)))=pure cs:=by
  intro l
  induction l with
  |nil=>intro cs _;rfl
  |cons y l ih=>
   intro cs hy;rw[rY];have:(y.2==NameKind.free)=false:=by simpa using hy y iA
   simp only[this,jl,if_false,pure_bind];exact ih cs λz hz=>hy z (gk _ hz)
 have e:=this sc.names [] h;simp only[]at e ⊢
 first
  |(rw[e];rfl)
  |(simp only[bind_pure];exact e)
theorem bind1{v:Str}{an:Option Expr}{p:Pos}{sc:Scope}(name qual:Str)(body:Expr)(pm cd ct u:Value):bindArgs (PySem.W.kla_fn name qual ⟨[],[⟨v,an,p⟩],none,[],[],none,[]⟩ body sc [] pm cd ct) ⟨[u],[]⟩=pure [(v,u)]:=by
 have e:([(v,u)]:List (Str×Value)).lookup v=some u:=by simp
 unfold bindArgs;simp[seqItems?,PySem.W.kla_fn,e];rfl
theorem C9{v:Str}{an:Option Expr}{p:Pos}{sc:Scope}(h:Bw v sc=true):yi v ⟨[],[⟨v,an,p⟩],none,[],[],none,[]⟩ sc/\∀env:Env,closureFor sc env=pure []:=by
 unfold Bw iE at h;simp only[aU,fG,eX,bne_iff_ne,jD]at h;obtain⟨⟨⟨⟨⟨h1,h2⟩,h3⟩,h4⟩,h5⟩,h6,h7⟩:=h;exact⟨⟨bind1,h1,λy hy=>(h2 y hy).1,h3,h4,h5,h6⟩,λ_=>Zm λy hy=>(h2 y hy).2⟩
theorem FH{Γ:G}{k:Nat}{X:Cx}{N:az}{sc:Scope}{t:T}{ifs:aX}(O:fv Γ k false N sc X)(W:Wd X.prog X.w X.K X.mg X.base Γ k)
 (ih:∀{fc:Bool} {N:az} {sc:Scope} {X:Cx},fv Γ k fc N sc X->Wd X.prog X.w X.K X.mg X.base Γ k->∀{nd},mt Γ.S fc N sc t nd=true->Good Γ X t nd)
 (h:(match ifs with| []=>Br t| [c]=>mt Γ.S false N sc t (.t c)|_=>false)=true):p5 X ifs (tr Γ t).T:=by
 split at h
 . revert h
   exactλh=>di h λi=>T.b.elim t i λb h=>by cases b<;>first|exact Ou|cases h
 . exact Ot (ih O W h)
 . cases h
set_option hygiene false in
local macro_rules
 | `(tactic|walk_at "g0")=>`(tactic|(intro fc N sc X O W nd h))
 | `(tactic|walk_at "gE")=>`(tactic|(walk_at "g0";refine uB rfl (fun x hx=>?_) h))
 | `(tactic|walk_at "gS")=>`(tactic|(walk_at "g0";refine Xb (fun x hx=>?_) h))
 | `(tactic|walk_at "ga")=>`(tactic|simp only[aU,eX]at hx)
theorem sound{Γ:G}{k:Nat}:∀(t:T) {fc:Bool} {N:az} {sc:Scope} {X:Cx},fv Γ k fc N sc X->Wd X.prog X.w X.K X.mg X.base Γ k->∀{nd},mt Γ.S fc N sc t nd=true->Good Γ X t nd:=by
 intro t
 induction t with
 |v i=>
  walk_at "gE";refine gd hx λ_ _ hx=>?_
  exact O.var (by simpa using hx)
 |i n=>
  walk_at "gE";refine ye hx λm _ _ hx=>?_
  obtain rfl:=fW hx;exact ri
 |s n=>
  walk_at "gE";refine ye hx λm _ _ hx=>?_
  obtain rfl:=fW hx;exact rs
 |b n=>
  walk_at "gE";refine ye hx λm _ _ hx=>?_
  obtain rfl:=fW hx;exact rb
 |n=>
  walk_at "gE";refine ye hx λ_ _ _ hx=>?_
  obtain rfl:=fW hx;exact rn
 |g x0=>
  walk_at "gE";refine gd hx λ_ _ hx=>?_
  walk_at "ga";obtain⟨⟨rfl,h1⟩,h2⟩:=hx;obtain⟨h2,h3⟩:=gb h2;obtain⟨i,hi⟩:=zk.mp h1;rw[hi];exact ZQ (W.gi _ _ hi) (O.gl _ h2) h3
 |ty x0=>
  walk_at "gE";refine gd hx λ_ _ hx=>?_
  walk_at "ga";obtain⟨⟨⟨rfl,h1⟩,h2⟩,h3⟩:=hx;exact Yt h1 (W.bl _ (mem_of h2)) (O.gl _ (gb h3).1)
 |op o a b iha ihb=>
  walk_at "gE";refine Zl hx λ_ _ _ _ hx=>?_
  walk_at "ga";obtain⟨⟨rfl,h1⟩,h2⟩:=hx;exact ZU (V8 o) (iha O W h1) (ihb O W h2)
 |cm o a b iha ihb=>
  walk_at "g0";refine uo rfl (λx hx=>?_) h
  refine rf hx λ_ _ _ _ hx=>?_
  walk_at "ga";obtain⟨⟨rfl,h1⟩,h2⟩:=hx;exact⟨Pq (rg O.room.units o) (iha O W h1) (ihb O W h2) (lQ (dH h2)),Y1 (rg O.room.units o) (iha O W h1) (ihb O W h2) (lQ (dH h2))⟩
 |ch o p a b c iha ihb ihc=>
  walk_at "g0";refine uo rfl (λx hx=>?_) h
  refine JR hx λ_ z1 z2 _ hx=>?_
  refine rF hx λ_ _ hx=>?_
  refine rF hx λ_ _ hx=>?_
  walk_at "ga";obtain⟨⟨⟨⟨rfl,rfl⟩,h1⟩,h2⟩,h3⟩:=hx;exact⟨VH (rg O.room.units _) (rg O.room.units _) (iha O W h1) (ihb O W h2) (ihc O W h3) (Fj (dH h3)),U9 (rg O.room.units _) (rg O.room.units _) (iha O W h1) (ihb O W h2) (ihc O W h3) (Fj (dH h3))⟩
 |an a b iha ihb=>
  walk_at "g0";refine uD (λx hx=>?_) (λx hx=>?_) h
  . refine yd hx λz1 z2 p hx=>?_
    refine ni hx λhx=>?_
    refine ib hx λx z3 hx=>?_
    refine ib hx λy r hx=>?_
    simp only[aU]at hx;have h1:=iha O W hx.1;have h2:=ihb O W hx.2;cases r with
    |nil=>exact JC h1 (DC (h2:ah X y _))
    |cons z r=>exact JC h1 h2
  . refine yd hx λz1 z2 p hx=>?_
    refine ni hx λhx=>?_
    refine ib hx λx z3 hx=>?_
    refine ib hx λy r hx=>?_
    simp only[aU]at hx;have h1:=iha O W hx.1;have h2:=ihb O W hx.2;cases r with
    |nil=>exact yX (rand h1 (Y9 (h2:de X y _)))
    |cons z r=>exact yX (rand h1 (Gy h2))
 |or a b iha ihb=>
  walk_at "g0";refine uD (λx hx=>?_) (λx hx=>?_) h
  . refine yd hx λz1 z2 p hx=>?_
    refine ni hx λhx=>?_
    refine ib hx λx z3 hx=>?_
    refine ib hx λy r hx=>?_
    simp only[aU]at hx;have h1:=iha O W hx.1;have h2:=ihb O W hx.2;cases r with
    |nil=>exact DB h1 (DC (h2:ah X y _))
    |cons z r=>exact DB h1 h2
  . refine yd hx λz1 z2 p hx=>?_
    refine ni hx λhx=>?_
    refine ib hx λx z3 hx=>?_
    refine ib hx λy r hx=>?_
    simp only[aU]at hx;have h1:=iha O W hx.1;have h2:=ihb O W hx.2;cases r with
    |nil=>exact yX (MJ h1 (Pl (h2:de X y _)))
    |cons z r=>exact yX (MJ h1 (Gy h2))
 |no a iha=>
  walk_at "g0";refine uD (λx hx=>?_) (λx hx=>?_) h
  . refine Bm hx λz1 _ _ hx=>?_
    refine ni hx λhx=>?_
    exact Y3 (iha O W hx)
  . refine Bm hx λz1 _ _ hx=>?_
    refine ni hx λhx=>?_
    exact Y0 (iha O W hx)
 |ng a iha=>
  walk_at "gE";refine Bm hx λz1 _ _ hx=>?_
  refine ni hx λhx=>?_
  exact run PL (iha O W hx)
 |ie t a b iht iha ihb=>
  walk_at "gE";refine Zk hx λ_ _ _ _ hx=>?_
  walk_at "ga";obtain⟨⟨h1,h2⟩,h3⟩:=hx;exact ZR (iht O W h1) (iha O W h2) (ihb O W h3)
 |tu a iha=>
  walk_at "gE";refine uW hx λ_ _ _ hx=>?_
  exact OE (iha O W hx)
 |ll a iha=>
  walk_at "gE";refine JO hx λ_ _ hx=>?_
  exact Po (iha O W hx)
 |lm a iha=>
  walk_at "gE";refine JO hx λ_ _ hx=>?_
  exact Pn (iha O W hx)
 |e0=>
  walk_at "g0";refine Im (λx hx=>?_) (λx hx=>?_) h
  . refine gH hx λ_=>?_
    exact BB
  . refine gH hx λ_=>?_
    rfl
 |ec a r iha ihr=>
  walk_at "g0";refine Im (λx hx=>?_) (λx hx=>?_) h
  . refine ib hx λ_ _ hx=>?_
    have hx:=m7 hx;exact yg (iha O W hx.1) (ihr O W hx.2) (gm (dH hx.1))
  . refine ib hx λ_ _ hx=>?_
    have hx:=m7 hx;exact⟨_,_,rfl,iha O W hx.1,ihr O W hx.2⟩
 |ix a b iha ihb=>
  walk_at "gE";refine pU hx λ_ _ _ hx=>?_
  walk_at "ga";obtain⟨h1,h2⟩:=hx;exact ZS (iha O W h1) (ihb O W h2) (Ay (dH h2))
 |sl a l h0 iha ihl ihh=>
  walk_at "gE";refine pU hx λ_ z1 _ hx=>?_
  refine Zj hx λ_ _ z2 _ hx=>?_
  refine Bb hx λhx=>?_
  walk_at "ga";obtain⟨⟨h1,h2⟩,h3⟩:=hx;exact ZV (iha O W h1) (ihl O W h2) (ihh O W h3)
 |p0=>
  walk_at "g0";refine Ik (λx hx=>?_) h
  refine Bb hx λhx=>?_
  exact YG
 |p1 a iha=>
  walk_at "g0";refine Ik (λx hx=>?_) h
  refine JX hx λ_ hx=>?_
  exact YC (iha O W hx)
 |fl c f a iha=>
  walk_at "gE";refine uX hx λ_ _ _ hx=>?_
  walk_at "ga";obtain⟨⟨⟨rfl,h1⟩,h2⟩,h3⟩:=hx;exact ZI (W.fs _ _ (mem_of h1)).1 (W.fs _ _ (mem_of h1)).2 (iha O W h3) (by simpa using h2)
 |ca f a iha=>
  walk_at "gE";refine lR hx λx p es p' hx=>?_
  simp only[aU]at hx;obtain⟨⟨h1,h2⟩,h3⟩:=hx;cases e:Γ.S.fd[f]? with
  |none=>rw[e]at h1;cases h1
  |some d=>
  rw[e]at h1;simp only[aU,eX]at h1;obtain⟨h1,rfl⟩:=h1;obtain⟨h2,h4⟩:=gb h2;cases es with
  |nil=>
   have:=Bj h3;subst this;exact Vg (W.fn f d e h1) O.room (O.gl _ h2) h4
  |cons z es=>
   have ho:=gn h3;rw[eC,aU]at ho;exact WH (W.fn f d e h1) O.room (iha O W h3) (O.gl _ h2) h4 (gm ho.1) (qR ho.2)
 |me f o a iho iha=>
  walk_at "g0";cases ef:Γ.S.fd[f]? with
  |none=>
   refine uB (r:=iL) (by show ex _=_;rw[ef]) (λx hx=>Hi) h
  |some d=>
   refine uB (r:=qd (Γ.C d.cls) d.name (Γ.fn f) (tr Γ o).E (tr Γ a).A) (by show ex _=_;rw[ef]) (λx hx=>?_) h
   refine pF hx λx m ap es p hx=>?_
   rw[ef]at hx;simp only[aU,eX,iB]at hx;obtain⟨⟨⟨⟨⟨⟨h1,rfl⟩,h2⟩,h3⟩,h4⟩,h5⟩,h6⟩:=hx;have W1:=W.me f d ef h1;cases es with
   |nil=>
    have:=Bj h6;subst this;exact Xj W1.2 W1.1 O.room (iho O W h5) (by simpa using h2) h3
   |cons z es=>exact Yw W1.2 W1.1 O.room (iho O W h5) (iha O W h6) (by simpa using h2) (gn h6) h4 h3
 |mk f a iha=>
  walk_at "g0";cases ef:Γ.S.fd[f]? with
  |none=>
   refine uB (r:=iL) (by show ex _=_;rw[ef]) (λx hx=>Hi) h
  |some d=>
   refine uB (r:=rA (Γ.C d.cls) (Γ.lz f) (tr Γ a).A) (by show ex _=_;rw[ef]) (λx hx=>?_) h
   refine lR hx λx p es p' hx=>?_
   rw[ef]at hx;walk_at "ga";obtain⟨⟨⟨h1,h1'⟩,h2⟩,h3⟩:=hx;obtain⟨h2,h4⟩:=gb h2;obtain⟨j,hj,F⟩:=W.lz f d ef h1;have C1:=W.cl _ _ h1';cases es with
   |nil=>
    have:=Bj h3;subst this;exact Ve F (O.room.mono hj) C1.2 (O.gl _ h2) h4
   |cons z es=>
    have ho:=gn h3;rw[eC,aU]at ho;exact VC F (O.room.mono hj) C1.2 (iha O W h3) (O.gl _ h2) h4 (gm ho.1) (qR ho.2)
 |bf f a iha=>
  walk_at "gE";refine lR hx λx p es p' hx=>?_
  walk_at "ga";obtain⟨⟨⟨⟨⟨rfl,h1⟩,h2⟩,h3⟩,h4⟩,h5⟩:=hx;obtain⟨h3,h6⟩:=gb h3;cases es with
  |nil=>cases h4
  |cons z es=>exact Zv O.calm h1 (W.bl _ (mem_of h2)) (O.gl _ h3) h6 (iha O W h5) (gn h5)
 |bt f a iha=>
  walk_at "gE";refine lR hx λx p es p' hx=>?_
  walk_at "ga";obtain⟨⟨⟨⟨⟨rfl,h1⟩,h2⟩,h3⟩,h4⟩,h5⟩:=hx;obtain⟨h3,h6⟩:=gb h3;cases es with
  |nil=>cases h4
  |cons z es=>exact Xs O.calm h1 (W.bl _ (mem_of h2)) (O.gl _ h3) h6 (iha O W h5) (gn h5)
 |ap o a iho iha=>
  walk_at "gE";refine pF hx λ_ _ _ z1 _ hx=>?_
  refine fS hx λ_ hx=>?_
  walk_at "ga";obtain⟨⟨⟨⟨rfl,h1⟩,h2⟩,h3⟩,h4⟩:=hx;exact Vh (iho O W h3) (iha O W h4) (mW (by simpa using h1)) (by rw[uk (gn h4)];rfl) h2 (gm (by have:=gn h4;rw[eC,aU]at this;exact this.1)) rfl
 |po o a iho iha=>
  walk_at "gE";refine pF hx λ_ _ _ z1 _ hx=>?_
  refine fS hx λ_ hx=>?_
  walk_at "ga";obtain⟨⟨⟨⟨rfl,h1⟩,h2⟩,h3⟩,h4⟩:=hx;exact Y2 (iho O W h3) (iha O W h4) (mW (by simpa using h1)) (by rw[uk (gn h4)];rfl) h2 (gm (by have:=gn h4;rw[eC,aU]at this;exact this.1)) rfl
 |li o a iho iha=>
  walk_at "gE";refine pF hx λ_ _ _ z1 _ hx=>?_
  refine rF hx λ_ _ hx=>?_
  walk_at "ga";obtain⟨⟨⟨⟨rfl,h1⟩,h2⟩,h3⟩,h4⟩:=hx;exact Vf (iho O W h3) (iha O W h4) (mW (by simpa using h1)) (by rw[uk (gn h4)];rfl) h2 (gm (by have:=gn h4;rw[eC,aU]at this;exact this.1)) (by have:=gn h4;rw[eC,aU]at this;rw[back_eq this.2];simp)
 |dg d k0 ihd ihk=>
  walk_at "gE";refine pU hx λ_ _ _ hx=>?_
  walk_at "ga";obtain⟨h1,h2⟩:=hx;exact Ys (m9 O.room) (ihd O W h1) (ihk O W h2) (Ay (dH h2))
 |dn neg k0 d ihk ihd=>
  walk_at "g0";refine uo rfl (λx hx=>?_) h
  refine rf hx λ_ _ _ _ hx=>?_
  walk_at "ga";obtain⟨⟨h0,h1⟩,h2⟩:=hx;have g1:=ihk O W h1;have g2:=ihd O W h2;cases neg with
  |true=>rw[ar rfl]at h0;subst h0;exact⟨Uy (m9 O.room) g1 g2 (lQ (dH h2)),Tw (m9 O.room) g1 g2 (lQ (dH h2))⟩
  |false=>rw[ag ⋯]at h0;subst h0;exact⟨Oq (m9 O.room) g1 g2 (lQ (dH h2)),Yr (m9 O.room) g1 g2 (lQ (dH h2))⟩
 |d1 d k0 ihd ihk=>
  walk_at "gE";refine pF hx λ_ _ _ z1 _ hx=>?_
  refine fS hx λ_ hx=>?_
  walk_at "ga";obtain⟨⟨⟨⟨rfl,h1⟩,h2⟩,h3⟩,h4⟩:=hx;exact V2 (m9 O.room) (ihd O W h3) (ihk O W h4) (Yx (by simpa using h1) h2 (dH h4))
 |dk=>
  walk_at "gE";refine JQ hx λz1 z2 _ hx=>?_
  refine gH hx λhx=>?_
  refine gH hx λhx=>?_
  exact Y8
 |dt=>
  walk_at "gE";refine JQ hx λz1 z2 _ hx=>?_
  refine gH hx λhx=>?_
  refine gH hx λhx=>?_
  exact VF
 |ic neg a x0 iha=>
  walk_at "g0";cases ef:Γ.S.gt.lookup x0 with
  |none=>
   refine uo (r:=iL) (by show ex _=_;rw[ef]) (λx hx=>?_) h
   refine rf hx λ_ _ z1 _ hx=>?_
   refine gd hx λ_ _ hx=>?_
   rw[ef]at hx;simp at hx
  |some ss=>
   refine uo (r:=rM neg ss (tr Γ a).E) (by show ex _=_;rw[ef]) (λx hx=>?_) h
   refine rf hx λ_ _ z1 _ hx=>?_
   refine gd hx λ_ _ hx=>?_
   walk_at "ga";obtain⟨⟨⟨⟨h0,rfl⟩,_⟩,h2⟩,h3⟩:=hx;obtain⟨h2,h4⟩:=gb h2;have g:=iha O W h3;cases neg with
   |true=>rw[ar rfl]at h0;subst h0;exact Ih (U0 O.room.units) (W.gt _ _ ef) g (O.gl _ h2) h4
   |false=>rw[ag ⋯]at h0;subst h0;exact Ih (PU O.room.units) (W.gt _ _ ef) g (O.gl _ h2) h4
 |tx x0 a iha=>
  walk_at "gE";refine pU hx λz1 _ _ hx=>?_
  refine gd hx λ_ _ hx=>?_
  walk_at "ga";obtain⟨⟨⟨rfl,h1⟩,h2⟩,h3⟩:=hx;exact OF (W.tb _ (mem_of h1)) (iha O W h3) (Ay (dH h3)) (O.gl _ (gb h2).1) (gb h2).2
 |tn x0 a iha=>
  walk_at "g0";refine uD (λx hx=>by cases hx) (λx hx=>?_) h
  refine rf hx λ_ _ z1 _ hx=>?_
  refine gd hx λ_ _ hx=>?_
  walk_at "ga";obtain⟨⟨⟨⟨rfl,rfl⟩,h1⟩,h2⟩,h3⟩:=hx;obtain⟨h2,h5⟩:=gb h2;exact Se (W.tb _ (mem_of h1)) (iha O W h3) (O.gl _ h2) h5
 |ti x0 a iha=>
  walk_at "g0";refine uD (λx hx=>by cases hx) (λx hx=>?_) h
  refine rf hx λ_ _ z1 _ hx=>?_
  refine gd hx λ_ _ hx=>?_
  walk_at "ga";obtain⟨⟨⟨⟨rfl,rfl⟩,h1⟩,h2⟩,h3⟩:=hx;obtain⟨h2,h5⟩:=gb h2;exact U8 (W.tb _ (mem_of h1)) (iha O W h3) (O.gl _ h2) h5
 |cv i a iha=>
  walk_at "gE";refine lR hx λx p es p' hx=>?_
  walk_at "ga";obtain⟨⟨h1,h2⟩,h3⟩:=hx;cases es with
  |nil=>cases h2
  |cons z es=>
   have ho:=gn h3;rw[eC,aU]at ho;exact WG Γ.gP (λq hq=>by obtain⟨fd,ps,a1,a2,a3⟩:=W.gP q hq;exact⟨fd,ps,k,O.room,a1,a2,a3⟩) (O.var h1) (iha O W h3) (gm ho.1) (qR ho.2)
 |lr a b iha ihb=>
  walk_at "gE";refine lR hx λ_ _ z1 _ hx=>?_
  refine fS hx λz2 hx=>?_
  refine lR hx λ_ _ z3 _ hx=>?_
  refine rF hx λ_ _ hx=>?_
  walk_at "ga";obtain⟨⟨⟨⟨⟨⟨⟨rfl,rfl⟩,h1⟩,h2⟩,h3⟩,h4⟩,h5⟩,h6⟩:=hx;have s1:=gm (es:=[]) (env:=X.env) (dH h6);have s2:=λr=>gm (es:=r) (env:=X.env) (dH h5)
  exact VD (W.bl _ (mem_of h1)) (W.bl _ (mem_of h2)) O.calm (iha O W h5) (ihb O W h6) (O.gl _ (gb h3).1) (O.gl _ (gb h4).1) (by rw[s2,s1];rfl) s1 (s2 _) s1 rfl
 |cp md tup nm cap it t e ihi iht ihe=>
  walk_at "gE";refine JP hx λel z1 scope p hx=>?_
  refine fS hx λz2 hx=>?_
  obtain⟨tg,ite,ifs,as⟩:=z2;walk_at "ga";obtain⟨⟨⟨⟨⟨⟨⟨rfl,rfl⟩,h1⟩,h2⟩,h3⟩,h4⟩,h5⟩,h6⟩:=hx;exact VG O (Ge h2) (Jl h1) (ihi O W h4) (λcl C s H fp=>FH (xD O h2) W iht h6) (λcl C s H fp=>ihe (xD O h2) W h5) (xI h3)
 |im a iha=>
  walk_at "g0";refine xZ (λtg x hx=>?_) h
  refine pF hx λx m ap z p hx=>?_
  refine gH hx λhx=>?_
  walk_at "ga";obtain⟨⟨⟨⟨h0,rfl⟩,h1⟩,h2⟩,h3⟩:=hx;exact Expr.Tuple.elim tg h0 λ_ _ _=>W8 (iha O W h3) (mW (by simpa using h1)) h2
 |lv md a iha=>
  walk_at "gE";refine lR hx λ_ _ z1 _ hx=>?_
  refine fS hx λz2 hx=>?_
  refine pF hx λ_ _ _ z3 _ hx=>?_
  refine gH hx λhx=>?_
  walk_at "ga";obtain⟨⟨⟨⟨⟨⟨rfl,rfl⟩,h1⟩,h2⟩,h3⟩,h4⟩,h5⟩:=hx;exact ZT (W.bl _ (mem_of h1)) O.calm (iha O W h5) (O.gl _ (gb h2).1) (mW (by simpa using h3)) h4
 |pr i j a iha=>
  walk_at "gS";refine pB hx λz1 z2 pos hx=>?_
  refine uW hx λz3 kt pt hx=>?_
  refine rF hx λz4 z5 hx=>?_
  refine gd hx λx px hx=>?_
  refine gd hx λy py hx=>?_
  refine uW hx λz6 k2 pt2 hx=>?_
  refine rF hx λu v hx=>?_
  simp only[aU,eX,bne_iff_ne,ne_eq]at hx;obtain⟨⟨⟨⟨⟨⟨⟨⟨⟨⟨rfl,h1⟩,h2⟩,h3⟩,h4⟩,h5⟩,h6⟩,h7⟩,h8⟩,h9⟩,h10⟩:=hx;obtain⟨hsc,nd,hl,hf,_,hb,hk⟩:=O.fn rfl;exact OO O.calm (by rw[O.hN];exact nd) (by rw[O.hN];exact h1) (by rw[O.hN];exact h2) h3 (by rw[hsc];exact h4) (by rw[hsc];exact h5) (iha O W h10) (Ye hb (by rw[hk];exact h4) (by rw[hk];exact h5) h6 (by simpa using h7) (gn h10) ((jD _).mp h8) ((jD _).mp h9))
 |wh t b iht ihb=>
  walk_at "gS";refine XT hx λ_ _ z1 _ hx=>?_
  refine gH hx λhx=>?_
  simp only[aU]at hx;obtain⟨⟨rfl,h1⟩,h2⟩:=hx;exact VO (O.fn rfl).2.2.2.2.1 (iht O W h1) (ihb O W h2)
 |af c f o a iho iha=>
  walk_at "gS";refine XU hx λz1 z2 _ _ hx=>?_
  refine uX hx λ_ _ _ hx=>?_
  refine ni hx λhx=>?_
  walk_at "ga";obtain⟨⟨⟨rfl,h1⟩,h2⟩,h3⟩:=hx;exact ZW (W.fs _ _ (mem_of h1)).1 (W.fs _ _ (mem_of h1)).2 (iho O W h2) (iha O W h3)
 |dd d k0 ihd ihk=>
  walk_at "gS";refine X6 hx λz1 _ hx=>?_
  refine fS hx λz2 hx=>?_
  refine pU hx λ_ _ _ hx=>?_
  simp only[aU]at hx;exact V0 (m9 O.room) (ihd O W hx.1) (ihk O W hx.2)
 |is a iha=>
  walk_at "g0";refine xZ (λtg x hx=>?_) h
  simp only[aU]at hx;exact O9 (iha O W hx.2)
 |st a iha=>
  walk_at "g0";refine xZ (λtg x hx=>?_) h
  simp only[aU]at hx;exact O8 (iha O W hx.2)
 |r1 a iha=>
  walk_at "g0";refine xZ (λtg x hx=>?_) h
  refine lR hx λ_ _ z1 _ hx=>?_
  refine fS hx λ_ hx=>?_
  walk_at "ga";obtain⟨⟨⟨rfl,h1⟩,h2⟩,h3⟩:=hx;have s1:=gm (es:=[]) (env:=X.env) (dH h3);exact W5 (W.bl _ (mem_of h1)) (iha O W h3) (O.gl _ (gb h2).1) s1 s1
 |set i a iha=>
  walk_at "gS";refine pB hx λz1 e p' hx=>?_
  refine gd hx λx p hx=>?_
  simp only[aU,eX,Bool.or_eq_true]at hx;obtain⟨⟨⟨rfl,h1⟩,h2⟩,h3⟩:=hx;rcases h2 with h2|h2
  . exact O.qa h1 (iha O W h3) (qS (dH h3) (by simpa using h2))
  . by_cases hc:lA e=true
    . cases e<;>first|(cases hc;done)|skip
      exact O.qa h1 (iha O W h3) (Yd O h2)
    . exact O.qa h1 (iha O W h3) (qS (dH h3) (by simpa using hc))
 |sc i md tup nm cap it t e ihi iht ihe=>
  walk_at "gS";refine pB hx λz1 z2 p3 hx=>?_
  refine gd hx λx p hx=>?_
  refine JP hx λel z3 scope p2 hx=>?_
  refine fS hx λz4 hx=>?_
  obtain⟨tg,ite,ifs,as⟩:=z4;walk_at "ga";obtain⟨⟨⟨⟨⟨⟨⟨⟨⟨⟨⟨rfl,h1⟩,h2⟩,h3⟩,h4⟩,rfl⟩,h5⟩,h6⟩,h7⟩,h8⟩,h9⟩,h10⟩:=hx;exact VR O i (Ge h6) (Jl h5) (ihi O W h8) (λcl C s H fp=>FH (xD O h6) W iht h10) (λcl C s H fp=>ihe (xD O h6) W h9) (xI h7) h1 (Yc O h2 h3 (by simpa using h4))
 |un is a iha=>
  walk_at "gS";refine pB hx λz1 e p' hx=>?_
  refine uW hx λes j p hx=>?_
  simp only[aU]at hx;obtain⟨⟨⟨⟨rfl,h1⟩,h2⟩,h3⟩,h4⟩:=hx;have hw:swappedStores [.Tuple es j p] e X.env=pure none:=by cases e<;>first|rfl|cases h3
  exact Dz (iha O W h4) (gT O h1) (GR (dH h4) (by simpa using h2)) hw rfl
 |sf c f o a iho iha=>
  walk_at "gS";refine pB hx λz1 _ _ hx=>?_
  refine uX hx λ_ _ _ hx=>?_
  walk_at "ga";obtain⟨⟨⟨⟨rfl,h1⟩,h2⟩,h3⟩,h4⟩:=hx;exact Yk (W.fs _ _ (mem_of h1)).1 (W.fs _ _ (mem_of h1)).2 (iho O W h3) (iha O W h4) (qS (dH h4) (by simpa using h2))
 |dp d k0 a ihd ihk iha=>
  walk_at "gS";refine pB hx λz1 _ _ hx=>?_
  refine pU hx λ_ _ _ hx=>?_
  walk_at "ga";obtain⟨⟨⟨h1,h2⟩,h3⟩,h4⟩:=hx;exact VZ (m9 O.room) (ihd O W h2) (ihk O W h3) (iha O W h4) (qS (dH h4) (by simpa using h1))
 |sp l i a ihl ihi iha=>
  walk_at "gS";refine pB hx λz1 _ _ hx=>?_
  refine pU hx λ_ _ _ hx=>?_
  walk_at "ga";obtain⟨⟨⟨h1,h2⟩,h3⟩,h4⟩:=hx;exact Dz (iha O W h4) (Pb (ihl O W h2) (ihi O W h3) YN (Vv (dH h3))) (GR (dH h4) (by simpa using h1)) rfl rfl
 |re a iha=>
  walk_at "gS";refine Jn hx λz1 _ hx=>?_
  refine JX hx λ_ hx=>?_
  exact ON (iha O W hx)
 |r0=>
  walk_at "gS";refine Jn hx λz1 _ hx=>?_
  refine Bb hx λhx=>?_
  exact Yh
 |aZ t a b iht iha ihb=>
  walk_at "gS";refine X1 hx λ_ _ _ _ hx=>?_
  walk_at "ga";obtain⟨⟨h1,h2⟩,h3⟩:=hx;exact ZX (iht O W h1) (iha O W h2) (ihb O W h3)
 |fo tup is it b ihi ihb=>
  walk_at "gS";refine X3 hx λtg x y z1 p hx=>?_
  refine gH hx λhx=>?_
  simp only[aU]at hx;obtain⟨⟨⟨⟨rfl,h1⟩,h2⟩,h3⟩,h4⟩:=hx;have hp:=(O.fn rfl).2.2.2.2.1;have g3:=ihi O W h3;revert g3;cases tup with
  |true=>exact uW h2 λes _ _ h2 g3=>Dy hp O.calm g3 (gT O h2) (ihb O W h4) (xI h1)
  |false=>
   refine gd h2 λz _ h2=>?_
   exact fS h2 λi h2 g3=>Dy hp O.calm g3 (O.gN (by simpa using h2)) (ihb O W h4) (xI h1)
 |ex a iha=>
  walk_at "gS";refine X4 hx λ_ _ hx=>?_
  walk_at "ga";obtain⟨h1,h2⟩:=hx;exact Yl (iha O W h2) (qS (dH h2) (by simpa using h1))
 |ra=>
  intro fc N sc X O W nd h;cases nd<;>first|exact OQ|exact Yj|exact bp h gL
 |se a b iha ihb=>
  walk_at "g0";refine Il (λx hx=>?_) h
  refine ib hx λ_ _ hx=>?_
  walk_at "ga";obtain⟨h1,h2⟩:=hx;exact XE (t:=(tr Γ a).S) (u:=(tr Γ b).S) (iha O W h1) (ihb O W h2)
 |en=>
  walk_at "g0";refine Il (λx hx=>?_) h
  refine gH hx λhx=>?_
  exact OP
 |sk c f a iha=>
  walk_at "gE";refine Bo hx λg es ks _ hx=>?_
  refine gd hx λx _ hx=>?_
  refine fS hx λe hx=>?_
  refine fS hx λk hx=>?_
  obtain⟨k1,k2,k3⟩:=k;simp only[aU,iB,eX]at hx;obtain⟨⟨⟨⟨⟨⟨⟨⟨rfl,rfl⟩,hy⟩,hf⟩,hN⟩,h2⟩,h3⟩,h4⟩,h5⟩:=hx;refine Zi (C:=λz=>ah X (.Call (.Name _ _) [e] [⟨_,z,k3⟩] _) _) hy λps b ls lp hy=>?_
  refine uX hy λe' f' _ hy=>?_
  obtain⟨hy0,hz⟩:=m7 hy;obtain rfl:=fW hy0;refine gd hz λv _ hy=>?_
  simp only[aU,iB]at hy;obtain⟨⟨rfl,hy1⟩,hy2⟩:=hy;obtain⟨an,p,rfl⟩:=Zf hy1;obtain⟨h3,h6⟩:=gb h3;obtain⟨lq,⟨cc,lc,lh⟩,lb,lg⟩:=O.lm hf hN;exact VU (iha O W h5) (W.bl _ (mem_of h2)) (O.gl _ h3) (W.fs _ _ (mem_of h4)).1 (W.fs _ _ (mem_of h4)).2 (C9 hy2).1 O.room.depth lc lh lb lg rfl ((C9 (an:=an) (p:=p) hy2).2 _) lq (gm (dH h5))
structure iD where
 S:SI
 tb:Str->bH
 C:Nat->Addr
 cv:List (Addr×Nat)
 lP:Addr:=0
noncomputable def iD.G (p:iD)(f f':Nat->bO):G:=⟨p.S,p.tb,p.C,f,f',p.cv.map λq=>(q.1,f q.2),p.lP⟩
def DA(Γ:G)(d:FD):bO:=λrs M Q=>rs.length=d.ps.length/\(tr Γ d.body).S { nx:=λ_ M'=>Q .ao M',rt:=Q } (iK d.N rs) M
def A8(p:iD)(f f':Nat->bO)(i:Nat):bO:=match p.S.fd[i]? with
 |some d=>DA (p.G f f') d
 |none=>λ_ _ _=>False
noncomputable def pX (p:iD):Nat->(Nat->bO)×(Nat->bO)
 |0=>(λ_ _ _ _=>False,λ_ _ _ _=>False)
 |n+1=>(A8 p (pX p n).1 (pX p n).2,(pX p n).1)
def av(p:iD)(n:Nat):Nat->bO:=(pX p n).1
noncomputable def iD.Gn (p:iD)(n:Nat):R.G:=p.G (av p n) (pX p n).2
theorem GS{p:iD}{n i:Nat}{d:FD}(h:p.S.fd[i]? =some d):av p (n+1) i=DA (p.Gn n) d:=by
 show A8 p _ _ i=_;unfold A8;rw[h];rfl
structure jq(K:ae)(mg:bj)(S:SI)(C:Nat->Addr)(lP:Addr)(d:FD)(g:Addr)(fd:FuncData):Prop where
 ex:∃(qual:Str) (st:Stmt),(d.N=S.ln->qual++(".<locals>.":Str)++("<lambda>":Str)=S.lq/\∃cc,fd.code= .ref cc/\∀h:Heap,K.In h->PySem.W.CodeHd h cc lP)/\sh K d.name qual st g fd/\qW d.N d.ps (fz st)/\ID d.N (fz st)/\mt S true d.N (fz st) d.body (.b (pA st))=true
 bd:Binds K fd d.ps []
 k0:d.kind=0->mg d.name=some (.ref g)
 k1:d.kind=1->cy K (C d.cls)/\Meth K (C d.cls) d.name g
 k2:d.kind=2->Mk K (C d.cls) g
structure Hd(P:Program)(w:World)(K:ae)(mg:bj)(p:iD):Prop where
 bl:∀x∈p.S.bl,mg x=none
 gi:∀x i,p.S.gi.lookup x=some i->BS mg x i
 gt:∀x l,p.S.gt.lookup x=some l->rT K mg x l
 tb:∀x∈p.S.tb,KTab P w K mg x (p.tb x)
 tt:∀x l,p.S.tt.lookup x=some l->Bf P w K mg x l
 cl:∀(i:Nat) c,p.S.cl[i]? =some c->cy K (p.C i)/\mg c=some (.ref (p.C i))
 fs:∀c f,(c,f)∈p.S.fs->cy K (p.C c)/\aQ K (p.C c) f
 fns:∀(i:Nat) d,p.S.fd[i]? =some d->∃g fd,jq K mg p.S p.C p.lP d g fd
 lm:∀(i:Nat) d,p.S.fd[i]? =some d->d.N=p.S.ln->mainGlobals≠p.lP/\∀h:Heap,K.In h->h.BuiltinsAt mg p.lP
 cv:∀q∈p.cv,∃d,p.S.fd[q.2]? =some d/\d.kind=0/\mg d.name=some (.ref q.1)
section
variable {P:Program}{w:World}{K:ae}{mg:bj}{p:iD}{base:Heap}
theorem GG{k:Nat}{g:Addr}{fd:FuncData}{ps:az}:c6 P w K mg base eS k g fd ps (fm K λ_ _ _=>False) where
 len:=λvs H Q E h=>by obtain⟨rs,M,Q',_,_,h,_⟩:=h;exact h.elim
 run:=λA outer s H args us vs Q E _ _ _ _ h=>by obtain⟨rs,M,Q',_,_,h,_⟩:=h;exact h.elim
theorem Ym{n:Nat}(H:Hd P w K mg p)(L:∀(i:Nat) d g fd,p.S.fd[i]? =some d->jq K mg p.S p.C p.lP d g fd->c6 P w K mg base eS (n+1) g fd d.ps (fm K (av p n i))/\c6 P w K mg base eS n g fd d.ps (fm K ((pX p n).2 i))):Wd P w K mg base (p.Gn n) (n+1) where
 bl:=H.bl
 gi:=H.gi
 gt:=H.gt
 tb:=H.tb
 tt:=H.tt
 cl:=H.cl
 fs:=H.fs
 fn:=λi d e hk=>by
  obtain⟨g,fd,F⟩:=H.fns i d e;obtain⟨q,st,_,F1,_⟩:=F.ex;exact⟨g,fd,F.k0 hk,F1.kp,F.bd,(L i d g fd e F).1⟩
 me:=λi d e hk=>by
  obtain⟨g,fd,F⟩:=H.fns i d e;exact⟨(F.k1 hk).1,⟨g,fd,(F.k1 hk).2,F.bd,(L i d g fd e F).1⟩⟩
 lz:=λi d e hk=>by
  obtain⟨g,fd,F⟩:=H.fns i d e;exact⟨n,aS _,⟨g,fd,F.k2 hk,F.bd,(L i d g fd e F).2⟩⟩
 gP:=λq hq=>by
  obtain⟨q0,h0,rfl⟩:=aW.mp hq;obtain⟨d,e,hk,hm⟩:=H.cv q0 h0;obtain⟨g,fd,F⟩:=H.fns q0.2 d e;have:=(F.k0 hk).symm.trans hm;cases this;obtain⟨q,st,_,F1,_⟩:=F.ex;exact⟨fd,d.ps,F1.kp,F.bd,(L q0.2 d _ fd e F).1⟩
theorem zP(H:Hd P w K mg p)(kb:K.In base):∀(n:Nat) (i:Nat) d g fd,p.S.fd[i]? =some d->jq K mg p.S p.C p.lP d g fd->c6 P w K mg base eS (n+1) g fd d.ps (fm K (av p n i))/\c6 P w K mg base eS n g fd d.ps (fm K ((pX p n).2 i))
 |0,i,d,g,fd,e,F=>⟨GG,GG⟩
 |n+1,i,d,g,fd,e,F=>by
  refine⟨?_,(zP H kb n i d g fd e F).1⟩;rw[GS e];obtain⟨qual,st,L1,F1,S1,N1,m1⟩:=F.ex;refine Y7 F1 S1 (λrs M Q h=>h.1) (λcdv hcd A outer s H0 E hr=>?_) λrs M Q h=>h.2
  have O:fv (p.Gn n) (n+1) true d.N (fz st) (nq eS P w K mg base d.N qual (fz st) g cdv A outer s H0 E).qG:=by
   refine⟨rfl,λx hx=>⟨?_,?_⟩,λx h=>h,rfl,hr,λ_=>⟨rfl,N1.nd,N1.loc,λ_=>rfl,PassesOwn.never,?_,λx=>rfl⟩,λ_ hN=>?_⟩
   . exact(N1.loc x hx).elim .inl λz=>.inr (.inl z)
   . have:=N1.iE x hx
     unfold iE;rw[this.1,this.2];rfl
   . show(if(fz st).kind.isAnnotationScope then ScopeKind.function else(fz st).kind)=_
     rw[S1.kind];rfl
   . obtain⟨l1,cc,l2,l3⟩:=L1 hN
     obtain⟨l4,l5⟩:=H.lm i d e hN;exact⟨l1,⟨cc,hcd.symm.trans l2,l3 _ kb⟩,l5 _ kb,l4⟩
  exact sound d.body O (Ym H (zP H kb n)) m1
end
end R
namespace HD
open PySem PySem.W PyProof.Rows
noncomputable def XR (p:Program)(i:Nat):Stmt:=p.main.body.getD i (.Pass ⟨0,0,0,0⟩)
noncomputable def sub (s:Stmt)(i:Nat):Stmt:=match s with
 | .ClassDef (body:=b) ..=>b.getD i (.Pass ⟨0,0,0,0⟩)
 |s=>s
noncomputable def Dm (s:Stmt):Arguments:=match s with
 | .FunctionDef (args:=a) ..=>a
 |_=>default
noncomputable def rR (s:Stmt):List Stmt:=match s with
 | .FunctionDef (body:=b) ..=>b
 |_=>[]
noncomputable def Dl (s:Stmt):Scope:=match s with
 | .FunctionDef (scope:=c) ..=>c
 |_=>default
noncomputable abbrev e1 (P:Params) (x:String) (t:Tok) (v:Value):DictEntry:=⟨PyData.keyHash P x,.str x t,v⟩
noncomputable abbrev dz (es:List DictEntry) (n:Nat):Obj:=⟨.type "dict",none,.dict es.toArray n,#[]⟩
noncomputable abbrev bN (vs:aq):Obj:=⟨.none,none,.fields vs.toArray,#[]⟩
noncomputable abbrev Cs (vs:aq):Obj:=⟨.type "code",none,.fields vs.toArray,#[]⟩
noncomputable abbrev tup (xs:aq):Obj:=⟨.type "tuple",none,.seq xs.toArray 0,#[]⟩
noncomputable abbrev gR (n q:String) (s:Stmt) (pm cd:Value):Obj:=⟨.type "function",none,.func { name:=n,qualname:=q,params:=Dm s,body:=.stmts (rR s),scope:=Dl s,globals:=3,closure:=[],defaults:=.none,kwdefaults:=.none,doc:=.none,pyModule:=pm,annotations:=none,code:=cd,closureTuple:=.none,builtins:=0 },#[]⟩
noncomputable abbrev iR (n q:String) (s:Stmt):Obj:=⟨.none,none,.func { name:=n,qualname:=q,params:=Dm s,body:=.stmts (rR s),scope:=Dl s,globals:=0,closure:=[],defaults:=.none,kwdefaults:=.none,doc:=.none,pyModule:=.none,annotations:=none,code:=.none,closureTuple:=.none,builtins:=0 },#[]⟩
structure DF where
 n:String
 q:String
 s:Stmt
 a:Nat
 t:Nat
 l:Nat
 c:Nat
 xs:List String
 pm:Value
noncomputable def df (n q:String)(s:Stmt)(a t l c:Nat)(xs:List String)(pm:Value):DF:=⟨n,q,s,a,t,l,c,xs,pm⟩
noncomputable def HX:Nat->List String->aq
 |_,[]=>[]
 |t,x::xs=>.str x t::HX (t+1) xs
noncomputable def DF.co (d:DF):Obj:=Cs [.str d.n d.t,.str d.q (d.t+1),.str "/claim/cut.py" (d.t+2),.int d.l 0,.int d.c 0,.int 0 0,.int 0 0,.int 3 0,.ref d.a,.bool true,.int 181 0,.ref (d.a+1),.none,.ref (d.a+2),.ref (d.a+3),.ref (d.a+4),.int (d.t+3+d.xs.length:Nat) 0,.int d.l 0,.str "/claim/cut.py" (d.t+4+d.xs.length)]
noncomputable def DF.fn (d:DF):Obj:=gR d.n d.q d.s d.pm (.ref (d.a+5))
noncomputable def DF.objs (d:DF):List Obj:=[tup [],bN [],tup (HX (d.t+3) d.xs),tup [],iR d.n d.q d.s,d.co,d.fn]
noncomputable def treeOf (l:List Obj):BT:=(l.foldl (λ(x:BT×Nat) o=>(x.1.ins x.2 o,x.2+1)) (.nil,0)).1
theorem Io{tb:String->Option Builtin}{p:Program}{w:World}{n₀:Nat}{an:cI}{b:Nat}:∀{n m:Nat} {s s':SharedT} {t t':Thread} {r:Option (SharedT×Thread)},
 segGoT tb p w n₀ an b n s t=some (s',t')->segGoT tb p w n₀ an b m s' t'=r->segGoT tb p w n₀ an b (n+m) s t=r
 |0,m,s,s',t,t',r,h,k=>by
  simp only[segGoT,nK,Prod.mk.injEq]at h;obtain⟨rfl,rfl⟩:=h;rw[iy];exact k
 |n+1,m,s,s',t,t',r,h,k=>by
  have e:n+1+m=(n+m)+1:=by omega
  rw[e];simp only[segGoT]at h ⊢;split at h
  . cases h
  . rename_i he
    split at h
    . cases h
    . rename_i hk
      split at h
      . rename_i s2 t2 hs
        exact Io h k
      . cases h
theorem Ho{tb:String->Option Builtin}{p:Program}{w:World}{n₀:Nat}{an:cI}{b:Nat}:∀{n m:Nat} {s s':SharedT} {t t':Thread} {r:Flow×SharedT×Code×Pos},
 segGoT tb p w n₀ an b n s t=some (s',t')->segRunT tb p w n₀ an b m s' t'=some r->segRunT tb p w n₀ an b (n+m) s t=some r
 |0,m,s,s',t,t',r,h,k=>by
  simp only[segGoT,nK,Prod.mk.injEq]at h;obtain⟨rfl,rfl⟩:=h;rw[iy];exact k
 |n+1,m,s,s',t,t',r,h,k=>by
  have e:n+1+m=(n+m)+1:=by omega
  rw[e];simp only[segGoT]at h;simp only[segRunT];split at h
  . cases h
  . rename_i he
    split at h
    . cases h
    . rename_i hk
      split at h
      . rename_i s2 t2 hs
        exact Ho h k
      . cases h
theorem GU{tb:String->Option Builtin}{p:Program}{w:World}{n₀:Nat}{an:cI}{b:Nat}(k:Nat):∀{n:Nat} {s:SharedT} {t:Thread} {r:Flow×SharedT×Code×Pos},
 segRunT tb p w n₀ an b n s t=some r->segRunT tb p w n₀ an b (n+k) s t=some r
 |0,s,t,r,h=>by cases h
 |n+1,s,t,r,h=>by
  have e:n+1+k=(n+k)+1:=by omega
  rw[e];simp only[segRunT]at h ⊢;split at h
  . exact h
  . rename_i he
    split at h
    . cases h
    . rename_i hk
      split at h
      . exact GU k h
      . cases h
def Rn{α:Type}(p:Program)(w:World)(n₀:Nat)(an:cI)(c:Code)(F:List Frame)(m:Nat)(x:Sem α)(ps:Pos)(s:SharedT)(a:α)(ps':Pos)(s':SharedT):Prop:=
 ∀(K:α->Sem Fin) (H:Value->Sem Fin) (lv:aq->aq),∃n,n<=m/\segGoT treeTable p w n₀ an 1 n s ⟨x.wrap K H id lv,c,ps,F⟩=some (s',⟨K a,c,ps',F⟩)
section
variable {α β:Type}{p:Program}{w:World}{n₀:Nat}{an:cI}{c:Code}{F:List Frame}{m m1 m2:Nat}{ps ps1 ps2 ps':Pos}{s s1 s2 s':SharedT}
theorem Rn.more{x:Sem α}{a:α}(h:Rn p w n₀ an c F m1 x ps s a ps' s')(e:m1<=m):Rn p w n₀ an c F m x ps s a ps' s':=λK H lv=>by
 obtain⟨n,hn,h⟩:=h K H lv;exact⟨n,bG hn e,h⟩
theorem fQ{a:α}:Rn p w n₀ an c F m (pure a) ps s a ps s:=λK H lv=>⟨0,qj _,rfl⟩
theorem cu{x:Sem α}{f:α->Sem β}{a:α}{b:β}(h1:Rn p w n₀ an c F m1 x ps s a ps1 s1)(h2:Rn p w n₀ an c F m2 (f a) ps1 s1 b ps2 s2):Rn p w n₀ an c F (m1+m2) (x >>= f) ps s b ps2 s2:=λK H lv=>by
 obtain⟨n1,l1,e1⟩:=h1 (λa=>(f a).wrap K H id lv) H lv
 obtain⟨n2,l2,e2⟩:=h2 K H lv;refine⟨n1+n2,Nat.add_le_add l1 l2,?_⟩;rw[Sem.bind_eq_wrap',Sem.wrap_wrap];exact Io e1 e2
theorem Vc{x:Sem α}{a:α}{vs:aq}(h:Rn p w n₀ an c F m x ps s a ps' s'):Rn p w n₀ an c F m (x.keep vs) ps s a ps' s':=λK H lv=>by
 obtain⟨n,l,e⟩:=h K H (λr=>lv (vs++r))
 refine⟨n,l,?_⟩;rw[Sem.keep_eq_wrap,Sem.wrap_wrap];exact e
theorem t8{x:Sem α}{a:α}{vs:aq}(h:Rn p w n₀ an c F m x ps s a ps' s'):Rn p w n₀ an c F m (holding vs x) ps s a ps' s':=by
 unfold holding;split
 . exact h
 . exact Vc h
theorem i9{x:Sem α}{a:α}{n:Nat}(h:∀(K:α->Sem Fin) (H:Value->Sem Fin) (lv:aq->aq),segGoT treeTable p w n₀ an 1 n s ⟨x.wrap K H id lv,c,ps,F⟩=some (s',⟨K a,c,ps',F⟩)):Rn p w n₀ an c F n x ps s a ps' s':=
 λK H lv=>⟨n,aS _,h K H lv⟩
theorem mapOf{α β:Type}{f g:α->β}:∀{l:List α},l.map f=l.map g->∀i∈l,f i=g i:=λh=>List.map_inj_left.mp h
theorem VV{ι:Type}{l:List ι}{g:ι->Nat}{x:ι->Sem α}{a:α}(h:∀(K:α->Sem Fin) (H:Value->Sem Fin) (lv:aq->aq),l.map (λi=>segGoT treeTable p w n₀ an 1 (g i) s ⟨(x i).wrap K H id lv,c,ps,F⟩)=l.map λ_=>some (s',⟨K a,c,ps',F⟩)):∀i∈l,Rn p w n₀ an c F (g i) (x i) ps s a ps' s':=
 λi hi=>i9 λK H lv=>mapOf (h K H lv) i hi
theorem Aw{b:β}{f:α->β->Sem (ForInStep β)}:∀{xs:List α},(∀x∈xs,Rn p w n₀ an c F m (f x b) ps s (.yield b) ps s)->Rn p w n₀ an c F (m*xs.length) (forIn xs b f) ps s b ps s
 | [],_=>by rw[List.forIn_nil];exact fQ
 |x::xs,h=>by
  rw[rY];have h1:=h x (iA ..);have h2:=Aw (xs:=xs) λy hy=>h y (gk _ hy)
  have e:m*(x::xs).length=m+m*xs.length:=by rw[List.length_cons,Nat.mul_succ,Nat.add_comm]
  rw[e];exact cu h1 h2
end
section
variable {p:Program}{w:World}{n₀:Nat}{an:cI}{c:Code}{F:List Frame}{ps:Pos}{s:SharedT}{m L:Nat}
theorem Rm{a:Addr}{st:aq}(hL:st.length<=L)(hq:Rn p w n₀ an c F m (eqIsQuiet 8 (.ref a)) ps s true ps s)
 (hs:∀v∈st,Rn p w n₀ an c F m (eqIsQuiet 8 v) ps s true ps s):Rn p w n₀ an c F (m+m*L) (tableMayTell (.ref a) st) ps s false ps s:=by
 unfold tableMayTell;split
 . exact fQ
 . refine Rn.more (cu hq (m2:=m*st.length) ?_) (Nat.add_le_add_left (Nat.mul_le_mul_left _ hL) _)
   rw[ag ⋯]
   refine Rn.more (cu (m2:=0) (Aw (m:=m) λv hv=>?_) ?_) (aS _)
   . refine Rn.more (cu (m2:=0) (hs v hv) ?_) (aS _)
     rw[ag ⋯]
     exact fQ
   . exact fQ
theorem find_none{d a:Addr}{h:Int}{es:Array DictEntry}{ep:Nat}(hL:es.size<=L)(rn_rule:∀t,Rn p w n₀ an c F 1 (rule t) ps s () ps s)
 (hd:Rn p w n₀ an c F 1 (dictEntries d none) ps s es ps s) (he:Rn p w n₀ an c F 1 (dictEpoch d none) ps s ep ps s)
 (hq:Rn p w n₀ an c F m (eqIsQuiet 8 (.ref a)) ps s true ps s)
 (hk:∀e∈es.toList,(∃b:Addr,e.key= .ref b/\b≠a)/\Rn p w n₀ an c F m (eqIsQuiet 8 e.key) ps s true ps s/\Rn p w n₀ an c F m (eqBool e.key (.ref a)) ps s false ps s):
 Rn p w n₀ an c F (1+((m+m*L)+(m+3)*L)) (dictFind d (.ref a) h) ps s none ps s:=by
 unfold dictFind;refine t8 ?_;dsimp only[keyPart];refine cu hd ?_;have hp:∀i∈placesWithHash es.size (λi=>Option.map (λx=>x.hash) es[i]?) h,i<es.size:=λi hi=>by
  unfold placesWithHash at hi;exact jo.mp (dJ.mp hi).1
 have hpl:(placesWithHash es.size (λi=>Option.map (λx=>x.hash) es[i]?) h).length<=L:=by
  unfold placesWithHash;refine bG (jF _ _) ?_;rw[zg];exact hL
 generalize placesWithHash es.size (λi=>Option.map (λx=>x.hash) es[i]?) h=places at hp hpl ⊢
 have hst:∀v∈List.filterMap (λi=>Option.map (λx=>x.key) es[i]?) places,∃e∈es.toList,v=e.key:=λv hv=>by
  obtain⟨i,hi,e⟩:=qm.mp hv;obtain⟨x,hx,rfl⟩:=Option.map_eq_some_iff.mp e;exact⟨x,Array.mem_toList_iff.mpr (Array.mem_of_getElem? hx),rfl⟩
 have hsl:(List.filterMap (λi=>Option.map (λx=>x.key) es[i]?) places).length<=L:=bG (zl _ _) hpl
 generalize List.filterMap (λi=>Option.map (λx=>x.key) es[i]?) places=stored at hst hsl ⊢
 have hno:∀e∈es.toList,(e.key==Value.ref a)=false:=λe h1=>by
  obtain⟨⟨b,h2,h3⟩,_⟩:=hk e h1;rw[h2];exact mq.mpr λq=>h3 (Value.ref.inj q)
 rw[ag (by simp[carriedByValue])]
 rw[ag (by
  rw[<-Array.any_toList,Bool.not_eq_true,List.any_eq_false];intro e h1;rw[hno e h1];simp)]
 rw[ag (by
  intro q;have q:=fW q;obtain⟨e,h1,h2⟩:=hst (.ref a) (by rw[q];exact iA ..)
  have:=hno e h1;rw[<-h2]at this;simp at this)]
 refine cu (Rm hsl hq λv hv=>?_) ?_
 . obtain⟨e,h1,rfl⟩:=hst v hv
   exact(hk e h1).2.1
 rw[ag (by simp)]
 refine Rn.more (cu (m2:=0) (Aw (m:=m+3) λi hi=>?_) ?_) (Nat.mul_le_mul_left _ hpl)
 . have hi':=hp i hi
   have hg:es[i]? =some es[i]:=Array.getElem?_eq_getElem hi';rw[hg];dsimp only;split
   . obtain⟨_,_,hb⟩:=hk es[i] (Array.mem_toList_iff.mpr (Array.getElem_mem hi'))
     refine Rn.more (cu he (cu (m2:=2) hb (cu (m2:=1) he ?_))) ∅
     rw[ag (by simp),ag ⋯]
     refine Rn.more (cu (m2:=0) (rn_rule _) ?_) (aS _);rw[ag (by simp)]
     exact fQ
   . exact fQ
 . exact fQ
end
section
variable {α β:Type}{p:Program}{w:World}{n₀:Nat}{an:cI}{c:Code}{F:List Frame}{ps ps1 ps2:Pos}{s s1 s2:SharedT}{m m1 m2 m3 mf mu:Nat}
theorem Ul{i:Int}(hr:∀t,Rn p w n₀ an c F 1 (rule t) ps s () ps s):Rn p w n₀ an c F 1 (pyHashByItsType.reduced i) ps s (reduceHash i) ps s:=by
 unfold pyHashByItsType.reduced reduceHash;split
 . exact fQ
 . exact Rn.more (cu (m2:=0) (hr _) fQ) (aS _)
theorem Uk{a:Addr}{i:Int}{t:Tok}(hr:∀x,Rn p w n₀ an c F 1 (rule x) ps s1 () ps s1)(h1:Rn p w n₀ an c F m1 (cRoomFor "hash" [.ref a]) ps s () ps s)
 (h2:Rn p w n₀ an c F m2 (specialOf (.ref a) "__hash__") ps s (some (.builtin "tuple.__hash__")) ps s)
 (h3:∀E,Rn p w n₀ an c F m3 (callSpecialIfBoundUnlessNone? (.ref a) "__hash__" E) ps s (some (.int i t)) ps s1):Rn p w n₀ an c F (m1+(m2+(m2+(m3+1)))) (pyHash (.ref a)) ps s (reduceHash i) ps s1:=by
 unfold pyHash;dsimp only;unfold pyHashByItsType;refine cu h1 (cu h2 ?_);rw[ag ⋯]
 refine cu h2 ?_;rw[ag ⋯]
 refine cu (h3 _) ?_;exact Ul hr
theorem Uv{d a:Addr}{h:Int}{v:Value}(hr:∀x,Rn p w n₀ an c F 1 (rule x) ps s1 () ps s1)(hh:Rn p w n₀ an c F m1 (pyHash (.ref a)) ps s h ps s1)(hf:Rn p w n₀ an c F mf (dictFind d (.ref a) h) ps s1 none ps s1)
 (hu:Rn p w n₀ an c F mu (updateDictKeys d (λx=>x.push ⟨h,.ref a,v⟩) none) ps s1 () ps s2):Rn p w n₀ an c F (m1+(mf+(1+mu))) (dictSet d (.ref a) v) ps s () ps s2:=by
 unfold dictSet;refine t8 (cu hh ?_);unfold dictSetHashed;refine t8 (cu hf ?_);exact cu (hr _) hu
theorem Va{x:α}{xs:List α}{b:β}{f:α->β->Sem (ForInStep β)}(h1:Rn p w n₀ an c F m1 (f x b) ps s (.yield b) ps1 s1)(h2:Rn p w n₀ an c F m2 (forIn xs b f) ps1 s1 b ps2 s2):Rn p w n₀ an c F (m1+m2) (forIn (x::xs) b f) ps s b ps2 s2:=by
 rw[rY];exact cu h1 h2
theorem Vb{b:β}{f:α->β->Sem (ForInStep β)}:Rn p w n₀ an c F 0 (forIn [] b f) ps s b ps s:=by
 rw[List.forIn_nil];exact fQ
theorem Y4{x y:Sem α}{a:α}(e:x=y)(h:Rn p w n₀ an c F m y ps s a ps1 s1):Rn p w n₀ an c F m x ps s a ps1 s1:=e ▸ h
end
section
theorem UW{q:Program}{loose mods:az}{Xt:Shared->Bool}{h:Heap}{d:Drawn}{k:Nat}{os:OsState}
 (a:PyProof.Rows.seen (List.map (λx=>x.name) (recsOf q)) (ownsOf q) [] ⟨h,#[],d,k,os⟩=expectedOf q) (b:h.bltView=bltViewBooted)
 (c:h.keysOk (looseW q loose) (List.map (λx=>x.name) (recsOf q)) (List.map (λx=>x.fst) (litsOf q)) (List.map (λx=>x.name) (clssOf q (looseW q loose)))=true)
 (c2:h.accountedOkI mods=true) (c3:(h.isNs mainGlobals&&h.isNs builtinsNs)=true) (c4:tablesOk q h=true) (c5:Xt ⟨h,#[],d,k,os⟩=true)
 (e:tabsOk q ⟨h,#[],d,k,os⟩=true) (f:pinSeenD q (drecsOf q) ⟨h,#[],d,k,os⟩=pinGoodD (drecsOf q)) (g:plainSeenE q (looseW q loose) ⟨h,#[],d,k,os⟩=plainGoodE q (looseW q loose)) (g2:plainSeenD q loose ⟨h,#[],d,k,os⟩=plainGoodD q loose)
 (g3:wideSeen q ⟨h,#[],d,k,os⟩=wideGood q) (g4:clsSeenW q loose ⟨h,#[],d,k,os⟩=clsGoodW q loose):openSeen q loose mods Xt true ⟨h,#[],d,k,os⟩=openGood q loose:=by
 rw[aU]at c3;unfold openSeen openGood;dsimp only;rw[a,b,c,c2,c3.1,c3.2,c4,c5,e,f,g,g2,g3,g4];rfl
end
end HD
namespace R
open PySem PySem.Spec PyProof.Rows L2
noncomputable def Bt:Stmt->Bool
 | .FunctionDef ..=>true
 |_=>false
structure FA where
 n:String
 q:String
 s:Stmt
 g:Addr
 c:Addr
 pm:Value
noncomputable def FA.fn (D:FA):Obj:=HD.gR D.n D.q D.s D.pm (.ref D.c)
noncomputable def fdOf (D:FA):FuncData:=PySem.W.fnOf D.n D.q (HE D.s) (pA D.s) (fz D.s) .none .none .none D.pm none (.ref D.c) .none
theorem ZH{D:FA}(h:Bt D.s=true):D.fn=⟨.type "function",none,.func (fdOf D),#[]⟩:=by
 unfold FA.fn fdOf;cases e:D.s<;>rw[e]at h<;>first|rfl|cases h
theorem Xc{K:ae}{D:FA}(h:Bt D.s=true)(l:K.lookup D.g=some D.fn)(c:PySem.W.codeIn K (.ref D.c) D.q=true)(k:PySem.W.keepIn K (.ref D.g)=true):sh K D.n D.q D.s D.g (fdOf D):=
 ⟨⟨_,_,_,_,_,_,_,_,_,rfl,by rw[l,ZH h],c⟩,k⟩
noncomputable def BM (o:Option NameKind):Bool:=match o with
 |some .local=>true
 |some .cell=>true
 |_=>false
theorem UC{o:Option NameKind}(h:BM o=true):o=some .local∨o=some .cell:=by
 unfold BM at h;split at h
 . exact .inl rfl
 . exact .inr rfl
 . cases h
noncomputable def ZF:NameKind->Bool
 | .free=>false
 |_=>true
noncomputable def AN (N ps:az)(sc:Scope):Bool:=(match sc.kind with| .function=>true|_=>false)&& !sc.isCoroutine&& !sc.isGenerator&&decide N.Nodup&&decide (N.take ps.length=ps)&&sc.names.all (λy=>ZF y.2)&&N.all (λx=>BM (sc.names.lookup x)&& !(x==("__debug__":Str))&& !(x==("__classdict__":Str)))
theorem S7{N ps:az}{sc:Scope}(h:AN N ps sc=true):qW N ps sc/\ID N sc:=by
 unfold AN at h;simp only[aU,jD,iB,fG]at h;obtain⟨⟨⟨⟨⟨⟨h1,h2⟩,h3⟩,h4⟩,h5⟩,h6⟩,h7⟩:=h;have l:∀x∈N,sc.names.lookup x=some .local∨sc.names.lookup x=some .cell:=λx hx=>UC (h7 x hx).1.1
 refine⟨⟨?_,h2,h3,h4,h5,λx hx=>l x ?_,λy hy=>?_⟩,⟨h4,l,λx hx=>⟨(h7 x hx).1.2,(h7 x hx).2⟩⟩⟩
 . revert h1;cases sc.kind<;>simp
 . rw[<-h5]at hx;exact List.mem_of_mem_take hx
 . have:=h6 y hy
   intro z;rw[z]at this;cases this
noncomputable def rQ:Option (cI)->Bool
 |some none=>true
 |_=>false
theorem HK{o:Option (cI)}(h:rQ o=true):o=some none:=by
 unfold rQ at h;split at h
 . rfl
 . cases h
noncomputable def yz (i:Int):Option (cI)->Bool
 |some (some (.int j _))=>j==i
 |_=>false
theorem Vx{i:Int}{o:Option (cI)}(h:yz i o=true):∃t,o=some (some (.int i t)):=by
 unfold yz at h;split at h
 . rename_i j t;exact⟨t,by rw[fW h]⟩
 . cases h
noncomputable def nv (a:Addr):Option (cI)->Bool
 |some (some (.ref b))=>b==a
 |_=>false
theorem uA{a:Addr}{o:Option (cI)}(h:nv a o=true):o=some (some (.ref a)):=by
 unfold nv at h;split at h
 . rw[fW h]
 . cases h
noncomputable def BN:Option (cI)->Bool
 |some (some (.builtin "object.__setattr__"))=>true
 |_=>false
theorem Vy{o:Option (cI)}(h:BN o=true):o=some (some (.builtin "object.__setattr__")):=by
 unfold BN at h;split at h
 . rfl
 . cases h
noncomputable def yc:az->aq->Bool
 | [],[]=>true
 |x::xs,.str y _::ys=>(x==y)&&yc xs ys
 |_,_=>false
theorem GW:∀{ss:az} {vs:aq},yc ss vs=true->Vals (ss.map V.str) vs
 | [],[],_=>.nil
 |x::xs,.str y t::ys,h=>by
  unfold yc at h;rw[aU]at h;cases fW h.1;exact .cons ⟨t,rfl⟩ (GW h.2)
noncomputable def yA (K:ae)(ss:az):Option (cI)->Bool
 |some (some (.ref a))=>match K.lookup a with
  |some ⟨.type "tuple",_,.seq ab _,_⟩=>decide (ab.size<=100)&&yc ss ab.toList
  |_=>false
 |_=>false
theorem VI{K:ae}{h:Heap}{mg:bj}{x:Str}{ss:az}(X:K.In h)(G:h.Ns mainGlobals mg)(e:yA K ss (PySem.W.nsIn K mainGlobals x)=true):rT K mg x ss:=by
 unfold yA at e;split at e
 . rename_i a ea
   split at e
   . rename_i ab n d sl el
     rw[aU,iB]at e;exact Uz (mD X G ea) el (bG e.1 ⋯) (GW e.2)
   . cases e
 . cases e
noncomputable def p6 (K:ae)(C:Addr):Bool:=vA K C Str.empty&&zf K C&&PySem.W.plainOver K C&&BN (PySem.W.findIn K (.ref C) "__setattr__")
theorem AV{K:ae}{C:Addr}(h:p6 K C=true):cy K C:=by
 unfold p6 at h;simp only[aU]at h;exact⟨h.1.1.1,h.1.1.2,h.1.2,Vy h.2⟩
noncomputable def xC (K:ae)(c P:Addr):Bool:=match K.lookup c with
 |some ⟨.type "code",_,.fields (vs:Array Value),_⟩=>(match(vs[11]?:cI)with|some (.ref b)=>b==P|_=>false)&&(match vs.getD 18 .none with| .str _ _=>true|_=>false)&&(match vs.getD 7 .none with| .int _ _=>true|_=>false)&&(match vs.getD 9 .none with| .bool _=>true|_=>false)&&(match vs.getD 10 .none with| .int _ _=>true|_=>false)&& !(c==P)
 |_=>false
theorem Gf{K:ae}{c P:Addr}(e:xC K c P=true){h:Heap}(X:K.In h):PySem.W.CodeHd h c P:=by
 unfold xC at e;split at e
 . rename_i d vs sl el
   simp only[aU]at e;obtain⟨⟨⟨⟨⟨e1,e2⟩,e3⟩,e4⟩,e5⟩,e6⟩:=e;have ne:c≠P:=by simpa using e6
   split at e1
   . rename_i b eb
     have ebP:b=P:=fW e1;subst ebP;have eg:vs.getD 11 .none= .ref b:=by simp only[Array.getD_eq_getD_getElem?];rw[eb];rfl
     split at e2
     . rename_i a2 t2 h2
       split at e3
       . rename_i a3 t3 h3
         split at e4
         . rename_i a4 h4
           split at e5
           . rename_i a5 t5 h5
             exact⟨_,vs,a2,t2,a3,t3,a4,a5,t5,X _ _ el,rfl,rfl,eb,eg,h2,h3,h4,h5,ne⟩
           . cases e5
         . cases e4
       . cases e3
     . cases e2
   . cases e1
 . cases e
noncomputable def zE (K:ae)(lP:Addr):Bool:=match PySem.W.nsIn K mainGlobals "__builtins__" with
 |some (some (.ref bm))=>!(bm==builtinsNs)&& !(bm==mainGlobals)&& !(bm==lP)&&(match K.lookup bm with
  |some ⟨.type "module",some n,.plain,_⟩=>n==builtinsNs
  |_=>false)
 |_=>false
theorem Zu{K:ae}{lP:Addr}{h0 h:Heap}{mg:bj}(X0:K.In h0)(G:h0.Ns mainGlobals mg)(e:zE K lP=true)(X:K.In h):h.BuiltinsAt mg lP:=by
 unfold zE at e;split at e
 . rename_i bm eb
   simp only[aU]at e;obtain⟨⟨⟨e1,e2⟩,e3⟩,e4⟩:=e;split at e4
   . rename_i n sl el
     cases fW e4;exact⟨bm,_,mD X0 G eb,by simpa using e1,by simpa using e2,by simpa using e3,X _ _ el,rfl,rfl,rfl⟩
   . cases e4
 . cases e
noncomputable def C8 (K:ae)(S:SI)(lP:Addr)(d:FD)(D:FA):Bool:=!(decide (d.N=S.ln))||(decide ((D.q:Str)++(".<locals>.":Str)++("<lambda>":Str)=S.lq)&&xC K D.c lP)
noncomputable def rR (K:ae)(S:SI)(C:Nat->Addr)(lP:Addr)(d:FD)(D:FA):Bool:=C8 K S lP d D&&Bt D.s&&PySem.W.codeIn K (.ref D.c) D.q&&PySem.W.keepIn K (.ref D.g)&&AN d.N d.ps (fz D.s)&&decide (d.name=(D.n:Str))&&
 (match d.kind with
  |0=>nv D.g (PySem.W.nsIn K mainGlobals d.name)
  |1=>p6 K (C d.cls)&&nv D.g (PySem.W.findIn K (.ref (C d.cls)) d.name)&&PySem.W.isFn K (.ref D.g)
  |2=>PySem.W.makesIn K (C d.cls)&&nv D.g (PySem.W.findIn K (.ref (C d.cls)) "__init__")&&PySem.W.isFn K (.ref D.g)&&PySem.W.keepIn K (.ref (C d.cls))
  |_=>false)
theorem W9{K:ae}{h:Heap}{mg:bj}{S:SI}{C:Nat->Addr}{lP:Addr}{d:FD}{D:FA}(X:K.In h)(G:h.Ns mainGlobals mg)(b:rR K S C lP d D=true)(l:K.lookup D.g=some D.fn)(m:mt S true d.N (fz D.s) d.body (.b (pA D.s))=true)
 (hb:∀us:aq,us.length=d.ps.length->bindArgs (fdOf D) ⟨us,[]⟩=pure (d.ps.zip us)):jq K mg S C lP d D.g (fdOf D):=by
 unfold rR at b;simp only[aU,iB]at b;obtain⟨⟨⟨⟨⟨⟨b0,b1⟩,b2⟩,b3⟩,b4⟩,b5⟩,b6⟩:=b;obtain⟨s1,s2⟩:=S7 b4;have lm:d.N=S.ln->(D.q:Str)++(".<locals>.":Str)++("<lambda>":Str)=S.lq/\∃cc,(fdOf D).code= .ref cc/\∀h:Heap,K.In h->PySem.W.CodeHd h cc lP:=λz=>by
  unfold C8 at b0;rw[z]at b0;simp only[decide_true,Bool.not_true,Bool.false_or,aU,iB]at b0;exact⟨b0.1,D.c,rfl,λh X=>Gf b0.2 X⟩
 refine⟨⟨D.q,D.s,lm,b5 ▸ Xc b1 l b2 b3,s1,s2,m⟩,.all hb,λk=>?_,λk=>?_,λk=>?_⟩
 . rw[k]at b6;exact mD X G (uA b6)
 . rw[k]at b6
   simp only[aU]at b6;exact⟨AV b6.1.1,⟨uA b6.1.2,b6.2,b3⟩⟩
 . rw[k]at b6
   simp only[aU]at b6;exact⟨b6.1.1.1,uA b6.1.1.2,b6.1.2,b6.2⟩
theorem rh{α:Type}{f:α->Bool}{l:List α}(h:l.all f=true){x:α}(hx:x∈l):f x=true:=fG.mp h x hx
theorem AM{α β:Type}{f g:α->β}:∀{l:List α},l.map f=l.map g->∀{x:α},x∈l->f x=g x
 |y::l,h,x,hx=>by
  rw[cj,cj]at h;injection h with h1 h2
  rcases cx.mp hx with rfl|hx
  . exact h1
  . exact AM h2 hx
theorem lookup_mem{β:Type}{x:Str}{y:β}:∀{l:List (Str×β)},l.lookup x=some y->(x,y)∈l
 |(k,z)::l,h=>by
  unfold List.lookup at h;split at h
  . rename_i e
    cases h;rw[fW e];exact .head _
  . exact .tail _ (lookup_mem h)
noncomputable def qF (l:List (Str×Addr)):bH:=l.map λp=>(.inr p.1,.ref p.2)
noncomputable def Cf (l:List (Str×Addr)):List (Key×V):=l.map λp=>(.inr p.1,.ref p.2)
theorem Dc:∀l:List (Str×Addr),KV (Cf l) ((l.map λp=>(p.1,Value.ref p.2)).map λp=>((Sum.inr p.1:Key),p.2))
 | []=>.nil
 |(x,a)::r=>.cons ⟨rfl,rfl⟩ (Dc r)
theorem HZ{K:ae}{H:Hp}:∀l:List (Str×Addr),aF K H (qF l) (Cf l)
 | []=>rfl
 |p::r=>⟨V.ref p.2,Cf r,rfl,by simp only[Rep],HZ r⟩
theorem GL{P:Program}{w:World}{K:ae}{mg:bj}{x:Str}{a:Addr}{es:Array DictEntry}{ep:Nat}{l:List (Str×Addr)}
 (hm:mg x=some (.ref a)) (lk:K.lookup a=some ⟨.type "dict",none,.dict es ep,#[]⟩) (ha:(a==sysModules)=false) (hr:uY w es.toList (l.map λp=>(p.1,Value.ref p.2))) (hn:(l.map Prod.fst).Nodup):KTab P w K mg x (qF l):=
 HF hm lk ha hr (by rw[cE];exact hn) ⟨rfl,rfl,rfl⟩ (Dc l) λH=>HZ l
theorem ZC{P:Program}{w:World}{K:ae}{h:Heap}{mg:bj}{p:iD}(X:K.In h)(G:h.Ns mainGlobals mg)
 (bl:(p.S.bl.all λx=>rQ (PySem.W.nsIn K mainGlobals x))=true) (gi:(p.S.gi.all λx=>yz x.2 (PySem.W.nsIn K mainGlobals x.1))=true) (gt:(p.S.gt.all λx=>yA K x.2 (PySem.W.nsIn K mainGlobals x.1))=true)
 (cl:(p.S.cl.zipIdx.all λx=>p6 K (p.C x.2)&&nv (p.C x.2) (PySem.W.nsIn K mainGlobals x.1))=true) (fs:(p.S.fs.all λx=>p6 K (p.C x.1)&&rQ (PySem.W.findIn K (.ref (p.C x.1)) x.2))=true)
 (tb:∀x∈p.S.tb,KTab P w K mg x (p.tb x)) (tt:∀x l,p.S.tt.lookup x=some l->Bf P w K mg x l) (fn:∀d∈p.S.fd,∃g fd,jq K mg p.S p.C p.lP d g fd) (lm:∀(i:Nat) d,p.S.fd[i]? =some d->d.N=p.S.ln->mainGlobals≠p.lP/\∀h:Heap,K.In h->h.BuiltinsAt mg p.lP)
 (cv:∀q∈p.cv,∃d,p.S.fd[q.2]? =some d/\d.kind=0/\nv q.1 (PySem.W.nsIn K mainGlobals d.name)=true):Hd P w K mg p where
 bl:=λx hx=>PySem.W.mg_none_of X G (HK (rh bl hx))
 gi:=λx i hx=>by
  obtain⟨t,e⟩:=Vx (rh gi (lookup_mem hx));exact⟨t,mD X G e⟩
 gt:=λx l hx=>VI X G (rh gt (lookup_mem hx))
 tb:=tb
 tt:=tt
 cl:=λi c hi=>by
  have:=rh cl (x:=(c,i)) (List.mk_mem_zipIdx_iff_getElem?.mpr hi);rw[aU]at this;exact⟨AV this.1,mD X G (uA this.2)⟩
 fs:=λc f hx=>by
  have:=rh fs hx;rw[aU]at this;exact⟨AV this.1,HK this.2⟩
 fns:=λi d hi=>fn d (jG hi)
 lm:=lm
 cv:=λq hq=>by
  obtain⟨d,a,b,c⟩:=cv q hq;exact⟨d,a,b,mD X G (uA c)⟩
noncomputable def ip (K:ae)(S:SI)(C:Nat->Addr)(lP:Addr)(n:Nat)(l:List (FD×FA)):Bool:=l.all λx=>rR K S C lP x.1 x.2&&decide (x.1.ps.length=n)&&mt S true x.1.N (fz x.2.s) x.1.body (.b (pA x.2.s))
def CO:Nat->(aq->Prop)->Prop
 |0,p=>p []
 |n+1,p=>∀v,CO n λl=>p (v::l)
theorem hZ:∀{n:Nat} {p:aq->Prop},CO n p->∀us,us.length=n->p us
 |0,_,h,[],_=>h
 |_+1,_,h,v::us,e=>hZ (h v) us (Nat.succ.inj e)
abbrev uT(l:List (FD×FA))(n:Nat):Prop:=∀us:aq,us.length=n->l.map (λx=>bindArgs (fdOf x.2) ⟨us,[]⟩)=l.map λx=>pure (x.1.ps.zip us)
abbrev gZ(K:ae)(l:List (FD×FA)):Prop:=l.map (λx=>K.lookup x.2.g)=l.map λx=>some x.2.fn
noncomputable def fD (d:HD.DF):FA:=⟨d.n,d.q,d.s,d.a+6,d.a+5,d.pm⟩
theorem iF{K:ae}{h:Heap}{mg:bj}{S:SI}{C:Nat->Addr}{lP:Addr}{n:Nat}{l:List (FD×FA)}(X:K.In h)(G:h.Ns mainGlobals mg)(b:ip K S C lP n l=true)(k:gZ K l)(u:uT l n):∀x∈l,jq K mg S C lP x.1 x.2.g (fdOf x.2):=λx hx=>by
 have:=rh b hx;simp only[aU,iB]at this;exact W9 X G this.1.1 (AM k hx) this.2 λus hu=>AM (u us (hu.trans this.1.2)) hx
theorem Xd{K:ae}{mg:bj}{S:SI}{C:Nat->Addr}{lP:Addr}{l:List (FD×FA)}(e:S.fd=l.map (·.1))(h:∀x∈l,jq K mg S C lP x.1 x.2.g (fdOf x.2)):∀d∈S.fd,∃g fd,jq K mg S C lP d g fd:=λd hd=>by
 rw[e]at hd;obtain⟨x,hx,rfl⟩:=aW.mp hd;exact⟨_,_,h x hx⟩
theorem i6{α:Type}{P:α->Prop}{a b:List α}(h1:∀x∈a,P x)(h2:∀x∈b,P x):∀x∈a++b,P x:=λx hx=>(dM.mp hx).elim (h1 x) (h2 x)
open PySem.W
noncomputable def rD (P:Addr)(pos:Pos)(q:Str):RM:=λb=>if b=P then some (.tb P pos q)else none
theorem GB{P:Addr}{pos:Pos}{q:Str}:rD P pos q P=some (.tb P pos q):=ar rfl
theorem S4{P b:Addr}{pos:Pos}{q:Str}(h:b≠P):rD P pos q b=none:=ag h
theorem RY{PR:Program}{w:World}{K:Frag}{mg mb:bj}{k:Nat}{fa a T c:Addr}{pos:Pos}{q:Str}{fd:FuncData}{x:Str}{sp:bO}{s₁:Shared}{vs:aq}{ns:List Int}
 (KX:K.In s₁.heap) (hT:K.lookup T=none) (gT:s₁.heap.get? T=some (tabObj #[])) (C:CodeHd s₁.heap c T) (hns:s₁.heap.Ns mainGlobals mg) (hb:s₁.heap.Ns builtinsNs mb) (hbb:∀x:Str,x≠"__name__"->mb x=bootBuiltins x) (hlim:s₁.heap.NoLimit) (hg:s₁.gens= #[])
 (ha:s₁.heap.get? a=some { cls:=.type "list",data:=.seq vs.toArray }) (hi:IntsAre vs ns) (hl:ns.length<=sizeLine) (hr:aH k callerA)
 (F:∀base:Heap,K.In base->base.Ns mainGlobals mg->c6 PR w K mg base eS k fa fd [x] (fm K sp)) (hbind:∀(s:Shared) (u:Value),BindsTo s fd ⟨[u],[]⟩ [(x,u)])
 (hsp:sp [.ls (ns.map RV.int)] (rD T pos q) λv M'=>v= .bl true/\M' T=some (.tb T pos q)):
 codeAny (model PR w) callerA (.call (.ref fa) ⟨[.ref a],[]⟩) (λr s'=>r= .ok (.ret (.bool true))/\OldK s₁.heap s'.heap/\s'.os=s₁.os/\AllBare s'.gens) s₁:=by
 have rv:=L2.dv hi;have lenV:=hi.length;have aT:a≠T:=λz=>by rw[z,gT]at ha;cases ha
 have core:∀H:Hp,H T=some (.ext (fC T pos none))->Fz K H a (ns.map V.int)->cz PR w H s₁.heap->(∀b,H b≠none->b=T∨b=a/\∃o u,H a=some (.aV o u))->(H a≠none->K.lookup a=none)->
  codeAny (model PR w) callerA (.call (.ref fa) ⟨[.ref a],[]⟩) (λr s'=>r= .ok (.ret (.bool true))/\OldK s₁.heap s'.heap/\s'.os=s₁.os/\AllBare s'.gens) s₁:=by
  intro H hHT hS au hA hK;have nd:∀{b:Addr} {o:Obj} {es:Array DictEntry} {ep:Nat},s₁.heap.get? b=some o->o.data= .dict es ep->H b=none:=λ{b o es ep} e d=>by
   cases z:H b with
   |none=>rfl
   |some u=>
    rcases hA b (by rw[z];simp)with y|⟨y,_⟩
    . rw[y,gT]at e;cases e;cases d
    . rw[y,ha]at e;cases e
      have d':Data.seq vs.toArray _=Data.dict es ep:=d;cases d'
  have nsK:∀{b:Addr} {m:bj},s₁.heap.Ns b m->(ik s₁.heap H).Ns b m:=λ{b m} ⟨o,es,ep,e,d,r⟩=>⟨o,es,ep,Ao e (nd e d),d,r⟩
  have hKb:K.In (ik s₁.heap H):=λb o e=>Ao (KX b o e) (by
   cases z:H b with
   |none=>rfl
   |some u=>
    rcases hA b (by rw[z];simp)with y|⟨y,_⟩
    . rw[y,hT]at e;cases e
    . rw[y,hK (by rw[<-y,z];simp)]at e;cases e)
  have hM:Mod K mg (ik s₁.heap H):=⟨hKb,nsK hns,⟨mb,nsK hb,hbb⟩,let⟨mc,h1,h2⟩:=hlim;⟨mc,nsK h1,h2⟩⟩;have e0:fJ PR w K mg (ik s₁.heap H) callerA [] s₁ H:=⟨rfl,hM,λb o e=>Hh e,Nat.le_of_eq (FL _ _),trivial,λb hb=>bp (show b∈([]:List Addr)from hb) (by simp),au,.of_eq hg⟩
  have up:fm K sp [.ref a] H (λv H'=>v= .bl true/\∃o,H' T=some (.ext (fC T pos o))) λ_ _ _=>False:=by
   refine⟨[.ls (ns.map RV.int)],rD T pos q,λv M'=>v= .bl true/\M' T=some (.tb T pos q),aa.cons (by simp only[Rep];exact⟨a,_,rfl,hS,FV ns⟩) aa.nil,λb o e=>?_,hsp,λrv M' v H' z _ w' r=>?_⟩
   . by_cases hb:b=T
     . subst hb;rw[GB]at e;cases e;exact⟨_,hHT,.inl rfl⟩
     . rw[S4 hb]at e;cases e
   . obtain⟨rfl,z⟩:=z
     obtain⟨ho,e1,e2⟩:=w' T _ z;simp only[Rep]at r;rcases e2 with rfl|⟨c',_,_,_,rfl,_⟩
     . exact⟨r,none,e1⟩
     . exact⟨r,some c',e1⟩
  refine codeAny_mono ((F _ hKb (nsK hns)).run callerA [] s₁ H ⟨[.ref a],[]⟩ [.ref a] [.ref a] _ _ hr e0 (hbind s₁ (.ref a)) (.cons rfl .nil) up) λr s' h=>?_
  cases r with
  |error e=>exact False.elim h
  |ok fl=>
   cases fl with
   |next=>exact False.elim h
   |brk=>exact False.elim h
   |cont=>exact False.elim h
   |ret u=>
    obtain⟨v,H',os,bare,un,hok',r',q',o,hT'⟩:=h;subst q';obtain rfl:u=Value.bool true:=r';have gT':fC T pos o s'.heap:=(hok' T _ hT').1;refine⟨rfl,⟨λb ob e=>?_,λb ob e=>un.there b ob e (by simp)⟩,os,bare⟩
    cases z:H b with
    |none=>exact .inl (un.keep b ob e z (by intro z;exact bp (show b∈([]:List Addr)from z) (by simp)) (by simp))
    |some u=>
     rcases hA b (by rw[z];simp)with rfl|⟨rfl,ob',u',z'⟩
     . rw[gT]at e;cases e
       refine .inr (.inl ⟨(C.tab gT).isCodeTable,rfl,#[],match o with|none=>#[]|some c=>#[rawInt pos.line,rawInt pos.col,.ref c],rfl,?_⟩)
       cases o<;>exact gT'
     . have z2:=un.aI b ob' u' z'
       have e1:=(au b _ z').1;rw[e]at e1;cases e1;exact .inl (hok' b _ z2).1
 cases hk:K.lookup a with
 |some o=>
  have e:=KX a o hk;rw[ha]at e;cases e;refine core (λb=>if b=T then some (.ext (fC T pos none))else none) (ar rfl) (.inr ⟨_,vs.toArray,_,hk,rfl,rfl,rfl,by rw[c7,lenV];exact hl,by simpa using rv⟩) (λb u z=>?_) (λb z=>?_) λz=>bp (ag aT) z
  . by_cases hb:b=T
    . subst hb;have z':=(ar rfl).symm.trans z;cases z';exact AG gT
    . have z':=(ag hb).symm.trans z;cases z'
  . by_cases hb:b=T
    . exact .inl hb
    . exact bp (ag hb) z
 |none=>
  refine core (λb=>if b=T then some (.ext (fC T pos none))else if b=a then some (.aV { cls:=.type "list",data:=.seq vs.toArray } (.lst (ns.map V.int)))else none) (ar rfl) (.inl ⟨_,(ag aT).trans (ar rfl)⟩) (λb u z=>?_) (λb z=>?_) λ_=>hk
  . by_cases hb:b=T
    . subst hb;have z':=(ar rfl).symm.trans z;cases z';exact AG gT
    . by_cases hb2:b=a
      . have z':=((ag hb).trans (ar hb2)).symm.trans z
        cases z';subst hb2;exact⟨ha,by rw[bw];exact hl,vs,_,rv,ha⟩
      . have z':=((ag hb).trans (ag hb2)).symm.trans z;cases z'
  . by_cases hb:b=T
    . exact .inl hb
    . by_cases hb2:b=a
      . exact .inr ⟨hb2,_,_,(ag aT).trans (ar rfl)⟩
      . exact bp ((ag hb).trans (ag hb2)) z
theorem jn{l:OpenLaw}{n k:Nat}{q:Program}{loose:az}{XP:(bj)->Heap->Prop}{YP:World->Heap->Prop}{d:DefRec}{K:Params->Frag}{sp:bO}{x:Str}{T c:Addr}{pos:Pos}{lq:Str}
 (hn:l.most=some n) (hn2:n<=sizeLine) (hdf:d.params.defaults= []) (hr:aH k callerA)
 (hY:∀(w:World) (h:Heap),YP w h->(K w.params).In h/\h.get? T=some (tabObj #[])) (hT:∀p,(K p).lookup T=none) (hC:∀(p:Params) (h:Heap),(K p).In h->CodeHd h c T)
 (F:∀(w:World) (mg:bj) (fa:Addr) (h:Heap),(K w.params).In h->h.Ns mainGlobals mg->mg d.name=some (.ref fa)->
  ∃fd:FuncData,(∀(s:Shared) (u:Value),BindsTo s fd ⟨[u],[]⟩ [(x,u)])/\
   ∀base:Heap,(K w.params).In base->base.Ns mainGlobals mg->c6 l.prog w (K w.params) mg base eS k fa fd [x] (fm (K w.params) sp))
 (hsp:∀ns:List Int,ns.length<=n->sp [.ls (ns.map RV.int)] (rD T pos lq) λv M'=>v= .bl true/\M' T=some (.tb T pos lq)):
 WalkO q loose XP YP l.row.toRowW d [] (λf vs=>PySem.call f vs):=by
 refine Att.dw hn hdf λw s₀ s₁ mg mb fa o pm cd doc a vs ns G Y ho hd hcd hmg hobj hints hlen hg=>?_
 obtain⟨KX,gT⟩:=hY w _ Y;obtain⟨fd,hb,hF⟩:=F w mg fa _ KX G.T.g hmg;exact RY KX (hT _) gT (hC _ _ KX) G.T.g G.T.b G.T.builtins G.T.nolimit hg hobj hints (bG hlen hn2) hr hF hb (hsp ns hlen)
end R
namespace H19
open PySem PySem.W PyProof.Rows HD
variable(P:Params)
noncomputable abbrev p:=PySem.Challenge.pw_lentgate_k19_whole_as_with_an_address_ea
noncomputable abbrev body:=behindTheImports p
noncomputable abbrev top (i:Nat):Stmt:=XR p i
noncomputable def env:Env:={ scope:=p.main.scope,locals:=mainNs,globals:=mainNs,cells:=[],code:=.ref 13,frame:=some 14 }
noncomputable def cd:Code:=.body body env
noncomputable def ann:cI:=some (.ref 6)
noncomputable def q0:Pos:=⟨0,0,0,0⟩
noncomputable def B:List Frame:=[topFrame q0]
noncomputable abbrev wf (w:World) (b:Bool):World:=w.withFollow "special-get-raises" b
noncomputable section
noncomputable abbrev CL:Value:=.str "__main__" 164
noncomputable abbrev lG:Value:=.str "lentgate.views" 194
noncomputable abbrev eM:Value:=.str "lentgate.ends" 330
noncomputable abbrev qI:Value:=.str "lentgate.forms" 611
noncomputable abbrev qJ:Value:=.str "lentgate.lines" 701
noncomputable abbrev i3:Value:=.str "lentgate.rules" 847
noncomputable abbrev gz:Value:=.str "lentgate.pool" 930
noncomputable abbrev dR:Value:=.str "lentgate.talks" 1030
noncomputable abbrev cq:Value:=.str "lentgate.gate" 1237
noncomputable abbrev gA:Value:=.str "law_lentgate_k19_whole_as_with_an_address_ea" 1562
noncomputable def cO (n q:Str)(a:Nat)(L k f:Int)(r:Nat)(b:Bool)(z:Value):Obj:=Cs [.str n a,.str q (a+1),.str "/claim/cut.py" (a+2),.int L 0,.int k 0,.int 0 0,.int 0 0,.int f 0,.ref r,.bool b,.int 181 0,.ref (r+1),.none,.none,.none,z,.int ((a+3:Nat):Int) 0,.int L 0,.str "/claim/cut.py" (a+4)]
noncomputable def cC (n:Str)(a:Nat)(L:Int)(r:Nat):Obj:=cO n n a L 0 0 r false .none
noncomputable def cF (n q:Str)(a:Nat)(L k:Int)(r:Nat):Obj:=cO n q a L k 3 r true (.ref (r+2))
noncomputable def lj (b:Nat)(v:Value):Obj:=⟨.type "frame",none,.plain,#[some (.ref (b+3)),some (.ref 3),some (.ref b),none,some v,none,some (.ref 0)]⟩
noncomputable def Cr (n:Str)(bs rs:aq)(k:Nat)(sb:aq)(x:cI)(a b:Nat)(w:String):Obj:=⟨.type "type",none,.cls { name:=n,bases:=bs,mro:=.ref (k+1)::rs,ns:=k,qualname:=n,hasDict:=true,slotNames:=[],subclasses:=sb,abstract:=false,collection:=none,hasDel:=false },#[x,none,some (.str n a),some (.str n b),some (.builtin w),some (.bool true)]⟩
noncomputable def sG (n:Str)(k a:Nat):Obj:=Cr n [.type "object"] [.type "object"] k [] none a (a+8) "object.__new__"
noncomputable def nX (n:Str)(b:Value)(rs:aq)(k:Nat)(sb:aq)(x a:Nat):Obj:=Cr n [b] (rs++ [.type "ValueError",.type "Exception",.type "BaseException",.type "object"]) k sb (some (.ref x)) a (a+8) "ValueError.__new__"
noncomputable def gD (t r:Nat):Obj:=⟨.type "getset_descriptor",none,.fields #[.str "__dict__" t,.ref r,.builtin "function.__dict__",.builtin "function.__dict__#set"],#[]⟩
noncomputable def gW (t r:Nat):Obj:=⟨.type "getset_descriptor",none,.fields #[.str "__weakref__" t,.ref r,.builtin "ExceptionGroup.__weakref__",.none],#[]⟩
noncomputable def sU (r:Nat):Obj:=⟨.type "super",none,.fields #[.ref r,.ref r,.ref r],#[]⟩
noncomputable def iS (r:Nat):Obj:=⟨.type "builtin_function_or_method",none,.fields #[.builtin "object.__init_subclass__",.ref r],#[]⟩
noncomputable def CJ (c:Int)(l:List (Int×Nat)):aq:=l.flatMap λx=>[.int x.1 0,.int c 0,.ref x.2]
noncomputable def sS (l:List (Int×Nat)):Obj:=⟨.none,none,.fields (CJ 4 l).toArray,#[]⟩
noncomputable def rE (l:List (String×Nat×Nat)):List DictEntry:=l.map λx=>e1 P x.1 x.2.1 (.ref x.2.2)
noncomputable def nB (v:Value)(n:Str)(t:Nat)(L:Int)(l:List (String×Nat×Nat))(a b:Nat):Obj:=dz ([e1 P "__module__" t v,e1 P "__qualname__" (t+2) (.str n (t+1)),e1 P "__firstlineno__" (t+4) (.int L (t+3))]++rE P l++ [e1 P "__static_attributes__" a (.ref b)]) (l.length+4)
noncomputable def nA (v:Value)(t:Nat)(L:Int)(l:List (String×Nat×Nat))(a b:Nat)(es:List DictEntry)(k:Nat):Obj:=dz ([e1 P "__module__" t v,e1 P "__firstlineno__" (t+4) (.int L (t+3))]++rE P l++ [e1 P "__static_attributes__" a (.ref b)]++es) k
noncomputable def nF (v:Value)(t:Nat)(L:Int)(l:List (String×Nat×Nat))(a b:Nat):Obj:=nA P v t L l a b [e1 P "__dict__" (a+2) (.ref (b+3)),e1 P "__weakref__" (a+4) (.ref (b+4)),e1 P "__doc__" (a+5) .none] 4
noncomputable def ns:List DictEntry:=[e1 P "__name__" 165 gA,e1 P "__doc__" 166 (.none),e1 P "__package__" 167 (.none),e1 P "__loader__" 168 (.builtin "__main__.__loader__#opaque"),e1 P "__spec__" 169 (.none),e1 P "__annotations__" 170 (.ref 6),e1 P "__builtins__" 171 (.ref 4),e1 P "__file__" 173 (.str "/claim/cut.py" 172),e1 P "__cached__" 174 (.none),e1 P "_wall" 193 (.ref 21),e1 P "letter_got" 207 (.ref 28),e1 P "got_by_out" 228 (.ref 35),e1 P "got_by_come" 246 (.ref 42),e1 P "got_by_lost" 263 (.ref 49),e1 P "GETS" 270 (.ref 50),e1 P "got" 283 (.ref 57),e1 P "is_led_out" 291 (.ref 64),e1 P "went" 309 (.ref 71),e1 P "plain_rows" 329 (.ref 78),e1 P "GREATEST_HOUSE" 333 (.int 99 332),e1 P "GREATEST_DOOR" 335 (.int 9999 334),e1 P "GREATEST_PLACE" 337 (.int 1000000 336),e1 P "GREATEST_TICKS" 339 (.int 1000000 338),e1 P "GREATEST_RULE" 341 (.int 1000000 340),e1 P "MOST_SIGNS" 343 (.int 40 342),e1 P "FIRST_SIGN" 345 (.int 32 344),e1 P "LAST_SIGN" 347 (.int 126 346),e1 P "PERCENT_SIGN" 349 (.int 37 348),e1 P "KINDS" 352 (.ref 79),e1 P "NOTE_WORDS" 354 (.ref 80),e1 P "LINE_WORDS" 359 (.ref 81),e1 P "is_whole" 366 (.ref 88),e1 P "is_whole_within" 375 (.ref 95),e1 P "is_house" 382 (.ref 102),e1 P "is_door" 389 (.ref 109),e1 P "is_place" 396 (.ref 116),e1 P "is_outer_place" 403 (.ref 123),e1 P "is_ticks" 410 (.ref 130),e1 P "is_kind" 417 (.ref 137),e1 P "is_word" 425 (.ref 144),e1 P "is_sign" 433 (.ref 151),e1 P "is_text" 439 (.ref 156),e1 P "is_letter" 448 (.ref 163),e1 P "is_out" 462 (.ref 170),e1 P "is_come" 475 (.ref 177),e1 P "is_lost" 487 (.ref 184),e1 P "is_wait" 494 (.ref 191),e1 P "is_rule" 506 (.ref 198),e1 P "is_unrule" 513 (.ref 205),e1 P "DEEDS" 526 (.ref 206),e1 P "name_of" 533 (.ref 213),e1 P "is_deed" 542 (.ref 220),e1 P "GateError" 562 (.ref 230),e1 P "NoForm" 578 (.ref 243),e1 P "NoDeed" 594 (.ref 255),e1 P "NoRule" 610 (.ref 267),e1 P "LENDINGS" 616 (.ref 270),e1 P "SIEVES" 620 (.ref 271),e1 P "PICKS" 623 (.ref 272),e1 P "WIDEST_STEP" 625 (.int 199 624),e1 P "GREATEST_MOST" 627 (.int 200 626),e1 P "GREATEST_TIME" 629 (.int 1000000 628),e1 P "TIME_AT" 648 (.ref 273),e1 P "is_pool" 656 (.ref 280),e1 P "is_times" 662 (.ref 285),e1 P "is_form" 677 (.ref 292),e1 P "holder_of" 691 (.ref 299),e1 P "time_of" 700 (.ref 306),e1 P "LINE_STEPS" 813 (.ref 307),e1 P "BREAKABLE" 819 (.ref 322),e1 P "note_state" 827 (.ref 329),e1 P "line_state" 836 (.ref 336),e1 P "next_state" 846 (.ref 343),e1 P "Rules" 929 (.ref 395),e1 P "Pool" 1029 (.ref 468),e1 P "Talk" 1066 (.ref 489),e1 P "Talks" 1236 (.ref 609),e1 P "Gate" 1561 (.ref 819),e1 P "_law_cell" 1571 (.ref 830),e1 P "_law_well" 1579 (.ref 837),e1 P "_law_take" 1590 (.ref 844),e1 P "_law_wide" 1602 (.ref 851),e1 P "_law_bag_at" 1611 (.ref 858),e1 P "_law_a_form" 1621 (.ref 865),e1 P "_law_later" 1627 (.ref 870),e1 P "_law_answers" 1638 (.ref 877),e1 P "_law_gone_on" 1650 (.ref 884),e1 P "_law_a_world" 1656 (.ref 889),e1 P "_law_plain_got" 1662 (.ref 894),e1 P "_law_round" 1685 (.ref 901),e1 P "law" 1691 (.ref 906)]
noncomputable def tb:aq:=CJ 0 [(1,20),(5,27),(7,34),(13,41),(19,48),(26,56),(35,63),(37,70),(44,77),(67,87),(69,94),(71,101),(73,108),(75,115),(77,122),(79,129),(81,136),(83,143),(87,150),(90,155),(94,162),(96,169),(101,176),(106,183),(111,190),(113,197),(120,204),(123,212),(127,219),(134,226),(136,239),(138,251),(140,263),(150,279),(152,284),(157,291),(166,298),(174,305),(180,328),(184,335),(188,342),(193,349),(221,405),(265,478),(272,499),(355,619),(526,829),(530,836),(534,843),(544,850),(549,857),(555,864),(560,869),(563,876),(569,883),(576,888),(580,893),(582,900),(596,905)]
noncomputable abbrev zH:=df "_wall" "_wall" (top 0) 15 187 1 1 ["k"] CL
noncomputable abbrev vQ:=df "letter_got" "letter_got" (top 2) 22 196 5 6 ["kind","door","place","far","word","text"] lG
noncomputable abbrev vR:=df "got_by_out" "got_by_out" (top 3) 29 208 7 2 ["deed","answer","name","kind","writer","own_door","place","far","word","text","turned","number","led_in","house","door"] lG
noncomputable abbrev vS:=df "got_by_come" "got_by_come" (top 4) 36 229 13 2 ["deed","answer","name","kind","place","far","number","word","text","led_in","house","door"] lG
noncomputable abbrev zI:=df "got_by_lost" "got_by_lost" (top 5) 43 247 19 2 ["deed","answer","name","teller","kind","number","place","far","told","house","door"] lG
noncomputable abbrev vU:=df "got" "got" (top 7) 51 271 26 2 ["book","house","things","deed","answer","got_by","found"] lG
noncomputable abbrev vV:=df "is_led_out" "is_led_out" (top 8) 58 284 35 2 ["deed","answer"] lG
noncomputable abbrev vW:=df "went" "went" (top 9) 65 292 37 1 ["book","rows","deed","answer","name","kind","house","door","place","far","word","text"] lG
noncomputable abbrev vX:=df "plain_rows" "plain_rows" (top 10) 72 310 44 1 ["book","rows","deed","answer","name","kind","place","far","number","word","text","led_in","house","door"] lG
noncomputable abbrev vY:=df "is_whole" "is_whole" (top 24) 82 360 67 1 ["thing"] eM
noncomputable abbrev vZ:=df "is_whole_within" "is_whole_within" (top 25) 89 367 69 3 ["thing","least","greatest"] eM
noncomputable abbrev v9:=df "is_house" "is_house" (top 26) 96 376 71 1 ["thing"] eM
noncomputable abbrev jL:=df "is_door" "is_door" (top 27) 103 383 73 1 ["thing"] eM
noncomputable abbrev jM:=df "is_place" "is_place" (top 28) 110 390 75 1 ["thing"] eM
noncomputable abbrev jN:=df "is_outer_place" "is_outer_place" (top 29) 117 397 77 1 ["thing"] eM
noncomputable abbrev jO:=df "is_ticks" "is_ticks" (top 30) 124 404 79 1 ["thing"] eM
noncomputable abbrev jP:=df "is_kind" "is_kind" (top 31) 131 411 81 1 ["thing"] eM
noncomputable abbrev jQ:=df "is_word" "is_word" (top 32) 138 418 83 2 ["kind","thing"] eM
noncomputable abbrev jR:=df "is_sign" "is_sign" (top 33) 145 426 87 1 ["sign","at"] eM
noncomputable abbrev jS:=df "is_letter" "is_letter" (top 35) 157 440 94 3 ["kind","word","text"] eM
noncomputable abbrev jT:=df "is_out" "is_out" (top 36) 164 449 96 1 ["parts","kind","house","door","place","far","word","text"] eM
noncomputable abbrev jU:=df "is_come" "is_come" (top 37) 171 463 101 1 ["parts","kind","place","far","number","word","text"] eM
noncomputable abbrev n8:=df "is_lost" "is_lost" (top 38) 178 476 106 1 ["parts","teller","kind","number","place","far"] eM
noncomputable abbrev jV:=df "is_wait" "is_wait" (top 39) 185 488 111 1 ["parts"] eM
noncomputable abbrev n9:=df "is_rule" "is_rule" (top 40) 192 495 113 1 ["parts","kind","number","place","house","door"] eM
noncomputable abbrev oe:=df "is_unrule" "is_unrule" (top 41) 199 507 120 1 ["parts"] eM
noncomputable abbrev jW:=df "name_of" "name_of" (top 43) 207 527 123 1 ["thing"] eM
noncomputable abbrev jX:=df "is_deed" "is_deed" (top 44) 214 534 127 1 ["thing","name","has_parts"] eM
noncomputable abbrev jY:=df "is_pool" "is_pool" (top 58) 274 649 150 2 ["low","high"] qI
noncomputable abbrev jZ:=df "is_form" "is_form" (top 60) 286 663 157 1 ["thing","low","high","lending","sieve","pick","most","renew","times"] qI
noncomputable abbrev j0:=df "holder_of" "holder_of" (top 61) 293 678 166 2 ["form","inner","kind","house","door","place","far","lending"] qI
noncomputable abbrev j3:=df "time_of" "time_of" (top 62) 300 692 174 2 ["form","state","times"] qI
noncomputable abbrev j4:=df "note_state" "note_state" (top 66) 323 820 180 2 ["state","word"] qJ
noncomputable abbrev og:=df "line_state" "line_state" (top 67) 330 828 184 3 ["state","side","word"] qJ
noncomputable abbrev j5:=df "next_state" "next_state" (top 68) 337 837 188 4 ["kind","state","side","word"] qJ
noncomputable abbrev j6:=df "__init__" "Rules.__init__" (sub (top 70) 0) 351 861 195 1 ["self"] i3
noncomputable abbrev oh:=df "tell" "Rules.tell" (sub (top 70) 1) 358 868 199 6 ["self","kind","number","place","house","door","told"] i3
noncomputable abbrev oi:=df "stands" "Rules.stands" (sub (top 70) 2) 365 881 205 2 ["self","k"] i3
noncomputable abbrev oj:=df "drop" "Rules.drop" (sub (top 70) 3) 372 889 208 2 ["self","k"] i3
noncomputable abbrev om:=df "door_for" "Rules.door_for" (sub (top 70) 4) 379 897 211 4 ["self","kind","number","place","rule_kind","rule_number","rule_place","house","door","fits_place"] i3
noncomputable abbrev oo:=df "listed" "Rules.listed" (sub (top 70) 5) 386 913 218 1 ["self"] i3
noncomputable abbrev j7:=df "__init__" "Pool.__init__" (sub (top 72) 0) 407 944 223 3 ["self","low","high"] gz
noncomputable abbrev j8:=df "has" "Pool.has" (sub (top 72) 1) 414 953 230 2 ["self","number"] gz
noncomputable abbrev j9:=df "is_free" "Pool.is_free" (sub (top 72) 2) 421 961 233 3 ["self","number","moment"] gz
noncomputable abbrev ka:=df "from_mark" "Pool.from_mark" (sub (top 72) 3) 428 970 238 1 ["self"] gz
noncomputable abbrev kc:=df "picked" "Pool.picked" (sub (top 72) 4) 435 977 241 4 ["self","pick","door","moment","number"] gz
noncomputable abbrev kd:=df "take" "Pool.take" (sub (top 72) 5) 442 988 249 2 ["self","number"] gz
noncomputable abbrev ke:=df "give" "Pool.give" (sub (top 72) 6) 449 996 255 3 ["self","number","until"] gz
noncomputable abbrev kf:=df "__init__" "Talk.__init__" (sub (top 74) 0) 480 1044 267 5 ["self","inner","number","state","over"] dR
noncomputable abbrev kg:=df "__init__" "Talks.__init__" (sub (top 75) 0) 501 1079 274 2 ["self","form"] dR
noncomputable abbrev kh:=df "of_inner" "Talks.of_inner" (sub (top 75) 1) 508 1087 283 2 ["self","inner"] dR
noncomputable abbrev kj:=df "of_outer" "Talks.of_outer" (sub (top 75) 2) 515 1095 286 5 ["self","kind","number","place","far"] dR
noncomputable abbrev kl:=df "living" "Talks.living" (sub (top 75) 4) 527 1112 294 1 ["self"] dR
noncomputable abbrev oq:=df "is_living" "Talks.is_living" (sub (top 75) 5) 534 1119 297 2 ["self","talk"] dR
noncomputable abbrev km:=df "number_of" "Talks.number_of" (sub (top 75) 6) 541 1127 300 2 ["self","inner"] dR
noncomputable abbrev ot:=df "holder_at" "Talks.holder_at" (sub (top 75) 7) 548 1135 303 2 ["self","number"] dR
noncomputable abbrev ou:=df "lent_until" "Talks.lent_until" (sub (top 75) 9) 560 1149 309 2 ["self","number"] dR
noncomputable abbrev kn:=df "lend" "Talks.lend" (sub (top 75) 10) 567 1157 312 3 ["self","number","inner","holder"] dR
noncomputable abbrev kq:=df "end_lend" "Talks.end_lend" (sub (top 75) 11) 574 1167 318 3 ["self","number","moment"] dR
noncomputable abbrev kr:=df "begin" "Talks.begin" (sub (top 75) 12) 581 1176 323 4 ["self","inner","number","state","kind","house","door","place","far","talk"] dR
noncomputable abbrev ku:=df "lead" "Talks.lead" (sub (top 75) 13) 588 1192 331 3 ["self","talk","state"] dR
noncomputable abbrev ky:=df "end" "Talks.end" (sub (top 75) 14) 595 1201 338 3 ["self","talk","moment","kind","house","door","place","far","number"] dR
noncomputable abbrev kA:=df "__init__" "Gate.__init__" (sub (top 77) 0) 621 1251 357 2 ["self","form"] cq
noncomputable abbrev kC:=df "deed" "Gate.deed" (sub (top 77) 1) 628 1259 366 2 ["self","deed","answer"] cq
noncomputable abbrev kD:=df "out" "Gate.out" (sub (top 77) 2) 635 1268 373 8 ["self","kind","house","door","place","far","word","text"] cq
noncomputable abbrev oz:=df "come" "Gate.come" (sub (top 77) 3) 642 1282 376 7 ["self","kind","place","far","number","word","text"] cq
noncomputable abbrev oA:=df "lost" "Gate.lost" (sub (top 77) 4) 649 1295 379 6 ["self","teller","kind","number","place","far"] cq
noncomputable abbrev kE:=df "wait" "Gate.wait" (sub (top 77) 5) 656 1307 382 2 ["self","ticks"] cq
noncomputable abbrev oB:=df "rule" "Gate.rule" (sub (top 77) 6) 663 1315 385 6 ["self","kind","number","place","house","door"] cq
noncomputable abbrev oC:=df "unrule" "Gate.unrule" (sub (top 77) 7) 670 1327 388 2 ["self","k"] cq
noncomputable abbrev kF:=df "moment" "Gate.moment" (sub (top 77) 8) 677 1335 391 1 ["self"] cq
noncomputable abbrev oE:=df "free" "Gate.free" (sub (top 77) 9) 684 1342 394 1 ["self"] cq
noncomputable abbrev oF:=df "lends" "Gate.lends" (sub (top 77) 10) 691 1349 397 1 ["self"] cq
noncomputable abbrev oG:=df "talks" "Gate.talks" (sub (top 77) 11) 698 1356 400 1 ["self"] cq
noncomputable abbrev oH:=df "rests" "Gate.rests" (sub (top 77) 12) 705 1363 403 1 ["self"] cq
noncomputable abbrev oI:=df "rules" "Gate.rules" (sub (top 77) 13) 712 1370 406 1 ["self"] cq
noncomputable abbrev kG:=df "book" "Gate.book" (sub (top 77) 14) 719 1377 409 1 ["self"] cq
noncomputable abbrev kH:=df "answered" "Gate.answered" (sub (top 77) 15) 726 1384 412 3 ["self","name","parts","kind","place","far","number","word","text"] cq
noncomputable abbrev kI:=df "sent" "Gate.sent" (sub (top 77) 16) 733 1399 427 2 ["self","parts","kind","house","door","place","far","word","text","answer","number"] cq
noncomputable abbrev kJ:=df "lead_out" "Gate.lead_out" (sub (top 77) 17) 740 1416 435 3 ["self","inner","word","talk","state"] cq
noncomputable abbrev kK:=df "begin_out" "Gate.begin_out" (sub (top 77) 18) 747 1427 445 3 ["self","inner","state","number"] cq
noncomputable abbrev kL:=df "picked_for" "Gate.picked_for" (sub (top 77) 19) 754 1437 457 2 ["self","door","pool","now"] cq
noncomputable abbrev kM:=df "come_in" "Gate.come_in" (sub (top 77) 20) 761 1447 463 6 ["self","kind","place","far","number","word","talk"] cq
noncomputable abbrev kN:=df "lead_in" "Gate.lead_in" (sub (top 77) 21) 768 1460 471 3 ["self","talk","word","kind","house","door","place","far","state","renew"] cq
noncomputable abbrev oJ:=df "sifted" "Gate.sifted" (sub (top 77) 22) 775 1476 481 4 ["self","kind","place","number","holder"] cq
noncomputable abbrev oM:=df "lets_note_in" "Gate.lets_note_in" (sub (top 77) 23) 782 1487 489 3 ["self","place","number","sieve"] cq
noncomputable abbrev oO:=df "come_by_rule" "Gate.come_by_rule" (sub (top 77) 24) 789 1497 493 6 ["self","kind","place","far","number","word","to","house","door","state","inner"] cq
noncomputable abbrev oP:=df "told_lost" "Gate.told_lost" (sub (top 77) 25) 796 1514 507 2 ["self","parts","teller","kind","number","place","far","talk"] cq
noncomputable abbrev oQ:=df "rule_told" "Gate.rule_told" (sub (top 77) 26) 803 1528 514 2 ["self","parts","kind","number","place","house","door"] cq
noncomputable abbrev oS:=df "rule_dropped" "Gate.rule_dropped" (sub (top 77) 27) 810 1541 520 2 ["self","k"] cq
noncomputable abbrev kO:=df "_law_cell" "_law_cell" (top 79) 824 1564 526 2 ["script","k"] gA
noncomputable abbrev kQ:=df "_law_well" "_law_well" (top 80) 831 1572 530 2 ["cell","turn"] gA
noncomputable abbrev kU:=df "_law_take" "_law_take" (top 81) 838 1580 534 2 ["bag","many","found","p","n"] gA
noncomputable abbrev kW:=df "_law_wide" "_law_wide" (top 82) 845 1591 544 3 ["bag","lending","sieve","low","times","pick"] gA
noncomputable abbrev kX:=df "_law_bag_at" "_law_bag_at" (top 83) 852 1603 549 2 ["cells","k","bag"] gA
noncomputable abbrev kY:=df "_law_a_form" "_law_a_form" (top 84) 859 1612 555 1 ["bag","lending","form","rest"] gA
noncomputable abbrev kZ:=df "_law_answers" "_law_answers" (top 86) 871 1628 563 2 ["bag","letter","told","turn","text"] gA
noncomputable abbrev k7:=df "_law_gone_on" "_law_gone_on" (top 87) 878 1639 569 4 ["gate","row","till","wrong","moment","deed"] gA
noncomputable abbrev k8:=df "_law_round" "_law_round" (top 90) 895 1663 582 5 ["bag","gate","world","row","plain","doors","places","fars","house","door","place","far","text","found","there","said","road"] gA
noncomputable def v7:Obj:=tup []
def v13:Obj:=cC "<module>" 182 1 11
noncomputable def v14:Obj:=⟨.type "frame",none,.plain,#[some (.ref 13),some (.ref 3),some (.ref 3),none,some CL,none,some (.ref 0)]⟩
noncomputable def Ce:Obj:=dz [e1 P "out" 264 (.ref 35),e1 P "come" 265 (.ref 42),e1 P "lost" 266 (.ref 49)] 3
noncomputable def Dw:Obj:=tup [.str "note" 350,.str "line" 351]
noncomputable def Dv:Obj:=tup [.str "say" 353]
noncomputable def Du:Obj:=tup [.str "open" 355,.str "say" 356,.str "close" 357,.str "break" 358]
noncomputable def v8:Obj:=⟨.none,none,.fields #[],#[]⟩
noncomputable def Oo:Obj:=iR "is_text" "is_text" (top 34)
def Dt:Obj:=cF "is_text" "is_text" 434 90 1 152
noncomputable def Ds:Obj:=gR "is_text" "is_text" (top 34) eM (.ref 155)
def qg:Obj:=dz (rE P [("out",514,170),("come",515,177),("lost",516,184),("wait",517,191),("rule",518,198),("unrule",519,205)]) 6
noncomputable def Dr:Obj:=tup [.type "ValueError"]
noncomputable def fB:Obj:=⟨.type "builtin_function_or_method",none,.fields #[.builtin "type.__prepare__",.type "type"],#[]⟩
def Dq:Obj:=nB P (.str "lentgate.errors" 543) "GateError" 552 134 [] 557 228
def Dp:Obj:=cC "GateError" 547 134 224
def Lw:Obj:=lj 223 (.str "lentgate.errors" 543)
def Lu:Obj:=nA P (.str "lentgate.errors" 543) 552 134 [] 557 228 [e1 P "__weakref__" 559 (.ref 231),e1 P "__doc__" 560 (.none)] 3
def Om:Obj:=nX "GateError" (.type "ValueError") [] 229 [] 221 545
def Lr:Obj:=gW 558 230
def Lq:Obj:=sU 230
def Lp:Obj:=iS 230
def Ol:Obj:=nX "GateError" (.type "ValueError") [] 229 [.ref 243] 221 545
noncomputable def rH:Obj:=tup [.ref 230]
def Lo:Obj:=nB P (.str "lentgate.errors" 543) "NoForm" 570 136 [] 575 241
def Ln:Obj:=cC "NoForm" 565 136 237
def Lm:Obj:=lj 236 (.str "lentgate.errors" 543)
def Ll:Obj:=nA P (.str "lentgate.errors" 543) 570 136 [] 575 241 [e1 P "__doc__" 576 (.none)] 2
def Lk:Obj:=nX "NoForm" (.ref 230) [.ref 230] 242 [] 234 563
def L7:Obj:=sU 243
def L0:Obj:=iS 243
def Oj:Obj:=nX "GateError" (.type "ValueError") [] 229 [.ref 243,.ref 255] 221 545
def LZ:Obj:=nB P (.str "lentgate.errors" 543) "NoDeed" 586 138 [] 591 253
def LY:Obj:=cC "NoDeed" 581 138 249
def LX:Obj:=lj 248 (.str "lentgate.errors" 543)
def LW:Obj:=nA P (.str "lentgate.errors" 543) 586 138 [] 591 253 [e1 P "__doc__" 592 (.none)] 2
def LU:Obj:=nX "NoDeed" (.ref 230) [.ref 230] 254 [] 246 579
def LS:Obj:=sU 255
def LQ:Obj:=iS 255
def LP:Obj:=nX "GateError" (.type "ValueError") [] 229 [.ref 243,.ref 255,.ref 267] 221 545
def LO:Obj:=nB P (.str "lentgate.errors" 543) "NoRule" 602 140 [] 607 265
def LN:Obj:=cC "NoRule" 597 140 261
def LM:Obj:=lj 260 (.str "lentgate.errors" 543)
def LL:Obj:=nA P (.str "lentgate.errors" 543) 602 140 [] 607 265 [e1 P "__doc__" 608 (.none)] 2
def LK:Obj:=nX "NoRule" (.ref 230) [.ref 230] 266 [] 258 595
def LJ:Obj:=sU 267
def LI:Obj:=iS 267
noncomputable def LH:Obj:=tup [.str "door" 613,.str "place" 614,.str "talk" 615]
noncomputable def LF:Obj:=tup [.str "all" 617,.str "place" 618,.str "talk" 619]
noncomputable def LD:Obj:=tup [.str "next" 621,.str "keep" 622]
noncomputable def qh:Obj:=dz [e1 P "note" 630 (.int 0 631),e1 P "asked" 632 (.int 1 633),e1 P "called" 634 (.int 1 635),e1 P "up" 636 (.int 2 637),e1 P "near" 638 (.int 2 639),e1 P "far" 640 (.int 2 641)] 6
noncomputable def Oi:Obj:=iR "is_times" "is_times" (top 59)
def LC:Obj:=cF "is_times" "is_times" 657 152 1 281
noncomputable def LB:Obj:=gR "is_times" "is_times" (top 59) qI (.ref 284)
noncomputable def LA:Obj:=tup [.str "house" 703,.none,.str "open" 704]
noncomputable def Lz:Obj:=tup [.str "house" 706,.str "asked" 707,.str "open" 708]
noncomputable def Ly:Obj:=tup [.str "house" 710,.str "called" 711,.str "open" 712]
noncomputable def Lx:Obj:=tup [.str "house" 714,.str "up" 715,.str "say" 716]
noncomputable def My:Obj:=tup [.str "house" 718,.str "far" 719,.str "say" 720]
noncomputable def Mx:Obj:=tup [.str "house" 722,.str "up" 723,.str "close" 724]
noncomputable def Mw:Obj:=tup [.str "house" 726,.str "far" 727,.str "close" 728]
noncomputable def Mv:Obj:=tup [.str "far" 730,.none,.str "open" 731]
noncomputable def Mu:Obj:=tup [.str "far" 733,.str "called" 734,.str "open" 735]
noncomputable def Mt:Obj:=tup [.str "far" 737,.str "asked" 738,.str "open" 739]
noncomputable def Ms:Obj:=tup [.str "far" 741,.str "up" 742,.str "say" 743]
noncomputable def Mr:Obj:=tup [.str "far" 745,.str "near" 746,.str "say" 747]
noncomputable def Mq:Obj:=tup [.str "far" 749,.str "up" 750,.str "close" 751]
noncomputable def Mp:Obj:=tup [.str "far" 753,.str "near" 754,.str "close" 755]
noncomputable def Mo:Obj:=tup [.str "asked" 814,.str "called" 815,.str "up" 816,.str "near" 817,.str "far" 818]
noncomputable def Kh:List (String×Nat×Nat):=[("__init__",867,357),("tell",880,364),("stands",888,371),("drop",896,378),("door_for",912,385),("listed",919,392)]
def Mn:Obj:=nB P i3 "Rules" 856 193 Kh 922 393
def Oh:Obj:=sS [(195,356),(199,363),(205,370),(208,377),(211,384),(218,391)]
def Mm:Obj:=cC "Rules" 851 193 347
def Ml:Obj:=lj 346 i3
noncomputable def Mj:Obj:=tup [.str "many_told" 920,.str "standing" 921]
def Mi:Obj:=nF P i3 856 193 Kh 922 393
def Mh:Obj:=sG "Rules" 394 849
def Mg:Obj:=gD 923 395
def Mf:Obj:=gW 925 395
def Me:Obj:=sU 395
def Md:Obj:=iS 395
noncomputable def Kg:List (String×Nat×Nat):=[("__init__",952,413),("has",960,420),("is_free",969,427),("from_mark",976,434),("picked",987,441),("take",995,448),("give",1004,455),("resting",1010,460),("many_free",1016,465)]
def Mc:Obj:=nB P gz "Pool" 939 221 Kg 1022 466
def Og:Obj:=sS [(223,412),(230,419),(233,426),(238,433),(241,440),(249,447),(255,454),(259,459),(262,464)]
def Mb:Obj:=cC "Pool" 934 221 403
def Ma:Obj:=lj 402 gz
noncomputable def Oe:Obj:=iR "resting" "Pool.resting" (sub (top 72) 7)
def L9:Obj:=cF "resting" "Pool.resting" 1005 259 2 456
noncomputable def L8:Obj:=gR "resting" "Pool.resting" (sub (top 72) 7) gz (.ref 459)
noncomputable def Od:Obj:=iR "many_free" "Pool.many_free" (sub (top 72) 8)
def KC:Obj:=cF "many_free" "Pool.many_free" 1011 262 2 461
noncomputable def KA:Obj:=gR "many_free" "Pool.many_free" (sub (top 72) 8) gz (.ref 464)
noncomputable def Kz:Obj:=tup [.str "high" 1017,.str "low" 1018,.str "mark" 1019,.str "taken" 1020,.str "until" 1021]
def Ky:Obj:=nF P gz 939 221 Kg 1022 466
def Kx:Obj:=sG "Pool" 467 932
def Kw:Obj:=gD 1023 468
def Kv:Obj:=gW 1025 468
def Ku:Obj:=sU 468
def Kt:Obj:=iS 468
noncomputable def Kf:List (String×Nat×Nat):=[("__init__",1054,486)]
def Ks:Obj:=nB P dR "Talk" 1039 265 Kf 1059 487
def Oc:Obj:=sS [(267,485)]
def La:Obj:=cC "Talk" 1034 265 476
def K9:Obj:=lj 475 dR
noncomputable def K8:Obj:=tup [.str "inner" 1055,.str "number" 1056,.str "over" 1057,.str "state" 1058]
def K7:Obj:=nF P dR 1039 265 Kf 1059 487
def K6:Obj:=sG "Talk" 488 1032
def K5:Obj:=gD 1060 489
def K4:Obj:=gW 1062 489
def K3:Obj:=sU 489
def K2:Obj:=iS 489
noncomputable def Ke:List (String×Nat×Nat):=[("__init__",1086,507),("of_inner",1094,514),("of_outer",1105,521),("is_with",1111,526),("living",1118,533),("is_living",1126,540),("number_of",1134,547),("holder_at",1142,554),("held",1148,559),("lent_until",1156,566),("lend",1166,573),("end_lend",1175,580),("begin",1191,587),("lead",1200,594),("end",1215,601),("pass_by",1221,606)]
def K1:Obj:=nB P dR "Talks" 1074 272 Ke 1229 607
noncomputable def Ob:Obj:=sS [(274,506),(283,513),(286,520),(291,525),(294,532),(297,539),(300,546),(303,553),(306,558),(309,565),(312,572),(318,579),(323,586),(331,593),(338,600),(349,605)]
def KZ:Obj:=cC "Talks" 1069 272 497
def KY:Obj:=lj 496 dR
noncomputable def Oa:Obj:=iR "is_with" "Talks.is_with" (sub (top 75) 3)
def KW:Obj:=cF "is_with" "Talks.is_with" 1106 291 3 522
noncomputable def KU:Obj:=gR "is_with" "Talks.is_with" (sub (top 75) 3) dR (.ref 525)
noncomputable def N9:Obj:=iR "held" "Talks.held" (sub (top 75) 8)
def KS:Obj:=cF "held" "Talks.held" 1143 306 2 555
noncomputable def KR:Obj:=gR "held" "Talks.held" (sub (top 75) 8) dR (.ref 558)
noncomputable def N8:Obj:=iR "pass_by" "Talks.pass_by" (sub (top 75) 15)
def KQ:Obj:=cF "pass_by" "Talks.pass_by" 1216 349 2 602
noncomputable def KP:Obj:=gR "pass_by" "Talks.pass_by" (sub (top 75) 15) dR (.ref 605)
noncomputable def KO:Obj:=tup [.str "by_inner" 1222,.str "by_number" 1223,.str "form" 1224,.str "holders" 1225,.str "now" 1226,.str "numbers" 1227,.str "pool" 1228]
def KN:Obj:=nF P dR 1074 272 Ke 1229 607
def KL:Obj:=sG "Talks" 608 1067
def KJ:Obj:=gD 1230 609
def KI:Obj:=gW 1232 609
def KH:Obj:=sU 609
def KG:Obj:=iS 609
noncomputable def Kd:List (String×Nat×Nat):=[("__init__",1258,627),("deed",1267,634),("out",1281,641),("come",1294,648),("lost",1306,655),("wait",1314,662),("rule",1326,669),("unrule",1334,676),("moment",1341,683),("free",1348,690),("lends",1355,697),("talks",1362,704),("rests",1369,711),("rules",1376,718),("book",1383,725),("answered",1398,732),("sent",1415,739),("lead_out",1426,746),("begin_out",1436,753),("picked_for",1446,760),("come_in",1459,767),("lead_in",1475,774),("sifted",1486,781),("lets_note_in",1496,788),("come_by_rule",1513,795),("told_lost",1527,802),("rule_told",1540,809),("rule_dropped",1548,816)]
def KD:Obj:=nB P cq "Gate" 1246 355 Kd 1554 817
noncomputable def N7:Obj:=sS [(357,626),(366,633),(373,640),(376,647),(379,654),(382,661),(385,668),(388,675),(391,682),(394,689),(397,696),(400,703),(403,710),(406,717),(409,724),(412,731),(427,738),(435,745),(445,752),(457,759),(463,766),(471,773),(481,780),(489,787),(493,794),(507,801),(514,808),(520,815)]
def Lj:Obj:=cC "Gate" 1241 355 617
def Li:Obj:=lj 616 cq
noncomputable def Lh:Obj:=tup [.str "done" 1549,.str "form" 1550,.str "strangers" 1551,.str "table" 1552,.str "wish" 1553]
def Lg:Obj:=nF P cq 1246 355 Kd 1554 817
def Lf:Obj:=sG "Gate" 818 1239
def Le:Obj:=gD 1555 819
def Ld:Obj:=gW 1557 819
def Lc:Obj:=sU 819
def Lb:Obj:=iS 819
noncomputable def Yq:Obj:=iR "_law_later" "_law_later" (top 85)
def Jz:Obj:=cF "_law_later" "_law_later" 1622 560 3 866
noncomputable def Jy:Obj:=gR "_law_later" "_law_later" (top 85) gA (.ref 869)
noncomputable def Yp:Obj:=iR "_law_a_world" "_law_a_world" (top 88)
def Jx:Obj:=cF "_law_a_world" "_law_a_world" 1651 576 1 885
noncomputable def Jw:Obj:=gR "_law_a_world" "_law_a_world" (top 88) gA (.ref 888)
noncomputable def Yo:Obj:=iR "_law_plain_got" "_law_plain_got" (top 89)
def Jv:Obj:=cF "_law_plain_got" "_law_plain_got" 1657 580 2 890
noncomputable def Ju:Obj:=gR "_law_plain_got" "_law_plain_got" (top 89) gA (.ref 893)
noncomputable def Yn:Obj:=iR "law" "law" (top 91)
def Jt:Obj:=cF "law" "law" 1686 596 1 902
noncomputable def Js:Obj:=gR "law" "law" (top 91) gA (.ref 905)
noncomputable def fin (P:Params)(D:Obj):List Obj:=[boot_o_0 P,boot_o_1 P,boot_o_2 P,dz ((ns P).take 91) 91,boot_o_4 P,boot_o_5 P,boot_o_6 P,boot_o_7 P,boot_o_8 P,boot_o_9 P,boot_o_10 P,v7,bN (tb.take 177),v13,v14]++(zH.objs++(vQ.objs++(vR.objs++(vS.objs++(zI.objs++([Ce P]++(vU.objs++(vV.objs++(vW.objs++(vX.objs++([Dw,Dv,Du]++(vY.objs++(vZ.objs++(v9.objs++(jL.objs++(jM.objs++(jN.objs++(jO.objs++(jP.objs++(jQ.objs++(jR.objs++([v7,v8,Oo,Dt,Ds]++(jS.objs++(jT.objs++(jU.objs++(n8.objs++(jV.objs++(n9.objs++(oe.objs++([qg P]++(jW.objs++(jX.objs++([Dr,fB,Dq P,v7,v8,Dp,Lw,v7,Lu P,LP,Lr,Lq,Lp,rH,fB,Lo P,v7,v8,Ln,Lm,v7,Ll P,Lk,L7,L0,rH,fB,LZ P,v7,v8,LY,LX,v7,LW P,LU,LS,LQ,rH,fB,LO P,v7,v8,LN,LM,v7,LL P,LK,LJ,LI,LH,LF,LD,qh P]++(jY.objs++([v7,v8,Oi,LC,LB]++(jZ.objs++(j0.objs++(j3.objs++([D,LA,Lz,Ly,Lx,My,Mx,Mw,Mv,Mu,Mt,Ms,Mr,Mq,Mp,Mo]++(j4.objs++(og.objs++(j5.objs++([v7,fB,Mn P,v7,Oh,Mm,Ml]++(j6.objs++(oh.objs++(oi.objs++(oj.objs++(om.objs++(oo.objs++([Mj,Mi P,Mh,Mg,Mf,Me,Md,v7,fB,Mc P,v7,Og,Mb,Ma]++(j7.objs++(j8.objs++(j9.objs++(ka.objs++(kc.objs++(kd.objs++(ke.objs++([v7,v8,Oe,L9,L8,v7,v8,Od,KC,KA,Kz,Ky P,Kx,Kw,Kv,Ku,Kt,v7,fB,Ks P,v7,Oc,La,K9]++(kf.objs++([K8,K7 P,K6,K5,K4,K3,K2,v7,fB,K1 P,v7,Ob,KZ,KY]++(kg.objs++(kh.objs++(kj.objs++([v7,v8,Oa,KW,KU]++(kl.objs++(oq.objs++(km.objs++(ot.objs++([v7,v8,N9,KS,KR]++(ou.objs++(kn.objs++(kq.objs++(kr.objs++(ku.objs++(ky.objs++([v7,v8,N8,KQ,KP,KO,KN P,KL,KJ,KI,KH,KG,v7,fB,KD P,v7,N7,Lj,Li]++(kA.objs++(kC.objs++(kD.objs++(oz.objs++(oA.objs++(kE.objs++(oB.objs++(oC.objs++(kF.objs++(oE.objs++(oF.objs++(oG.objs++(oH.objs++(oI.objs++(kG.objs++(kH.objs++(kI.objs++(kJ.objs++(kK.objs++(kL.objs++(kM.objs++(kN.objs++(oJ.objs++(oM.objs++(oO.objs++(oP.objs++(oQ.objs++(oS.objs++([Lh,Lg P,Lf,Le,Ld,Lc,Lb]++(kO.objs++(kQ.objs++(kU.objs++(kW.objs++(kX.objs++(kY.objs++([v7,v8,Yq,Jz,Jy]++(kZ.objs++(k7.objs++([v7,v8,Yp,Jx,Jw,v7,v8,Yo,Jv,Ju]++(k8.objs++([v7,v8,Yn,Jt,Js])))))))))))))))))))))))))))))))))))))))))))))))))))))))))))))))))))))))))))))))))))))))))))))))))))))))))))))))))))))
def jz:List Obj:=fin P default
def sv(P:Params)(os:OsState):SharedT:=⟨treeOf ((((jz P).take 15).set 3 (boot_o_3 P)).set 12 (bN (tb.take 0))),15,{},#[],{},187,os⟩
theorem Wl(w:World)(os:OsState):topGo treeTable p w 11 ann 12 ⟨boot_heap w.2,#[],boot_drawn,boot_toks,os⟩ (topStub p)=some ((sv w.2 os).abs,⟨denote treeTable cd,cd,q0,B⟩):=by kernel_rfl
theorem T3(w:World)(os:OsState):segRun treeTable p w 11 ann 1 1 (sv w.2 os).abs (blockOf body env cd q0 B)=some (.next,(sv w.2 os).abs,cd,q0):=by kernel_rfl
noncomputable def zw (P:Params)(os:OsState):SharedT:=⟨treeOf ((((jz P).take 79).set 3 (dz ((e1 P "__name__" 165 lG)::((ns P).drop 1).take 18) 19)).set 12 (bN (tb.take 27))),79,{},#[],{},330,os⟩
theorem YY(w:World)(os:OsState)(b:Bool):segRunT treeTable p (wf w b) 11 ann 1 400 (sv w.2 os) (piecesOf ((body.drop 0).take 11) env cd q0 B)=some (.next,zw w.2 os,cd,⟨44,0,53,15⟩):=by
 rw[PySem.W.Fast.te10110043849684766642,PySem.W.Fast.te14364793385576792824];cases b<;>kernel_rfl
theorem OD(w:World)(os:OsState):segRunT treeTable p w 11 ann 1 400 (sv w.2 os) (piecesOf ((body.drop 0).take 11) env cd q0 B)=some (.next,zw w.2 os,cd,⟨44,0,53,15⟩):=by
 have h:=YY w os (w.2.followText "special-get-raises");unfold wf at h;rw[World.withFollow_self]at h;exact h
noncomputable def zx (P:Params)(os:OsState):SharedT:=⟨treeOf ((((jz P).take 145).set 3 (dz ((e1 P "__name__" 165 eM)::((ns P).drop 1).take 39) 40)).set 12 (bN (tb.take 54))),145,{},#[],{},426,os⟩
theorem OC(w:World)(os:OsState):segRunT treeTable p w 11 ann 1 392 (zw w.2 os) (piecesOf ((body.drop 11).take 22) env cd ⟨44,0,53,15⟩ B)=some (.next,zx w.2 os,cd,⟨83,0,86,30⟩):=by
 walk_at "w9"
noncomputable def zy (P:Params)(os:OsState):SharedT:=⟨treeOf ((((jz P).take 207).set 3 (dz ((e1 P "__name__" 165 eM)::((ns P).drop 1).take 49) 50)).set 12 (bN (tb.take 81))),207,{},#[],{},527,os⟩
theorem XI(w:World)(os:OsState)(b:Bool):segRunT treeTable p (wf w b) 11 ann 1 391 (zx w.2 os) (piecesOf ((body.drop 33).take 10) env cd ⟨83,0,86,30⟩ B)=some (.next,zy w.2 os,cd,⟨122,0,122,5⟩):=by
 rw[PySem.W.Fast.te10110043849684766642,PySem.W.Fast.te14364793385576792824];cases b<;>kernel_rfl
theorem OB(w:World)(os:OsState):segRunT treeTable p w 11 ann 1 391 (zx w.2 os) (piecesOf ((body.drop 33).take 10) env cd ⟨83,0,86,30⟩ B)=some (.next,zy w.2 os,cd,⟨122,0,122,5⟩):=by
 have h:=XI w os (w.2.followText "special-get-raises");unfold wf at h;rw[World.withFollow_self]at h;exact h
noncomputable def Co (P:Params)(os:OsState):SharedT:=⟨treeOf (((((jz P).take 234).set 3 (dz ((e1 P "__name__" 165 (.str "lentgate.errors" 543))::((ns P).drop 1).take 52) 53)).set 12 (bN (tb.take 90))).set 230 (Om)),234,{},#[],{},563,os⟩
theorem OA(w:World)(os:OsState):segRunT treeTable p w 11 ann 1 256 (zy w.2 os) (piecesOf ((body.drop 43).take 4) env cd ⟨122,0,122,5⟩ B)=some (.next,Co w.2 os,cd,⟨134,0,135,8⟩):=by
 walk_at "w9"
noncomputable def Cp (P:Params)(os:OsState):SharedT:=⟨treeOf (((((jz P).take 246).set 3 (dz ((e1 P "__name__" 165 (.str "lentgate.errors" 543))::((ns P).drop 1).take 53) 54)).set 12 (bN (tb.take 93))).set 230 (Ol)),246,{},#[],{},579,os⟩
theorem Oz(w:World)(os:OsState):segRunT treeTable p w 11 ann 1 214 (Co w.2 os) (piecesOf ((body.drop 47).take 1) env cd ⟨134,0,135,8⟩ B)=some (.next,Cp w.2 os,cd,⟨136,0,137,8⟩):=by
 walk_at "w9"
noncomputable def zA (P:Params)(os:OsState):SharedT:=⟨treeOf (((((jz P).take 258).set 3 (dz ((e1 P "__name__" 165 (.str "lentgate.errors" 543))::((ns P).drop 1).take 54) 55)).set 12 (bN (tb.take 96))).set 230 (Oj)),258,{},#[],{},595,os⟩
theorem Oy(w:World)(os:OsState):segRunT treeTable p w 11 ann 1 214 (Cp w.2 os) (piecesOf ((body.drop 48).take 1) env cd ⟨136,0,137,8⟩ B)=some (.next,zA w.2 os,cd,⟨138,0,139,8⟩):=by
 walk_at "w9"
noncomputable def zB (P:Params)(os:OsState):SharedT:=⟨treeOf ((((jz P).take 274).set 3 (dz ((e1 P "__name__" 165 qI)::((ns P).drop 1).take 62) 63)).set 12 (bN (tb.take 99))),274,{},#[],{},649,os⟩
theorem XH(w:World)(os:OsState)(b:Bool):segRunT treeTable p (wf w b) 11 ann 1 388 (zA w.2 os) (piecesOf ((body.drop 49).take 9) env cd ⟨138,0,139,8⟩ B)=some (.next,zB w.2 os,cd,⟨149,0,149,7⟩):=by
 rw[PySem.W.Fast.te10110043849684766642,PySem.W.Fast.te14364793385576792824];cases b<;>kernel_rfl
theorem Ox(w:World)(os:OsState):segRunT treeTable p w 11 ann 1 388 (zA w.2 os) (piecesOf ((body.drop 49).take 9) env cd ⟨138,0,139,8⟩ B)=some (.next,zB w.2 os,cd,⟨149,0,149,7⟩):=by
 have h:=XH w os (w.2.followText "special-get-raises");unfold wf at h;rw[World.withFollow_self]at h;exact h
noncomputable def zC (P:Params)(os:OsState):SharedT:=⟨treeOf ((((jz P).take 307).set 3 (dz ((e1 P "__name__" 165 qJ)::((ns P).drop 1).take 67) 68)).set 12 (bN (tb.take 114))),307,{},#[],{},703,os⟩
theorem Ow(w:World)(os:OsState):segRunT treeTable p w 11 ann 1 170 (zB w.2 os) (piecesOf ((body.drop 58).take 6) env cd ⟨149,0,149,7⟩ B)=some (.next,zC w.2 os,cd,⟨177,0,177,8⟩):=by
 walk_at "w9"
noncomputable def ob (P:Params)(i:Nat):Obj:=(((((jz P).take 307).set 3 (dz ((e1 P "__name__" 165 qJ)::((ns P).drop 1).take 67) 68)).set 12 (bN (tb.take 114))):List Obj).getD i default
noncomputable def Dd (es:Array DictEntry)(n:Nat):Obj:=⟨.type "dict",none,.dict es n,#[]⟩
noncomputable def S (o:Nat->Obj)(os:OsState)(D:Obj)(tk:Nat):SharedT:=⟨((((((((((((((((treeOf ((List.range 307).map o)).ins 307 D).ins 308 (tup [.str "house" 703,.none,.str "open" 704])).ins 309 (tup [.str "house" 706,.str "asked" 707,.str "open" 708])).ins 310 (tup [.str "house" 710,.str "called" 711,.str "open" 712])).ins 311 (tup [.str "house" 714,.str "up" 715,.str "say" 716])).ins 312 (tup [.str "house" 718,.str "far" 719,.str "say" 720])).ins 313 (tup [.str "house" 722,.str "up" 723,.str "close" 724])).ins 314 (tup [.str "house" 726,.str "far" 727,.str "close" 728])).ins 315 (tup [.str "far" 730,.none,.str "open" 731])).ins 316 (tup [.str "far" 733,.str "called" 734,.str "open" 735])).ins 317 (tup [.str "far" 737,.str "asked" 738,.str "open" 739])).ins 318 (tup [.str "far" 741,.str "up" 742,.str "say" 743])).ins 319 (tup [.str "far" 745,.str "near" 746,.str "say" 747])).ins 320 (tup [.str "far" 749,.str "up" 750,.str "close" 751])).ins 321 (tup [.str "far" 753,.str "near" 754,.str "close" 755])),322,{},#[],{},tk,os⟩
noncomputable def S0 (o:Nat->Obj)(os:OsState)(tk:Nat):SharedT:=⟨treeOf ((List.range 307).map o),307,{},#[],{},tk,os⟩
noncomputable def Cm (o:Nat->Obj)(os:OsState)(tk:Nat):SharedT:=⟨(treeOf ((List.range 307).map o)).ins 307 (Dd #[] 0),308,{},#[],{},tk,os⟩
theorem XG(P:Params)(os:OsState):zC P os=S0 (ob P) os 703:=by kernel_rfl
noncomputable def hs (P:Params)(x:Str):Int:=if x.cps.isEmpty then 0 else reduceHash (P.strHash x.cps)
noncomputable def kt:List (List (Option Str)):=[[some "house",none,some "open"],[some "house",some "asked",some "open"],[some "house",some "called",some "open"],[some "house",some "up",some "say"],[some "house",some "far",some "say"],[some "house",some "up",some "close"],[some "house",some "far",some "close"],[some "far",none,some "open"],[some "far",some "called",some "open"],[some "far",some "asked",some "open"],[some "far",some "up",some "say"],[some "far",some "near",some "say"],[some "far",some "up",some "close"],[some "far",some "near",some "close"]]
noncomputable def vt:aq:=[.str "asked" 705,.str "asked" 709,.str "up" 713,.str "up" 717,.str "far" 721,.str "near" 725,.str "shut" 729,.str "called" 732,.str "called" 736,.str "up" 740,.str "up" 744,.str "near" 748,.str "far" 752,.str "shut" 756]
noncomputable def hx (P:Params):Option Str->Int
 |some x=>hs P x
 |none=>hashW P .none
def hi(k:Nat)(P:Params):Int:=Builtin.Tuple.tupleHashOf ((kt.getD k []).map (hx P))
def en(k:Nat)(P:Params):DictEntry:=⟨reduceHash (hi k P),.ref (308+k),vt.getD k .none⟩
def De(k:Nat)(P:Params):Obj:=Dd ((List.range k).map λj=>en j P).toArray k
theorem aM{X:Nat->Prop}(h0:X 0)(h1:X 1)(h2:X 2)(h3:X 3)(h4:X 4)(h5:X 5)(h6:X 6)(h7:X 7)(h8:X 8)(h9:X 9)(h10:X 10)(h11:X 11)(h12:X 12)(h13:X 13):∀k,k<14->X k:=λk hk=>match k,hk with|0,_=>h0|1,_=>h1|2,_=>h2|3,_=>h3|4,_=>h4|5,_=>h5|6,_=>h6|7,_=>h7|8,_=>h8|9,_=>h9|10,_=>h10|11,_=>h11|12,_=>h12|13,_=>h13|n+14,h=>bp h ∅
section
variable(w:World)(b:Bool)(o:Nat->Obj)(os:OsState)(D:Obj)(tk:Nat)(ps:Pos)
abbrev RR{α:Type}(w:World)(b:Bool)(o:Nat->Obj)(os:OsState)(D:Obj)(tk:Nat)(ps:Pos)(n:Nat)(x:Sem α)(a:α):Prop:=Rn p (wf w b) 11 ann cd B n x ps (S o os D tk) a ps (S o os D tk)
local macro_rules | `(tactic| walk_at "h0") => `(tactic| (refine i9 fun K H lv => ?_; rw [mx, PySem.W.Fast.te14364793385576792824]; kernel_rfl))
theorem ru(x:String):RR w b o os D tk ps 1 (rule x) ():=by walk_at "h0"
theorem den(es:Array DictEntry)(n:Nat):Rn p (wf w b) 11 ann cd B 1 (dictEntries 307 none) ps (S o os (Dd es n) tk) es ps (S o os (Dd es n) tk):=by walk_at "h0"
theorem dep(es:Array DictEntry)(n:Nat):Rn p (wf w b) 11 ann cd B 1 (dictEpoch 307 none) ps (S o os (Dd es n) tk) n ps (S o os (Dd es n) tk):=by walk_at "h0"
local macro_rules | `(tactic| walk_at "h1") => `(tactic| (refine i9 fun K H lv => ?_; rw [mx, PySem.W.Fast.te14364793385576792824, PySem.W.Fast.te13066428366354244818]; kernel_rfl))
theorem qu:∀k,k<14->RR w b o os D tk ps 3 (eqIsQuiet 8 (.ref (308+k))) true:=by
 refine aM ?_ ?_ ?_ ?_ ?_ ?_ ?_ ?_ ?_ ?_ ?_ ?_ ?_ ?_<;>walk_at "h1"
local macro_rules | `(tactic| walk_at "h2") => `(tactic| (refine i9 fun K H lv => ?_; rw [mx, PySem.W.Fast.te14364793385576792824, PySem.W.Fast.te13383273872528276517]; kernel_rfl))
theorem ro:∀k,k<14->RR w b o os D tk ps 1 (cRoomFor "hash" [.ref (308+k)]) ():=by
 refine aM ?_ ?_ ?_ ?_ ?_ ?_ ?_ ?_ ?_ ?_ ?_ ?_ ?_ ?_<;>walk_at "h2"
local macro_rules | `(tactic| walk_at "h3") => `(tactic| (refine i9 fun K H lv => ?_; rw [mx, PySem.W.Fast.te14364793385576792824, PySem.W.Fast.te4214721358667687652]; kernel_rfl))
theorem sp:∀k,k<14->RR w b o os D tk ps 1 (specialOf (.ref (308+k)) "__hash__") (some (.builtin "tuple.__hash__")):=by
 refine aM ?_ ?_ ?_ ?_ ?_ ?_ ?_ ?_ ?_ ?_ ?_ ?_ ?_ ?_<;>walk_at "h3"
local macro_rules | `(tactic| walk_at "h4") => `(tactic| (refine i9 fun K H lv => ?_; rw [mx, PySem.W.Fast.te14364793385576792824, PySem.W.Fast.te16697807410369149715]; cases b <;> kernel_rfl))
theorem ca:∀k,k<14->∀E:Sem Value,Rn p (wf w b) 11 ann cd B 29 (callSpecialIfBoundUnlessNone? (.ref (308+k)) "__hash__" E) ps (S o os D tk) (some (.int (hi k w.2) (tk+3))) ps (S o os D (tk+4)):=
 by refine aM (λE=>Rn.more (m1:=27) (by walk_at "h4") ⋯) ?_ ?_ ?_ ?_ ?_ ?_ (λE=>Rn.more (m1:=27) (by walk_at "h4") ⋯) ?_ ?_ ?_ ?_ ?_ ?_;all_goals exact λE=>Rn.more (m1:=29) (by walk_at "h4") ⋯
local macro_rules | `(tactic| walk_at "h5") => `(tactic| (refine i9 fun K H lv => ?_; rw [mx, PySem.W.Fast.te14364793385576792824, PySem.W.Fast.te11826078720135083572]; kernel_rfl))
theorem up:∀k,k<14->Rn p (wf w b) 11 ann cd B 3 (updateDictKeys 307 (λx=>x.push (en k w.2)) none) ps (S o os (De k w.2) tk) () ps (S o os (De (k+1) w.2) tk):=by
 refine aM ?_ ?_ ?_ ?_ ?_ ?_ ?_ ?_ ?_ ?_ ?_ ?_ ?_ ?_<;>walk_at "h5"
noncomputable def pj:List (Nat×Nat):=(List.range 14).flatMap λk=>(List.range k).map λj=>(j,k)
noncomputable def cs:List (List Nat):=[[],[26],[26,20],[26,20,20],[26,20,20,20],[26,20,20,24,20],[26,20,20,20,24,20],[16,16,16,16,16,16,16],[16,16,16,16,16,16,16,26],[16,16,16,16,16,16,16,26,20],[16,16,16,16,16,16,16,26,20,20],[16,16,16,16,16,16,16,26,20,20,20],[16,16,16,16,16,16,16,26,20,20,24,20],[16,16,16,16,16,16,16,26,20,20,20,24,20]]
noncomputable def cn (x:Nat×Nat):Nat:=(cs.getD x.2 []).getD x.1 0
theorem Ng:∀x∈pj,RR w b o os D tk ps (cn x) (eqBool (.ref (308+x.1)) (.ref (308+x.2))) false:=VV λK H lv=>by
 rw[mx,PySem.W.Fast.te14364793385576792824,PySem.W.Fast.te13926502685295537346];cases b<;>kernel_rfl
theorem Nf:(pj.all λx=>Nat.ble (cn x) 26)=true:=by kernel_rfl
theorem fi(k:Nat)(hk:k<14)(h:Int):Rn p (wf w b) 11 ann cd B 797 (dictFind 307 (.ref (308+k)) h) ps (S o os (De k w.2) tk) none ps (S o os (De k w.2) tk):=
 find_none (m:=26) (L:=14) (by show((List.range k).map _).length<=14;rw[bw,zg];omega) (ru _ _ _ _ _ _ _) (den _ _ _ _ _ _ _ _) (dep _ _ _ _ _ _ _ _) ((qu w b o os _ tk ps k hk).more ⋯) λe he=>by
  obtain⟨j,hj,rfl⟩:=aW.mp (show e∈(List.range k).map λj=>en j w.2 from he)
  have hj:=jo.mp hj;have hm:(j,k)∈pj:=List.mem_flatMap.mpr ⟨k,jo.mpr hk,aW.mpr ⟨j,jo.mpr hj,rfl⟩⟩;have j1:j<14:=d8 hj hk;exact⟨⟨308+j,rfl,cS (Nat.add_lt_add_left hj _)⟩,(qu w b o os _ tk ps j j1).more ⋯,(Ng w b o os _ tk ps _ hm).more (Nat.le_of_ble_eq_true (fG.mp Nf _ hm))⟩
theorem se(k:Nat)(hk:k<14):Rn p (wf w b) 11 ann cd B 834 (dictSet 307 (.ref (308+k)) (vt.getD k .none)) ps (S o os (De k w.2) tk) () ps (S o os (De (k+1) w.2) (tk+4)):=
 (Uv (h:=reduceHash (hi k w.2)) (ru w b o os _ (tk+4) ps) (Uk (ru w b o os _ (tk+4) ps) (ro w b o os _ tk ps k hk) (sp w b o os _ tk ps k hk) (ca w b o os _ tk ps k hk)) (fi w b o os (tk+4) ps k hk _) (up w b o os (tk+4) ps k hk)).more ⋯
end
def vp(k:Nat):Value×Value:=(.ref (308+k),vt.getD k .none)
def vs:List (Value×Value):=(List.range' 0 14).map vp
def DD:Obj:=De 14 P
theorem IS(w:World)(b:Bool)(o:Nat->Obj)(os:OsState)(ps:Pos){f:Value×Value->Unit->Sem (ForInStep Unit)}(hf:∀k v,f (k,v) ()=(do dictSet 307 k v;pure (.yield ()))):∀(j k tk:Nat),k+j=14->
 Rn p (wf w b) 11 ann cd B (834*j) (forIn ((List.range' k j).map vp) () f) ps (S o os (De k w.2) tk) () ps (S o os (DD w.2) (tk+4*j))
 |0,k,tk,h=>by rw[show k=14 by omega];exact Vb
 |j+1,k,tk,h=>by
  rw[List.range'_succ,cj,show tk+4*(j+1)=(tk+4)+4*j by omega]
  exact(Va (Y4 (hf _ _) (cu (m2:=0) (se w b o os tk ps k ∅) fQ)) (IS w b o os ps hf j (k+1) (tk+4) ∅)).more ∅
theorem Uc(w:World)(b:Bool)(o:Nat->Obj)(os:OsState)(tk:Nat)(ps:Pos){f:Value×Value->Unit->Sem (ForInStep Unit)}(hf:∀k v,f (k,v) ()=(do dictSet 307 k v;pure (.yield ()))):
 Rn p (wf w b) 11 ann cd B 11676 (forIn vs () f) ps (S o os (De 0 w.2) tk) () ps (S o os (DD w.2) (tk+56)):=IS w b o os ps hf 14 0 tk rfl
noncomputable def st:Stmt:=body[64]
noncomputable def uK:List (Option PySem.Expr):=match st with| .Assign _ (.Dict ks _ _) _=>ks|_=>[]
noncomputable def uJ:List PySem.Expr:=match st with| .Assign _ (.Dict _ vs _) _=>vs|_=>[]
noncomputable def mj:Pos:=match st with| .Assign _ (.Dict _ _ q) _=>q|_=>default
noncomputable def ir:Pos:=match st with| .Assign _ _ q=>q|_=>default
noncomputable def pW:Pos:=⟨178,0,178,10⟩
theorem OM:st= .Assign [.Name "LINE_STEPS" pW] (.Dict uK uJ mj) ir:=by kernel_rfl
noncomputable def ab:List (Option (Sem Value)×Sem Value):=(evalEachOpt uK env).zip ((evalEach uJ env).map λv=>do let x<-v;standAt mj;pure x)
noncomputable def zV:List (Sem Value×Sem Value):=ab.filterMap λx=>x.1.map λk=>(k,x.2)
theorem ZY:exec st env=(do
 standAt ir
 let v<-eval (.Dict uK uJ mj) env
 standAt pW
 bindName env "LINE_STEPS" v
 pure .next):=by rw[OM];exact exec_Assign_Name env "LINE_STEPS" pW (.Dict uK uJ mj) ir (by kernel_rfl)
theorem dq:eval (.Dict uK uJ mj) env=(do standAt mj;dictDisplay ab):=by kernel_rfl
theorem dd:dictDisplay ab=((subDict zV >>= λd=>pure (some d)) >>= λo=>match o with|some d=>pure (.ref d)|none=>newDict):=by kernel_rfl
theorem Xl(w:World)(o:Nat->Obj)(os:OsState)(tk:Nat)(ps:Pos){f:Value×Value->Unit->Sem (ForInStep Unit)}(hf:∀k v,f (k,v) ()=(do dictSet 307 k v;pure (.yield ()))):
 Rn p w 11 ann cd B 11676 (forIn vs () f) ps (S o os (De 0 w.2) tk) () ps (S o os (DD w.2) (tk+56)):=by
 have h:=Uc w (w.2.followText "special-get-raises") o os tk ps hf;unfold wf at h;rw[World.withFollow_self]at h;exact h
theorem at_{w:World}{s:SharedT}{ps ps':Pos}:Rn p w 11 ann cd B 1 (standAt ps') ps s () ps' s:=i9 λK H lv=>by kernel_rfl
theorem al{w:World}{o:Nat->Obj}{os:OsState}{tk:Nat}{ps:Pos}:Rn p w 11 ann cd B 1 (alloc { cls:=.type "dict",data:=.dict #[] }) ps (S0 o os tk) 307 ps (Cm o os tk):=i9 λK H lv=>by kernel_rfl
theorem ev{w:World}{o:Nat->Obj}{os:OsState}{ps:Pos}:Rn p w 11 ann cd B 96 (evalPairs zV) ps (Cm o os 703) vs mj (S o os (De 0 w.2) 757):=i9 λK H lv=>by
 rw[mx,PySem.W.Fast.te14364793385576792824];kernel_rfl
theorem sub{w:World}{o:Nat->Obj}{os:OsState}{ps:Pos}:Rn p w 11 ann cd B 11773 (subDict zV) ps (S0 o os 703) 307 mj (S o os (DD w.2) 813):=by
 unfold subDict;refine Rn.more (m1:=1+(96+(11676+0)+0)) (cu al (cu (a:=()) (t8 ?_) fQ)) ⋯
 rw[ar (Nat.le_of_ble_eq_true (by kernel_rfl))]
 refine cu ev (t8 ?_);exact cu (Xl w o os 757 mj (λ_ _=>rfl)) fQ
noncomputable def sA (P:Params)(os:OsState)(D:Obj):SharedT:=⟨treeOf ((((fin P D).take 322).set 3 (dz ((e1 P "__name__" 165 qJ)::((ns P).drop 1).take 68) 69)).set 12 (bN (tb.take 114))),322,{},#[],{},814,os⟩
theorem bn{w:World}{os:OsState}{D:Obj}{ps:Pos}:Rn p w 11 ann cd B 6 (bindName env "LINE_STEPS" (.ref 307)) ps (S (ob w.2) os D 813) () ps (sA w.2 os D):=i9 λK H lv=>by
 rw[mx,PySem.W.Fast.te14364793385576792824];kernel_rfl
theorem Yg{w:World}{os:OsState}{ps:Pos}:Rn p w 11 ann cd B 11782 (execs [st] env) ps (S0 (ob w.2) os 703) .next pW (sA w.2 os (DD w.2)):=by
 rw[execs_cons,ZY,dq,dd];refine Rn.more (m1:=(1+((1+((11773+0)+0))+(1+(6+0))))+0) (cu (a:=.next) (cu at_ (cu (cu at_ (cu (cu sub fQ) fQ)) (cu at_ (cu bn fQ)))) ?_) ⋯
 exact fQ
theorem OW(w:World)(os:OsState):segRunT treeTable p w 11 ann 1 11783 (zC w.2 os) (piecesOf [st] env cd ⟨177,0,177,8⟩ B)=some (.next,sA w.2 os (DD w.2),cd,pW):=by
 rw[XG];obtain⟨n,hn,h⟩:=Yg (w:=w) (os:=os) (ps:=⟨177,0,177,8⟩) doneF deadEnd id;have e:=Ho (m:=1) (r:=(.next,sA w.2 os (DD w.2),cd,pW)) h rfl;have e2:=GU (11782-n) e;rw[show n+1+(11782-n)=11783 by omega]at e2
 exact e2
noncomputable def Cq (P:Params)(os:OsState)(D:Obj):SharedT:=⟨treeOf ((((fin P D).take 344).set 3 (dz ((e1 P "__name__" 165 i3)::((ns P).drop 1).take 72) 73)).set 12 (bN (tb.take 123))),344,{},#[],{},849,os⟩
theorem OV(w:World)(os:OsState)(D:Obj):segRunT treeTable p w 11 ann 1 118 (sA w.2 os D) (piecesOf ((body.drop 65).take 5) env cd pW B)=some (.next,Cq w.2 os D,cd,⟨192,0,192,8⟩):=by
 walk_at "w9"
noncomputable def D2 (P:Params)(os:OsState)(D:Obj):SharedT:=⟨treeOf ((((fin P D).take 400).set 3 (dz ((e1 P "__name__" 165 i3)::((ns P).drop 1).take 73) 74)).set 12 (bN (tb.take 126))),400,{},#[],{},930,os⟩
theorem YX(w:World)(os:OsState)(D:Obj):segRunT treeTable p w 11 ann 1 395 (Cq w.2 os D) (piecesOf ((body.drop 70).take 1) env cd ⟨192,0,192,8⟩ B)=some (.next,D2 w.2 os D,cd,⟨193,0,219,16⟩):=by
 walk_at "w9"
noncomputable def D1 (P:Params)(os:OsState)(D:Obj):SharedT:=⟨treeOf ((((fin P D).take 400).set 3 (dz ((e1 P "__name__" 165 gz)::((ns P).drop 1).take 73) 74)).set 12 (bN (tb.take 126))),400,{},#[],{},932,os⟩
theorem YW(w:World)(os:OsState)(D:Obj):segRunT treeTable p w 11 ann 1 10 (D2 w.2 os D) (piecesOf ((body.drop 71).take 1) env cd ⟨193,0,219,16⟩ B)=some (.next,D1 w.2 os D,cd,⟨220,0,220,8⟩):=by
 walk_at "w9"
noncomputable def DZ (P:Params)(os:OsState)(D:Obj):SharedT:=⟨treeOf ((((fin P D).take 473).set 3 (dz ((e1 P "__name__" 165 gz)::((ns P).drop 1).take 74) 75)).set 12 (bN (tb.take 129))),473,{},#[],{},1030,os⟩
theorem YV(w:World)(os:OsState)(D:Obj):segRunT treeTable p w 11 ann 1 480 (D1 w.2 os D) (piecesOf ((body.drop 72).take 1) env cd ⟨220,0,220,8⟩ B)=some (.next,DZ w.2 os D,cd,⟨221,0,263,105⟩):=by
 walk_at "w9"
noncomputable def DY (P:Params)(os:OsState)(D:Obj):SharedT:=⟨treeOf ((((fin P D).take 494).set 3 (dz ((e1 P "__name__" 165 dR)::((ns P).drop 1).take 75) 76)).set 12 (bN (tb.take 132))),494,{},#[],{},1067,os⟩
theorem YU(w:World)(os:OsState)(D:Obj):segRunT treeTable p w 11 ann 1 238 (DZ w.2 os D) (piecesOf ((body.drop 73).take 2) env cd ⟨221,0,263,105⟩ B)=some (.next,DY w.2 os D,cd,⟨265,0,271,24⟩):=by
 walk_at "w9"
noncomputable def ER (P:Params)(os:OsState)(D:Obj):SharedT:=⟨treeOf ((((fin P D).take 614).set 3 (dz ((e1 P "__name__" 165 dR)::((ns P).drop 1).take 76) 77)).set 12 (bN (tb.take 135))),614,{},#[],{},1237,os⟩
theorem XQ(w:World)(os:OsState)(D:Obj):segRunT treeTable p w 11 ann 1 718 (DY w.2 os D) (piecesOf ((body.drop 75).take 1) env cd ⟨265,0,271,24⟩ B)=some (.next,ER w.2 os D,cd,⟨272,0,353,37⟩):=by
 walk_at "w9"
noncomputable def EO (P:Params)(os:OsState)(D:Obj):SharedT:=⟨treeOf ((((fin P D).take 614).set 3 (dz ((e1 P "__name__" 165 cq)::((ns P).drop 1).take 76) 77)).set 12 (bN (tb.take 135))),614,{},#[],{},1239,os⟩
theorem XO(w:World)(os:OsState)(D:Obj):segRunT treeTable p w 11 ann 1 10 (ER w.2 os D) (piecesOf ((body.drop 76).take 1) env cd ⟨272,0,353,37⟩ B)=some (.next,EO w.2 os D,cd,⟨354,0,354,8⟩):=by
 walk_at "w9"
noncomputable def EN (P:Params)(os:OsState)(D:Obj):SharedT:=⟨treeOf ((((fin P D).take 824).set 3 (dz ((e1 P "__name__" 165 cq)::((ns P).drop 1).take 77) 78)).set 12 (bN (tb.take 138))),824,{},#[],{},1562,os⟩
theorem XN(w:World)(os:OsState)(D:Obj):segRunT treeTable p w 11 ann 1 1165 (EO w.2 os D) (piecesOf ((body.drop 77).take 1) env cd ⟨354,0,354,8⟩ B)=some (.next,EN w.2 os D,cd,⟨355,0,524,19⟩):=by
 walk_at "w9"
noncomputable def EM (P:Params)(os:OsState)(D:Obj):SharedT:=⟨treeOf ((((fin P D).take 902).set 3 (dz ((ns P).take 90) 90)).set 12 (bN (tb.take 174))),902,{},#[],{},1686,os⟩
theorem XM(w:World)(os:OsState)(D:Obj):segRunT treeTable p w 11 ann 1 390 (EN w.2 os D) (piecesOf ((body.drop 78).take 13) env cd ⟨355,0,524,19⟩ B)=some (.next,EM w.2 os D,cd,⟨582,0,595,54⟩):=by
 walk_at "w9"
def EL(P:Params)(os:OsState)(D:Obj):SharedT:=⟨treeOf ((fin P D).take 907),907,{},#[],{},1692,os⟩
theorem XJ(w:World)(os:OsState)(D:Obj):segRunT treeTable p w 11 ann 1 27 (EM w.2 os D) (piecesOf ((body.drop 91).take 1) env cd ⟨582,0,595,54⟩ B)=some (.next,EL w.2 os D,cd,⟨596,0,621,36⟩):=by
 walk_at "w9"
def TF:BT:=(EL P default (DD P)).tree
def H1:Heap:=absHeap (TF P) 907 {}
theorem Vu:body=((body.drop 0).take 11)++(((body.drop 11).take 22)++(((body.drop 33).take 10)++(((body.drop 43).take 4)++(((body.drop 47).take 1)++(((body.drop 48).take 1)++(((body.drop 49).take 9)++(((body.drop 58).take 6)++([st]++(((body.drop 65).take 5)++(((body.drop 70).take 1)++(((body.drop 71).take 1)++(((body.drop 72).take 1)++(((body.drop 73).take 2)++(((body.drop 75).take 1)++(((body.drop 76).take 1)++(((body.drop 77).take 1)++(((body.drop 78).take 13)++(((body.drop 91).take 1)++ [])))))))))))))))))):=by kernel_rfl
theorem run_eq(w:World)(os:OsState):topRun treeTable p w 11 ann (12+(1+(400+(392+(391+(256+(214+(214+(388+(170+(11783+(118+(395+(10+(480+(238+(718+(10+(1165+(390+(27+2))))))))))))))))))))) ⟨boot_heap w.2,#[],boot_drawn,boot_toks,os⟩ (topStub p)=some ⟨H1 w.2,#[],{},1692,os⟩:=by
 refine go_top (Wl w os) (piece_block (T3 w os) ?_);show topRun treeTable p w 11 ann _ _ (restOf body env cd q0 B)=_;rw[Vu];refine piece_app (segRun_of (OD w os)) ?_;refine piece_app (segRun_of (OC w os)) ?_;refine piece_app (segRun_of (OB w os)) ?_;refine piece_app (segRun_of (OA w os)) ?_;refine piece_app (segRun_of (Oz w os)) ?_;refine piece_app (segRun_of (Oy w os)) ?_;refine piece_app (segRun_of (Ox w os)) ?_;refine piece_app (segRun_of (Ow w os)) ?_;refine piece_app (segRun_of (OW w os)) ?_;refine piece_app (segRun_of (OV w os _)) ?_;refine piece_app (segRun_of (YX w os _)) ?_;refine piece_app (segRun_of (YW w os _)) ?_;refine piece_app (segRun_of (YV w os _)) ?_;refine piece_app (segRun_of (YU w os _)) ?_;refine piece_app (segRun_of (XQ w os _)) ?_;refine piece_app (segRun_of (XO w os _)) ?_;refine piece_app (segRun_of (XN w os _)) ?_;refine piece_app (segRun_of (XM w os _)) ?_;refine piece_app (segRun_of (XJ w os _)) ?_;kernel_rfl
noncomputable def q:Program:=view p [0,2,3,4,5,6,7,8,9,10,12,13,14,15,16,17,18,19,20,21,22,23,24,25,26,27,28,29,30,31,32,33,34,35,36,37,38,39,40,41,42,43,44,46,47,48,49,51,52,53,54,55,56,57,58,59,60,61,62,64,65,66,67,68,70,72,74,75,77,79,80,81,82,83,84,85,86,87,88,89,90,91]
noncomputable def loose:az:=["GETS","DEEDS","TIME_AT","LINE_STEPS"]
noncomputable def CI:List Addr:=[2,3,4,6,20,21,27,28,34,35,41,42,48,49,50,56,57,63,64,70,71,77,78,79,80,81,87,88,94,95,101,102,108,109,115,116,122,123,129,130,136,137,143,144,150,151,152,155,156,162,163,169,170,176,177,183,184,190,191,197,198,204,205,206,212,213,219,220,221,222,223,224,226,227,228,229,230,231,232,233,234,235,236,237,239,240,241,242,243,244,245,246,247,248,249,251,252,253,254,255,256,257,258,259,260,261,263,264,265,266,267,268,269,270,271,272,273,279,280,281,284,285,291,292,298,299,305,306,307,308,309,310,311,312,313,314,315,316,317,318,319,320,321,322,328,329,335,336,342,343,344,345,346,347,349,350,356,357,363,364,370,371,377,378,384,385,391,392,393,394,395,396,397,398,399,400,401,402,403,405,406,412,413,419,420,426,427,433,434,440,441,447,448,454,455,456,459,460,461,464,465,466,467,468,469,470,471,472,473,474,475,476,478,479,485,486,487,488,489,490,491,492,493,494,495,496,497,499,500,506,507,513,514,520,521,522,525,526,532,533,539,540,546,547,553,554,555,558,559,565,566,572,573,579,580,586,587,593,594,600,601,602,605,606,607,608,609,610,611,612,613,614,615,616,617,619,620,626,627,633,634,640,641,647,648,654,655,661,662,668,669,675,676,682,683,689,690,696,697,703,704,710,711,717,718,724,725,731,732,738,739,745,746,752,753,759,760,766,767,773,774,780,781,787,788,794,795,801,802,808,809,815,816,817,818,819,820,821,822,823,829,830,836,837,843,844,850,851,857,858,864,865,866,869,870,876,877,883,884,885,888,889,890,893,894,900,901,902,905,906]
noncomputable def ks:List Addr:=CI++ [603]
noncomputable def K0:Frag:=CI.zip (boot_o_2 P::dz ((ns P).take 91) 91::boot_o_4 P::boot_o_6 P::zH.co::zH.fn::vQ.co::vQ.fn::vR.co::vR.fn::vS.co::vS.fn::zI.co::zI.fn::Ce P::vU.co::vU.fn::vV.co::vV.fn::vW.co::vW.fn::vX.co::vX.fn::Dw::Dv::Du::vY.co::vY.fn::vZ.co::vZ.fn::v9.co::v9.fn::jL.co::jL.fn::jM.co::jM.fn::jN.co::jN.fn::jO.co::jO.fn::jP.co::jP.fn::jQ.co::jQ.fn::jR.co::jR.fn::v7::Dt::Ds::jS.co::jS.fn::jT.co::jT.fn::jU.co::jU.fn::n8.co::n8.fn::jV.co::jV.fn::n9.co::n9.fn::oe.co::oe.fn::qg P::jW.co::jW.fn::jX.co::jX.fn::Dr::fB::Dq P::v7::Dp::Lw::v7::Lu P::LP::Lr::Lq::Lp::rH::fB::Lo P::v7::Ln::Lm::v7::Ll P::Lk::L7::L0::rH::fB::LZ P::v7::LY::LX::v7::LW P::LU::LS::LQ::rH::fB::LO P::v7::LN::LM::v7::LL P::LK::LJ::LI::LH::LF::LD::qh P::jY.co::jY.fn::v7::LC::LB::jZ.co::jZ.fn::j0.co::j0.fn::j3.co::j3.fn::DD P::LA::Lz::Ly::Lx::My::Mx::Mw::Mv::Mu::Mt::Ms::Mr::Mq::Mp::Mo::j4.co::j4.fn::og.co::og.fn::j5.co::j5.fn::v7::fB::Mn P::v7::Mm::Ml::j6.co::j6.fn::oh.co::oh.fn::oi.co::oi.fn::oj.co::oj.fn::om.co::om.fn::oo.co::oo.fn::Mj::Mi P::Mh::Mg::Mf::Me::Md::v7::fB::Mc P::v7::Mb::Ma::j7.co::j7.fn::j8.co::j8.fn::j9.co::j9.fn::ka.co::ka.fn::kc.co::kc.fn::kd.co::kd.fn::ke.co::ke.fn::v7::L9::L8::v7::KC::KA::Kz::Ky P::Kx::Kw::Kv::Ku::Kt::v7::fB::Ks P::v7::La::K9::kf.co::kf.fn::K8::K7 P::K6::K5::K4::K3::K2::v7::fB::K1 P::v7::KZ::KY::kg.co::kg.fn::kh.co::kh.fn::kj.co::kj.fn::v7::KW::KU::kl.co::kl.fn::oq.co::oq.fn::km.co::km.fn::ot.co::ot.fn::v7::KS::KR::ou.co::ou.fn::kn.co::kn.fn::kq.co::kq.fn::kr.co::kr.fn::ku.co::ku.fn::ky.co::ky.fn::v7::KQ::KP::KO::KN P::KL::KJ::KI::KH::KG::v7::fB::KD P::v7::Lj::Li::kA.co::kA.fn::kC.co::kC.fn::kD.co::kD.fn::oz.co::oz.fn::oA.co::oA.fn::kE.co::kE.fn::oB.co::oB.fn::oC.co::oC.fn::kF.co::kF.fn::oE.co::oE.fn::oF.co::oF.fn::oG.co::oG.fn::oH.co::oH.fn::oI.co::oI.fn::kG.co::kG.fn::kH.co::kH.fn::kI.co::kI.fn::kJ.co::kJ.fn::kK.co::kK.fn::kL.co::kL.fn::kM.co::kM.fn::kN.co::kN.fn::oJ.co::oJ.fn::oM.co::oM.fn::oO.co::oO.fn::oP.co::oP.fn::oQ.co::oQ.fn::oS.co::oS.fn::Lh::Lg P::Lf::Le::Ld::Lc::Lb::kO.co::kO.fn::kQ.co::kQ.fn::kU.co::kU.fn::kW.co::kW.fn::kX.co::kX.fn::kY.co::kY.fn::v7::Jz::Jy::kZ.co::kZ.fn::k7.co::k7.fn::v7::Jx::Jw::v7::Jv::Ju::k8.co::k8.fn::v7::Jt::Js::[])
def K:Frag:=K0 P++ [(603,v8)]
theorem gw(P:Params):ks=(K P).map (·.1):=by kernel_rfl
def Hk:Hook:=kHook K ks gw
def Xt(s:Shared):Bool:=xlAt q [] s&&recOk [] s
noncomputable def NN:Nat:=1000000
theorem size_eq(w:World):((boot_heap w.2).isNs mainGlobals&&(#[]:Array GenState).size==0,(boot_heap w.2).objs.size,(boot_heap w.2).nsMap mainGlobals "__annotations__")=(true,11,ann):=by kernel_rfl
theorem NT:opening p=plainProg p.main.scope.names:=by kernel_rfl
theorem NU(s:Shared):fenceModules? p s=some s:=by kernel_rfl
theorem Zx(w:World)(os:OsState):(staticsOk (importedModules p.main.body) (boot_heap w.2) (H1 w.2)&&namesBound p (H1 w.2)&&gensDone ⟨H1 w.2,#[],{},1692,os⟩&&laidKept (boot_heap w.2) (H1 w.2))=true:=by kernel_rfl
theorem Nu(w:World)(os:OsState):PyProof.Rows.seen (List.map (λx=>x.name) (recsOf q)) (ownsOf q) [] ⟨H1 w.2,#[],{},1692,os⟩=expectedOf q:=by rw[PySem.W.Fast.te5160383126252970620];kernel_rfl
theorem Nw(w:World)(os:OsState):(H1 w.2).bltView=bltViewBooted:=by kernel_rfl
theorem Nx(w:World)(os:OsState):(H1 w.2).keysOk (looseW q loose) (List.map (λx=>x.name) (recsOf q)) (List.map (λx=>x.fst) (litsOf q)) (List.map (λx=>x.name) (clssOf q (looseW q loose)))=true:=by rw[PySem.W.Fast.te10880121769531294198];kernel_rfl
theorem Ny(w:World)(os:OsState):(H1 w.2).accountedOkI (importedModules p.main.body)=true:=by rw[PySem.W.Fast.te14722251495701143533];kernel_rfl
theorem Nz(w:World)(os:OsState):((H1 w.2).isNs mainGlobals&&(H1 w.2).isNs builtinsNs)=true:=by kernel_rfl
theorem NA(w:World)(os:OsState):tablesOk q (H1 w.2)=true:=by rw[PySem.W.Fast.te10994771534591457954];kernel_rfl
theorem NB(w:World)(os:OsState):Xt ⟨H1 w.2,#[],{},1692,os⟩=true:=by kernel_rfl
theorem NC(w:World)(os:OsState):tabsOk q ⟨H1 w.2,#[],{},1692,os⟩=true:=by rw[PySem.W.Fast.te479339242167458305];kernel_rfl
theorem ND(w:World)(os:OsState):pinSeenD q (drecsOf q) ⟨H1 w.2,#[],{},1692,os⟩=pinGoodD (drecsOf q):=by kernel_rfl
theorem NF(w:World)(os:OsState):plainSeenE q (looseW q loose) ⟨H1 w.2,#[],{},1692,os⟩=plainGoodE q (looseW q loose):=by rw[PySem.W.Fast.te2386780881361962483];kernel_rfl
theorem NG(w:World)(os:OsState):plainSeenD q loose ⟨H1 w.2,#[],{},1692,os⟩=plainGoodD q loose:=by rw[PySem.W.Fast.te11698064438423848299];kernel_rfl
theorem NH(w:World)(os:OsState):wideSeen q ⟨H1 w.2,#[],{},1692,os⟩=wideGood q:=by rw[PySem.W.Fast.te7317090234206586261];kernel_rfl
theorem NI(w:World)(os:OsState):clsSeenW q loose ⟨H1 w.2,#[],{},1692,os⟩=clsGoodW q loose:=by rw[PySem.W.Fast.te7369524293546568484];kernel_rfl
theorem Zw(w:World)(os:OsState):openSeen q loose (importedModules p.main.body) Xt true ⟨H1 w.2,#[],{},1692,os⟩=openGood q loose:=
 UW (Nu w os) (Nw w os) (Nx w os) (Ny w os) (Nz w os) (NA w os) (NB w os) (NC w os) (ND w os) (NF w os) (NG w os) (NH w os) (NI w os)
theorem Yy(w:World)(os:OsState):Hk.obs ⟨H1 w.2,#[],{},1692,os⟩=Hk.val w:=by kernel_rfl
theorem left:LeftO p q loose Xt Hk.obs Hk.val NN:=
 LeftO.of_pieces (H₀:=boot_heap) (H₁:=H1) (gs₀:=#[]) (gs₁:=#[]) (d₀:=boot_drawn) (d₁:={}) (k₀:=boot_toks) (k₁:=1692) (m₀:=11) (ann:=ann) (M:=12+(1+(400+(392+(391+(256+(214+(214+(388+(170+(11783+(118+(395+(10+(480+(238+(718+(10+(1165+(390+(27+2))))))))))))))))))))) (boot_open NT ⋯ NU) size_eq run_eq ⋯
  λw=>funext λos=>Prod.ext (Zx w os) (Prod.ext (Zw w os) (Yy w os))
end
end H19
namespace R
open PySem PySem.Spec PyProof.Rows L2
section
variable {Γ:G}{σ:aY}{M:RM}{Q:aj}{D:RD}{a b c d e t l h o k r it:T}{i n:Nat}{QB:Bool->RM->Prop}{QA:LR->RM->Prop}{QI:LR->(RM->Prop)->(RM->RM)->RM->Prop}{QP:Option Int->RM->Prop}
def zO(o:Option (Option RV))(Q:RV->Prop):Prop:=match o with|some (some v)=>Q v|_=>False
theorem qnq{v:RV}{Q:RV->Prop}:zO (some (some v)) Q=Q v:=rfl
theorem t_v:(tr Γ (.v i)).E σ M Q=zO σ[i]? (λv=>Q v M):=by
 show pY i σ M Q=_;unfold pY zO;rfl
theorem t_i{n:Int}:(tr Γ (.i n)).E σ M Q=Q (.int n) M:=rfl
theorem t_s{x:Str}:(tr Γ (.s x)).E σ M Q=Q (.str x) M:=rfl
theorem t_b{x:Bool}:(tr Γ (.b x)).E σ M Q=Q (.bl x) M:=rfl
theorem t_n:(tr Γ .n).E σ M Q=Q .ao M:=rfl
theorem jj{x:Str}{i:Int}(h:Γ.S.gi.lookup x=some i):(tr Γ (.g x)).E σ M Q=Q (.int i) M:=by
 show(match Γ.S.gi.lookup x with|some i=>rC (.int i)|none=>iL) σ M Q=_
 rw[h];rfl
theorem qCS{x:String}:(tr Γ (.ty x)).E σ M Q=Q (.ty x) M:=rfl
theorem qC3{o:Operator}:(tr Γ (.op o a b)).E σ M Q=(tr Γ a).E σ M λx M1=>(tr Γ b).E σ M1 λy M2=>fY o x y M2 Q:=rfl
theorem qDm{o:CmpOp}:(tr Γ (.cm o a b)).E σ M Q=(tr Γ a).E σ M λx M1=>(tr Γ b).E σ M1 λy M2=>eE o x y M2 Q:=rfl
def kB(Q:Bool->RM->Prop):aj:=λv M=>match v with| .bl k=>Q k M|_=>False
theorem rj{k:Bool}:kB QB (.bl k) M=QB k M:=rfl
noncomputable def zK (p:CmpOp)(Γ:G)(c:T)(σ:aY)(y:RV)(Q:aj):aj:=λz M3=>match z with
 | .bl k=>if k=true then(tr Γ c).E σ M3 λw M4=>eE p y w M4 Q else Q (.bl false) M3
 |_=>False
theorem pv{k:Bool}{A B:Prop}:((k=true->A)/\(k=false->B))=if k=true then A else B:=by cases k<;>simp
theorem qDn{o p:CmpOp}:(tr Γ (.ch o p a b c)).E σ M Q=(tr Γ a).E σ M λx M1=>(tr Γ b).E σ M1 λy M2=>eE o x y M2 (zK p Γ c σ y Q):=by
 show qZ _ _ _ _ _ σ M Q=_;unfold qZ zK;simp only[pv]<;>rfl
theorem qtz{p:CmpOp}{y:RV}{k:Bool}:zK p Γ c σ y Q (.bl k) M=if k=true then(tr Γ c).E σ M λw M4=>eE p y w M4 Q else Q (.bl false) M:=rfl
theorem T_v:(tr Γ (.v i)).T σ M QB=(tr Γ (.v i)).E σ M (kB QB):=rfl
theorem qFw{o:CmpOp}:(tr Γ (.cm o a b)).T σ M QB=(tr Γ (.cm o a b)).E σ M (kB QB):=rfl
theorem qFx{o p:CmpOp}:(tr Γ (.ch o p a b c)).T σ M QB=(tr Γ (.ch o p a b c)).E σ M (kB QB):=rfl
theorem qFu{c:Nat}{f:Str}:(tr Γ (.fl c f a)).T σ M QB=(tr Γ (.fl c f a)).E σ M (kB QB):=rfl
theorem qFy{f:Nat}:(tr Γ (.ca f a)).T σ M QB=(tr Γ (.ca f a)).E σ M (kB QB):=rfl
theorem qFs{f:Nat}:(tr Γ (.me f o a)).T σ M QB=(tr Γ (.me f o a)).E σ M (kB QB):=rfl
theorem qFz{f:Str}:(tr Γ (.bf f a)).T σ M QB=(tr Γ (.bf f a)).E σ M (kB QB):=rfl
theorem qFv{neg:Bool}:(tr Γ (.dn neg k d)).T σ M QB=(tr Γ (.dn neg k d)).E σ M (kB QB):=rfl
theorem qFt{neg:Bool}{x:Str}:(tr Γ (.ic neg a x)).T σ M QB=(tr Γ (.ic neg a x)).E σ M (kB QB):=rfl
theorem qFo{x:Str}:(tr Γ (.tn x a)).T σ M QB=(tr Γ (.tn x a)).E σ M (kB QB):=rfl
theorem qFp{x:Str}:(tr Γ (.ti x a)).T σ M QB=(tr Γ (.ti x a)).E σ M (kB QB):=rfl
theorem T_b{x:Bool}:(tr Γ (.b x)).T σ M QB=QB x M:=rfl
theorem qFA:(tr Γ (.an a b)).T σ M QB=(tr Γ a).T σ M λc M1=>if c=true then(tr Γ b).T σ M1 QB else QB false M1:=by
 show yt _ _ σ M QB=_;unfold yt;simp only[pv]
theorem qFq:(tr Γ (.or a b)).T σ M QB=(tr Γ a).T σ M λc M1=>if c=true then QB true M1 else(tr Γ b).T σ M1 QB:=by
 show yV _ _ σ M QB=_;unfold yV;simp only[pv]
theorem qFr:(tr Γ (.no a)).T σ M QB=(tr Γ a).T σ M λc M1=>QB (!c) M1:=rfl
def wj(N:RM->Prop)(Q:aj):aj:=λx M=>match x with| .bl c=>if c=true then N M else Q (.bl false) M|_=>False
def zL(N:RM->Prop)(Q:aj):aj:=λx M=>match x with| .bl c=>if c=true then Q (.bl true) M else N M|_=>False
theorem mV{N:RM->Prop}{c:Bool}:wj N Q (.bl c) M=if c=true then N M else Q (.bl false) M:=rfl
theorem UA{N:RM->Prop}{c:Bool}:zL N Q (.bl c) M=if c=true then Q (.bl true) M else N M:=rfl
theorem qDs:(tr Γ (.an a b)).E σ M Q=(tr Γ a).E σ M (wj (λM1=>(tr Γ b).E σ M1 Q) Q):=by
 show ya _ _ σ M Q=_;unfold ya wj;simp only[pv]<;>rfl
theorem qC2:(tr Γ (.or a b)).E σ M Q=(tr Γ a).E σ M (zL (λM1=>(tr Γ b).E σ M1 Q) Q):=by
 show yD _ _ σ M Q=_;unfold yD zL;simp only[pv]<;>rfl
def CD(Q:aj):aj:=λx M=>match x with| .bl c=>Q (.bl (!c)) M|_=>False
theorem qtx{c:Bool}:CD Q (.bl c) M=Q (.bl (!c)) M:=rfl
theorem qC4:(tr Γ (.no a)).E σ M Q=(tr Γ a).E σ M (CD Q):=rfl
theorem qDb:(tr Γ (.ie t a b)).E σ M Q=(tr Γ t).T σ M λc M1=>if c=true then(tr Γ a).E σ M1 Q else(tr Γ b).E σ M1 Q:=by
 show yU _ _ _ σ M Q=_;unfold yU;simp only[pv]
theorem qCU:(tr Γ (.tu a)).E σ M Q=(tr Γ a).A σ M λrs M1=>rs.length<=sizeLine/\Q (.tup rs) M1:=rfl
theorem qC8:(tr Γ (.ll a)).E σ M Q=(tr Γ a).A σ M λrs M1=>rs.length<=sizeLine/\Q (.ls rs) M1:=rfl
theorem qC7:(tr Γ (.lm a)).E σ M Q=(tr Γ a).A σ M λrs M1=>rs.length<=sizeLine/\∀p,M1 p=none->Q (.ref p) (put M1 p (.lst rs)):=rfl
theorem qDe:(tr Γ .e0).A σ M QA=QA [] M:=rfl
theorem qDd:(tr Γ (.ec a r)).A σ M QA=(tr Γ a).E σ M λx M1=>(tr Γ r).A σ M1 λxs M2=>QA (x::xs) M2:=rfl
theorem qDa:(tr Γ (.ix a b)).E σ M Q=(tr Γ a).E σ M λx M1=>(tr Γ b).E σ M1 λy M2=>cw x y M2 Q:=rfl
theorem qCX:(tr Γ (.sl a l h)).E σ M Q=(tr Γ a).E σ M λx M1=>(tr Γ l).P σ M1 λlo M2=>(tr Γ h).P σ M2 λu M3=>ma x lo u M3 Q:=rfl
theorem qC1:(tr Γ .p0).P σ M QP=QP none M:=rfl
def kP(Q:Option Int->RM->Prop):aj:=λx M=>match x with| .int i=>Q (some i) M|_=>False
theorem qtw{i:Int}:kP QP (.int i) M=QP (some i) M:=rfl
theorem qC0:(tr Γ (.p1 a)).P σ M QP=(tr Γ a).E σ M (kP QP):=rfl
theorem qDc{c:Nat}{f:Str}:(tr Γ (.fl c f a)).E σ M Q=(tr Γ a).E σ M (qD (Γ.C c) f Q):=rfl
theorem qDo{f:Nat}:(tr Γ (.ca f a)).E σ M Q=(tr Γ a).A σ M λrs M1=>Γ.fn f rs M1 Q:=rfl
theorem cW{f:Nat}{d:FD}(h:Γ.S.fd[f]? =some d):(tr Γ (.me f o a)).E σ M Q=(tr Γ o).E σ M (oW (Γ.C d.cls) d.name (Γ.fn f) (tr Γ a).A σ Q):=by
 show(match Γ.S.fd[f]? with|some d=>qd (Γ.C d.cls) d.name (Γ.fn f) (tr Γ o).E (tr Γ a).A|none=>iL) σ M Q=_
 rw[h];rfl
theorem va{f:Nat}{d:FD}(h:Γ.S.fd[f]? =some d):(tr Γ (.mk f a)).E σ M Q=(tr Γ a).A σ M λrs M1=>∀x,M1 x=none->Γ.lz f (.ref x::rs) (put M1 x (.ins (Γ.C d.cls) [])) λv M2=>v= .ao/\Q (.ref x) M2:=by
 show(match Γ.S.fd[f]? with|some d=>rA (Γ.C d.cls) (Γ.lz f) (tr Γ a).A|none=>iL) σ M Q=_
 rw[h];rfl
theorem qDq{f:Str}:(tr Γ (.bf f a)).E σ M Q=(tr Γ a).A σ M λrs M1=>fM f rs M1 Q:=rfl
theorem qDp{f:Str}:(tr Γ (.bt f a)).E σ M Q=(tr Γ a).A σ M λrs M1=>qy f rs M1 Q:=rfl
theorem qDi:(tr Γ (.dg d k)).E σ M Q=(tr Γ d).E σ M λx M1=>(tr Γ k).E σ M1 λy M2=>vd Q x y M2:=rfl
theorem qDg{neg:Bool}:(tr Γ (.dn neg k d)).E σ M Q=(tr Γ k).E σ M λy M1=>(tr Γ d).E σ M1 λx M2=>y7 neg Q x y M2:=rfl
theorem qDj:(tr Γ (.d1 d k)).E σ M Q=(tr Γ d).E σ M λx M1=>sM M1 x/\(tr Γ k).E σ M1 λy M2=>uI Q x y .ao M2:=rfl
theorem qDh:(tr Γ .dk).E σ M Q= ∀p,M p=none->Q (.ref p) (put M p (.dk [])):=rfl
theorem qDf:(tr Γ .dt).E σ M Q= ∀p,M p=none->Q (.ref p) (put M p (.dt [])):=rfl
theorem rK{neg:Bool}{x:Str}{ss:az}(h:Γ.S.gt.lookup x=some ss):(tr Γ (.ic neg a x)).E σ M Q=(tr Γ a).E σ M λx M1=>aA 15 x=true/\Q (.bl (if neg then !inR x (ss.map RV.str)else inR x (ss.map RV.str))) M1:=by
 show(match Γ.S.gt.lookup x with|some ss=>rM neg ss (tr Γ a).E|none=>iL) σ M Q=_
 rw[h];rfl
theorem d0:(tr Γ (.se a b)).S D σ M=(tr Γ a).S { D with nx:=(tr Γ b).S D } σ M:=rfl
theorem N5:(tr Γ .en).S D σ M=D.nx σ M:=rfl
theorem fj:(tr Γ (.set i a)).S D σ M=(tr Γ a).E σ M λx M1=>D.nx (σ.set i (some x)) M1:=rfl
theorem qDP:(tr Γ (.re a)).S D σ M=(tr Γ a).E σ M D.rt:=rfl
theorem qDS:(tr Γ (.aZ t a b)).S D σ M=(tr Γ t).T σ M λc M1=>if c=true then(tr Γ a).S D σ M1 else(tr Γ b).S D σ M1:=by
 show yq _ _ _ D σ M=_;unfold yq;simp only[pv]
theorem N4:(tr Γ (.ex a)).S D σ M=(tr Γ a).E σ M λ_ M1=>D.nx σ M1:=rfl
theorem qDO{c:Nat}{f:Str}:(tr Γ (.sf c f o a)).S D σ M=(tr Γ a).E σ M λy M1=>(tr Γ o).E σ M1 (qE (Γ.C c) f y (D.nx σ)):=rfl
theorem qDU:(tr Γ (.dp d k a)).S D σ M=(tr Γ a).E σ M λv M1=>(tr Γ d).E σ M1 λx M2=>(tr Γ k).E σ M2 λy M3=>sH M3 x y v (D.nx σ):=rfl
def zN(is:List Nat)(σ:aY)(N:aY->RM->Prop):aj:=λx M=>match x with| .tup xs=>xs.length=is.length/\N (uy σ is xs) M|_=>False
theorem SO{is:List Nat}{xs:LR}{N:aY->RM->Prop}:zN is σ N (.tup xs) M=(xs.length=is.length/\N (uy σ is xs) M):=rfl
theorem N3{is:List Nat}:(tr Γ (.un is a)).S D σ M=(tr Γ a).E σ M (zN is σ D.nx):=rfl
theorem f7{i j:Int}:fY .Add (.int i) (.int j) M Q=Q (.int (i+j)) M:=rfl
theorem Je{i j:Int}:fY .Sub (.int i) (.int j) M Q=Q (.int (i-j)) M:=rfl
theorem qE4{i j:Int}:eE .Lt (.int i) (.int j) M Q=Q (.bl (decide (i<j))) M:=rfl
theorem qE5{i j:Int}:eE .LtE (.int i) (.int j) M Q=Q (.bl (decide (i<=j))) M:=rfl
theorem qE7{i j:Int}:eE .Gt (.int i) (.int j) M Q=Q (.bl (decide (j<i))) M:=rfl
theorem qE8{i j:Int}:eE .GtE (.int i) (.int j) M Q=Q (.bl (decide (j<=i))) M:=rfl
theorem qE6{x:RV}:eE .Is x .ao M Q=Q (.bl (gv x)) M:=rfl
theorem qqO{x:RV}:eE .IsNot x .ao M Q=Q (.bl (!gv x)) M:=rfl
theorem qxS{i j:Int}:eE .Eq (.int i) (.int j) M Q=Q (.bl (i==j)) M:=by
 show(_/\_/\Q (.bl (bq (.int i) (.int j))) M)=_;simp[bM,aA,bq]
theorem qxR{i j:Str}:eE .Eq (.str i) (.str j) M Q=Q (.bl (i==j)) M:=by
 show(_/\_/\Q (.bl (bq (.str i) (.str j))) M)=_;simp[bM,aA,bq]
theorem qxN{i j:Int}:eE .NotEq (.int i) (.int j) M Q=Q (.bl (!(i==j))) M:=by
 show(_/\_/\Q (.bl (!bq (.int i) (.int j))) M)=_;simp[bM,aA,bq]
theorem qxL{i j:Str}:eE .NotEq (.str i) (.str j) M Q=Q (.bl (!(i==j))) M:=by
 show(_/\_/\Q (.bl (!bq (.str i) (.str j))) M)=_;simp[bM,aA,bq]
end
section
variable {Γ:G}{σ:aY}{M:RM}{Q:aj}{D:RD}{a b c d e t l h o k r it:T}{i n:Nat}{QB:Bool->RM->Prop}{QA:LR->RM->Prop}{QI:LR->(RM->Prop)->(RM->RM)->RM->Prop}{x:Addr}{f:Str}{C:Addr}{N:RM->Prop}{y v z:RV}
def wO{α:Type}(o:Option α)(Q:α->Prop):Prop:=match o with|some v=>Q v|none=>False
theorem xr{α:Type}{v:α}{Q:α->Prop}:wO (some v) Q=Q v:=rfl
def fO(C:Addr)(f:Str)(Q:aj)(M:RM)(o:Option RO):Prop:=match o with
 |some (.ins C' fs)=>C'=C/\wO (fs.lookup f) λv=>Q v M
 |_=>False
theorem qqg:qD C f Q (.ref x) M=fO C f Q M (M x):=by
 show(match M x with|some (.ins C' fs)=>C'=C/\(match fs.lookup f with|some v=>Q v M|none=>False)|_=>False)=_
 unfold fO;cases M x with
 |none=>rfl
 |some u=>
  cases u<;>first|rfl|skip
  rename_i C' fs;show(C'=C/\(match fs.lookup f with|some v=>Q v M|none=>False))=(C'=C/\wO (fs.lookup f) λv=>Q v M)
  cases fs.lookup f<;>rfl
theorem Xe{fs:List (Str×RV)}:fO C f Q M (some (.ins C fs))=wO (fs.lookup f) λv=>Q v M:=by
 show(C=C/\_)=_;rw[eq_self_iff_true,true_and]
def sO(C:Addr)(f:Str)(y:RV)(N:RM->Prop)(x:Addr)(M:RM)(o:Option RO):Prop:=match o with
 |some (.ins C' fs)=>C'=C/\fs.length<1000/\N (put M x (.ins C (jy f y fs)))
 |_=>False
theorem qqa:qE C f y N (.ref x) M=sO C f y N x M (M x):=rfl
theorem VS{fs:List (Str×RV)}:sO C f y N x M (some (.ins C fs))=(fs.length<1000/\N (put M x (.ins C (jy f y fs)))):=by
 show(C=C/\_)=_;rw[eq_self_iff_true,true_and]
def mO(C:Addr)(m:Str)(sp:bO)(t:bA)(σ:aY)(Q:aj)(x:Addr)(M:RM)(o:Option RO):Prop:=match o with
 |some (.ins C' fs)=>C'=C/\fs.lookup m=none/\t σ M λrs M2=>sp (.ref x::rs) M2 Q
 |_=>False
theorem qqd{m:Str}{sp:bO}{t:bA}:oW C m sp t σ Q (.ref x) M=mO C m sp t σ Q x M (M x):=rfl
theorem Xk{m:Str}{sp:bO}{t:bA}{fs:List (Str×RV)}:mO C m sp t σ Q x M (some (.ins C fs))=(fs.lookup m=none/\t σ M λrs M2=>sp (.ref x::rs) M2 Q):=by
 show(C=C/\_)=_;rw[eq_self_iff_true,true_and]
def gO(Q:aj)(y:RV)(M:RM)(o:Option RO):Prop:=match o.bind (rS . y)with
 |some (some v)=>Q v M
 |_=>False
theorem qmt:vd Q (.ref x) y M=gO Q y M (M x):=rfl
def iO(neg:Bool)(Q:aj)(y:RV)(M:RM)(o:Option RO):Prop:=match o.bind (rS . y)with
 |some r=>Q (.bl (if neg then !r.isSome else r.isSome)) M
 |none=>False
theorem qoY{neg:Bool}:y7 neg Q (.ref x) y M=iO neg Q y M (M x):=rfl
def dO(Q:aj)(y z:RV)(M:RM)(o:Option RO):Prop:=match o.bind (rS . y)with
 |some r=>Q (r.getD z) M
 |none=>False
theorem qjZ:uI Q (.ref x) y z M=dO Q y z M (M x):=rfl
def qO(o:Option RO):Prop:=match o with
 |some (.dk _)=>True
 |some (.dt _)=>True
 |some (.fk _)=>True
 |some (.ft _)=>True
 |_=>False
theorem qqw:sM M (.ref x)=qO (M x):=rfl
theorem qwF{kvs:bH}:qO (some (.dk kvs))=True:=rfl
theorem qwE{kvs:List (TK×RV)}:qO (some (.dt kvs))=True:=rfl
theorem qxq{kvs:bH}{m:Int}:gO Q (.int m) M (some (.dk kvs))=wO (lk kvs (.inl m)) λv=>Q v M:=by
 show(match some (lk kvs (.inl m))with|some (some v)=>Q v M|_=>False)=_
 cases lk kvs (.inl m)<;>rfl
theorem qxj{neg:Bool}{kvs:bH}{m:Int}:iO neg Q (.int m) M (some (.dk kvs))=Q (.bl (if neg then !(lk kvs (.inl m)).isSome else(lk kvs (.inl m)).isSome)) M:=rfl
theorem qxC{kvs:bH}{m:Int}:dO Q (.int m) z M (some (.dk kvs))=Q ((lk kvs (.inl m)).getD z) M:=rfl
theorem Bn{kvs:List (TK×RV)}{s:TK}(h:gf y=some s):dO Q y z M (some (.dt kvs))=Q ((lk kvs s).getD z) M:=by
 show(match(gf y).map (lk kvs)with|some r=>Q (r.getD z) M|none=>False)=_
 rw[h];rfl
def pO(y v:RV)(N:RM->Prop)(x:Addr)(M:RM)(o:Option RO):Prop:=match o with
 |some (.dk kvs)=>match eO y with
  |some k=>kvs.length<sizeLine/\N (put M x (.dk (pt kvs k v)))
  |none=>False
 |some (.dt kvs)=>match gf y with
  |some k=>kvs.length<sizeLine/\N (put M x (.dt (pt kvs k v)))
  |none=>False
 |_=>False
noncomputable def wc (y:RV)(N:RM->Prop)(x:Addr)(M:RM):Option RO->Prop
 |some (.dk kvs)=>match eO y with
  |some k=>(lk kvs k).isSome=true/\N (put M x (.dk (dr kvs k)))
  |none=>False
 |some (.dt kvs)=>match gf y with
  |some k=>(lk kvs k).isSome=true/\N (put M x (.dt (dr kvs k)))
  |none=>False
 |_=>False
theorem qqL:qC M (.ref x) y N=wc y N x M (M x):=rfl
theorem qtU{kvs:bH}{m:Int}:wc (.int m) N x M (some (.dk kvs))=((lk kvs (.inl m)).isSome=true/\N (put M x (.dk (dr kvs (.inl m))))):=rfl
theorem AW{kvs:List (TK×RV)}{s:TK}(h:gf y=some s):wc y N x M (some (.dt kvs))=((lk kvs s).isSome=true/\N (put M x (.dt (dr kvs s)))):=by
 unfold wc;simp only[h]
theorem qqH:sH M (.ref x) y v N=pO y v N x M (M x):=rfl
theorem qwR{kvs:bH}{m:Int}:pO (.int m) v N x M (some (.dk kvs))=(kvs.length<sizeLine/\N (put M x (.dk (pt kvs (.inl m) v)))):=rfl
theorem uQ{kvs:List (TK×RV)}{s:TK}(h:gf y=some s):pO y v N x M (some (.dt kvs))=(kvs.length<sizeLine/\N (put M x (.dt (pt kvs s v)))):=by
 show(match gf y with|some k=>kvs.length<sizeLine/\N (put M x (.dt (pt kvs k v)))|none=>False)=_
 rw[h]
def aO(t:bA)(σ:aY)(Q:aj)(x:Addr)(M:RM)(o:Option RO):Prop:=match o with
 |some (.lst _)=>t σ M λrs M2=>∃ys y,rs= [y]/\M2 x=some (.lst ys)/\ys.length<sizeLine/\Q .ao (put M2 x (.lst (ys++ [y])))
 |_=>False
def CB(t:bA)(σ:aY)(Q:aj):aj:=λv M=>match v with
 | .ref x=>aO t σ Q x M (M x)
 |_=>False
theorem qDr:(tr Γ (.ap o a)).E σ M Q=(tr Γ o).E σ M (CB (tr Γ a).A σ Q):=by
 show yr _ _ σ M Q=_;unfold yr;congr 1;funext v M1;cases v<;>try rfl
 rename_i p;show((∃ys,M1 p=some (.lst ys))/\_)=aO _ _ _ p M1 (M1 p);cases e:M1 p with
 |none=>exact propext ⟨λz=>(by obtain⟨⟨_,z⟩,_⟩:=z;cases z),λz=>z.elim⟩
 |some u=>cases u<;>first|exact propext ⟨λz=>(by obtain⟨⟨_,z⟩,_⟩:=z;cases z),λz=>z.elim⟩|exact propext ⟨λz=>z.2,λz=>⟨⟨_,rfl⟩,z⟩⟩
def CK(t:bA)(σ:aY)(Q:aj)(x:Addr)(M:RM)(o:Option RO):Prop:=match o with
 |some (.lst _)=>t σ M λrs M2=>∃y ys,rs= [.int 0]/\M2 x=some (.lst (y::ys))/\Q y (put M2 x (.lst ys))
 |_=>False
theorem Ov{x:Addr}(h:∀K:aj,(tr Γ o).E σ M K=K (.ref x) M):(tr Γ (.po o a)).E σ M Q=CK (tr Γ a).A σ Q x M (M x):=by
 show(tr Γ o).E σ M _=_;rw[h];show((∃ys,M x=some (.lst ys))/\_)=CK _ _ _ x M (M x);cases e:M x with
 |none=>exact propext ⟨λz=>(by obtain⟨⟨_,z⟩,_⟩:=z;cases z),λz=>z.elim⟩
 |some u=>cases u<;>first|exact propext ⟨λz=>(by obtain⟨⟨_,z⟩,_⟩:=z;cases z),λz=>z.elim⟩|exact propext ⟨λz=>z.2,λz=>⟨⟨_,rfl⟩,z⟩⟩
def Cv(t:bA)(σ:aY)(Q:aj)(x:Addr)(M:RM)(o:Option RO):Prop:=match o with
 |some (.lst _)=>t σ M λrs M2=>∃i ys y,rs= [.int i,y]/\M2 x=some (.lst ys)/\0<=i/\i<=ys.length/\ys.length<sizeLine/\Q .ao (put M2 x (.lst (ys.take i.toNat++y::ys.drop i.toNat)))
 |_=>False
theorem N6{x:Addr}(h:∀K:aj,(tr Γ o).E σ M K=K (.ref x) M):(tr Γ (.li o a)).E σ M Q=Cv (tr Γ a).A σ Q x M (M x):=by
 show(tr Γ o).E σ M _=_;rw[h];show((∃ys,M x=some (.lst ys))/\_)=Cv _ _ _ x M (M x);cases e:M x with
 |none=>exact propext ⟨λz=>(by obtain⟨⟨_,z⟩,_⟩:=z;cases z),λz=>z.elim⟩
 |some u=>cases u<;>first|exact propext ⟨λz=>(by obtain⟨⟨_,z⟩,_⟩:=z;cases z),λz=>z.elim⟩|exact propext ⟨λz=>z.2,λz=>⟨⟨_,rfl⟩,z⟩⟩
theorem qqh{t:bA}:CB t σ Q (.ref x) M=aO t σ Q x M (M x):=rfl
theorem qur{t:bA}{xs:LR}:aO t σ Q x M (some (.lst xs))=t σ M λrs M2=>∃ys y,rs= [y]/\M2 x=some (.lst ys)/\ys.length<sizeLine/\Q .ao (put M2 x (.lst (ys++ [y]))):=rfl
theorem bu{xs:LR}{m:Int}:cw (.tup xs) (.int m) M Q=wO (bI xs m) λv=>Q v M:=by
 show(match bI xs m with|some v=>Q v M|none=>False)=_
 cases bI xs m<;>rfl
theorem VY{xs:LR}{m:Int}:cw (.ls xs) (.int m) M Q=wO (bI xs m) λv=>Q v M:=by
 show(match bI xs m with|some v=>Q v M|none=>False)=_
 cases bI xs m<;>rfl
def xO(m:Int)(Q:aj)(M:RM)(o:Option RO):Prop:=match o with
 |some (.lst xs)=>wO (bI xs m) λv=>Q v M
 |_=>False
theorem qri{m:Int}:cw (.ref x) (.int m) M Q=xO m Q M (M x):=by
 show(match M x with|some (.lst xs)=>(match bI xs m with|some v=>Q v M|none=>False)|_=>False)=_
 unfold xO;cases M x with
 |none=>rfl
 |some u=>
  cases u<;>first|rfl|skip
  rename_i xs;show(match bI xs m with|some v=>Q v M|none=>False)=wO (bI xs m) λv=>Q v M
  cases bI xs m<;>rfl
theorem T4{m:Int}{xs:LR}:xO m Q M (some (.lst xs))=wO (bI xs m) λv=>Q v M:=rfl
theorem qt6{xs:LR}{lo hi:Option Int}:ma (.tup xs) lo hi M Q=Q (.tup (fF xs lo hi)) M:=rfl
theorem qxG{xs:LR}{lo hi:Option Int}:ma (.ls xs) lo hi M Q=Q (.ls (fF xs lo hi)) M:=rfl
theorem qC5{md:Bool}:(tr Γ (.lv md a)).E σ M Q=(tr Γ a).E σ M (sQ md Q):=rfl
def vO(md:Bool)(Q:aj)(M:RM)(o:Option RO):Prop:=wO (o.bind uV) λxs=>jA md xs M Q
theorem qqe{md:Bool}:sQ md Q (.ref x) M=vO md Q M (M x):=by
 show(match(M x).bind uV with|some xs=>jA md xs M Q|none=>False)=_
 unfold vO;cases(M x).bind uV<;>rfl
theorem qvs{md:Bool}{kvs:bH}:vO md Q M (some (.dk kvs))=jA md (kvs.map (·.2)) M Q:=rfl
theorem qvr{md:Bool}{kvs:List (TK×RV)}:vO md Q M (some (.dt kvs))=jA md (kvs.map (·.2)) M Q:=rfl
theorem pC{xs:LR}:jA false xs M Q=Q (.ls xs) M:=rfl
theorem qtR{xs:LR}:jA true xs M Q= ∀p,M p=none->Q (.ref p) (put M p (.lst xs)):=rfl
def CF(i j:Nat)(σ:aY)(N:aY->RM->Prop):LR->RM->Prop:=λrs M1=>match rs with
 | [v,w]=>N ((σ.set i (some v)).set j (some w)) M1
 |_=>False
theorem qDR{j:Nat}:(tr Γ (.pr i j a)).S D σ M=(tr Γ a).A σ M (CF i j σ D.nx):=rfl
theorem qqc{j:Nat}{N:aY->RM->Prop}:CF i j σ N [v,y] M=N ((σ.set i (some v)).set j (some y)) M:=rfl
theorem OT{c:Nat}:(tr Γ (.af c f o a)).S D σ M=(tr Γ o).E σ M (sN (Γ.C c) f (tr Γ a).E σ (D.nx σ)):=rfl
theorem qDN:(tr Γ (.sp l k a)).S D σ M=(tr Γ a).E σ M λv M1=>(tr Γ l).E σ M1 λo M2=>(tr Γ k).E σ M2 λi M3=>pL o i v M3 λM4=>D.nx σ M4:=rfl
theorem qDT{tup:Bool}{is:List Nat}:(tr Γ (.fo tup is it b)).S D σ M=(tr Γ it).I σ M λxs ok un M1=>gG (match tup,is with|true,is=>iQ is|false,[i]=>jh i|_,_=>λ_ _ _ _=>False) (tr Γ b).S D ok un xs σ M1:=rfl
noncomputable def kS (Q:LR->(RM->Prop)->(RM->RM)->RM->Prop):aj:=λv M1=>match v with
 | .tup xs=>Q xs dE id M1
 | .ls xs=>Q xs dE id M1
 | .ref a=>match M1 a with
  |some (.lst xs)=>Q xs (λM=>M a=some (.lst xs)) id M1
  |_=>False
 |_=>False
theorem qEG:(tr Γ (.is a)).I σ M QI=(tr Γ a).E σ M (kS QI):=rfl
theorem Jf{xs:LR}:kS QI (.ls xs) M=QI xs dE id M:=rfl
theorem qtv{xs:LR}:kS QI (.tup xs) M=QI xs dE id M:=rfl
theorem qEF:(tr Γ (.r1 a)).I σ M QI=(tr Γ a).E σ M λv M1=>uU QI [v] M1:=rfl
theorem WL{m:Int}:uU QI [.int m] M=(-(2 ^ 62)<=m/\m<2 ^ 62/\QI (nums m.toNat) dE id M):=rfl
theorem qEH:(tr Γ (.im a)).I σ M QI=(tr Γ a).E σ M (rO QI):=rfl
theorem qDl{md tup:Bool}{nm:az}{cap:List (Nat×Str)}:(tr Γ (.cp md tup nm cap it t a)).E σ M Q=(tr Γ it).I σ M λxs ok un M1=>xs.length<sizeLine/\fZ (gh tup nm.length) md ok un (tr Γ t).T (tr Γ a).E ((cap.map Prod.fst).map λi=>(σ[i]?).join) xs [] M1 Q:=rfl
theorem Bv{md tup:Bool}{nm:az}{cap:List (Nat×Str)}:(tr Γ (.sc i md tup nm cap it t a)).S D σ M=(tr Γ (.cp md tup nm cap it t a)).E σ M λx M1=>D.nx (σ.set i (some x)) M1:=rfl
theorem ju{bd:RV->Option (LR)}{md:Bool}{ok:RM->Prop}{un:RM->RM}{tt:cU}{te:ak}{base:List (Option RV)}{Q:aj}{M:RM}(p:RV->Bool)(g:RV->RV)(au:ok M):∀(xs acc:LR),
 (∀x∈xs,∃bs,bd x=some bs/\(∀K:Bool->RM->Prop,K (p x) M->tt (bs.map some++base) M K)/\(p x=true->∀K:aj,K (g x) M->te (bs.map some++base) M K))->
 jA md (acc++(xs.filter p).map g) (un M) Q->fZ bd md ok un tt te base xs acc M Q
 | [],acc,_,h=>⟨au,by simpa using h⟩
 |x::xs,acc,hx,h=>by
  obtain⟨bs,h1,h2,h3⟩:=hx x (.head _);have hx':=λy hy=>hx y (gk x hy)
  refine⟨au,?_⟩;rw[h1];refine h2 _ ⟨λhp=>h3 hp _ (ju p g au xs _ hx' ?_),λhp=>ju p g au xs _ hx' ?_⟩
  . rw[List.filter_cons_of_pos hp,cj]at h
    simpa using h
  . rw[List.filter_cons_of_neg (by simp[hp])]at h
    exact h
theorem qU{g:iW}{tb:cD}{ok:RM->Prop}{un:RM->RM}(I:LR->aY->RM->Prop)(au:∀xs σ M,I xs σ M->ok M)(hend:∀σ M,I [] σ M->D.nx σ (un M))
 (hstep:∀x xs σ M (W:LR->aY->RM->Prop),I (x::xs) σ M->(∀σ' M',I xs σ' M'->W xs σ' M')->g x σ M λσ2 M2=>tb { D with nx:=W xs,ct:=W xs,bk:=λσ M=>ok M/\D.nx σ (un M),rt:=λv M=>ok M/\D.rt v (un M) } σ2 M2):∀xs σ M,I xs σ M->gG g tb D ok un xs σ M
 | [],σ,M,h=>⟨au _ _ _ h,hend _ _ h⟩
 |x::xs,σ,M,h=>⟨au _ _ _ h,hstep x xs σ M (λxs=>gG g tb D ok un xs) h λσ' M' h'=>qU I au hend hstep xs σ' M' h'⟩
theorem qum{i:Int}:fM "isinstance" [.int i,.ty "int"] M Q=Q (.bl true) M:=rfl
theorem qun{i:Int}:fM "isinstance" [.int i,.ty "bool"] M Q=Q (.bl false) M:=rfl
theorem qqW{b:Bool}:fM "isinstance" [.bl b,.ty "bool"] M Q=Q (.bl true) M:=rfl
theorem qul{x:Str}:fM "isinstance" [.str x,.ty "str"] M Q=Q (.bl true) M:=rfl
theorem quk{xs:LR}:fM "isinstance" [.tup xs,.ty "tuple"] M Q=Q (.bl true) M:=rfl
theorem qqT{xs:LR}:fM "len" [.tup xs] M Q=Q (.int xs.length) M:=rfl
theorem qqU{x:Str}:fM "len" [.str x] M Q=(x.length<=sizeLine/\Q (.int x.length) M):=rfl
theorem qqV{xs:LR}:fM "len" [.ls xs] M Q=Q (.int xs.length) M:=rfl
theorem quj{i j:Int}:fM "max" [.int i,.int j] M Q=Q (.int (if j > i then j else i)) M:=rfl
theorem qui{x:Str}:fM "ord" [.str x] M Q=(x.length=1/\Q (.int (x.cps.getD 0 0:Nat)) M):=rfl
theorem Iv{bs:List Bool}:fM "all" [.ls (bs.map RV.bl)] M Q=Q (.bl (bs.all id)) M:=by
 refine propext ⟨λh=>?_,λh=>⟨bs,rfl,h⟩⟩
 obtain⟨bs',e,h⟩:=h;have e:bs.map RV.bl=bs'.map RV.bl:=by injection e with e1 _;injection e1
 have:bs=bs':=List.map_inj_right (λa b z=>by cases z;rfl)|>.mp e
 subst this;exact h
theorem Kn{a b:Bool}:(if a=true then Q (.bl b) M else Q (.bl false) M)=Q (.bl (a&&b)) M:=by cases a<;>rfl
theorem qDQ:(tr Γ .ra).S D σ M=False:=rfl
theorem qEE:(tr Γ (.st a)).I σ M QI=(tr Γ a).E σ M λv M1=>match v with| .str x=>QI (ia x) dE id M1|_=>False:=rfl
theorem qqs:gv .ao=true:=rfl
theorem qqq{x:Str}:gv (.str x)=false:=rfl
theorem qqt{i:Int}:gv (.int i)=false:=rfl
theorem qqr:gv (.ref x)=false:=rfl
theorem qqp{xs:LR}:gv (.tup xs)=false:=rfl
theorem qmx{x:Str}:(x==x)=true:=by simp
theorem qua{x:Str}:eE .Eq .ao (.str x) M Q=Q (.bl false) M:=by
 show(_/\_/\Q (.bl (bq .ao (.str x))) M)=_;simp[bM,aA,bq]
theorem iM{α:Type}{xs:List α}{k:Nat}{v:α}(h:xs[k]? =some v):bI xs (k:Int)=some v:=by
 have hk:k<xs.length:=(jE.mp h).1;have e:fg xs.length (k:Int)=some k:=by
  unfold fg;simp;omega
 unfold bI;rw[e];exact h
theorem vb{α:Type}{a0:α}{r:List α}:bI (a0::r) 0=some a0:=iM (k:=0) rfl
theorem Kr{α:Type}{a0 a1:α}{r:List α}:bI (a0::a1::r) 1=some a1:=iM (k:=1) rfl
theorem N2{α:Type}{a0 a1 a2:α}{r:List α}:bI (a0::a1::a2::r) 2=some a2:=iM (k:=2) rfl
theorem N0{α:Type}{a0 a1 a2 a3:α}{r:List α}:bI (a0::a1::a2::a3::r) 3=some a3:=iM (k:=3) rfl
theorem NZ{α:Type}{a0 a1 a2 a3 a4:α}{r:List α}:bI (a0::a1::a2::a3::a4::r) 4=some a4:=iM (k:=4) rfl
theorem NY{α:Type}{a0 a1 a2 a3 a4 a5:α}{r:List α}:bI (a0::a1::a2::a3::a4::a5::r) 5=some a5:=iM (k:=5) rfl
theorem NX{α:Type}{a0 a1 a2 a3 a4 a5 a6:α}{r:List α}:bI (a0::a1::a2::a3::a4::a5::a6::r) 6=some a6:=iM (k:=6) rfl
theorem NW{α:Type}{a0 a1 a2 a3 a4 a5 a6 a7:α}{r:List α}:bI (a0::a1::a2::a3::a4::a5::a6::a7::r) 7=some a7:=iM (k:=7) rfl
theorem z_0:(0<=sizeLine)=True:=eq_true ⋯
theorem qCz:(0<sizeLine)=True:=eq_true ⋯
theorem qE3:((0:Nat):Int)=0:=rfl
theorem z_1:(1<=sizeLine)=True:=eq_true ⋯
theorem qCy:(1<sizeLine)=True:=eq_true ⋯
theorem qE2:((1:Nat):Int)=1:=rfl
theorem z_2:(2<=sizeLine)=True:=eq_true ⋯
theorem qCx:(2<sizeLine)=True:=eq_true ⋯
theorem qE1:((2:Nat):Int)=2:=rfl
theorem z_3:(3<=sizeLine)=True:=eq_true ⋯
theorem qCw:(3<sizeLine)=True:=eq_true ⋯
theorem qE0:((3:Nat):Int)=3:=rfl
theorem z_4:(4<=sizeLine)=True:=eq_true ⋯
theorem qCv:(4<sizeLine)=True:=eq_true ⋯
theorem qEZ:((4:Nat):Int)=4:=rfl
theorem z_5:(5<=sizeLine)=True:=eq_true ⋯
theorem qCu:(5<sizeLine)=True:=eq_true ⋯
theorem qEY:((5:Nat):Int)=5:=rfl
theorem z_6:(6<=sizeLine)=True:=eq_true ⋯
theorem qCt:(6<sizeLine)=True:=eq_true ⋯
theorem qEX:((6:Nat):Int)=6:=rfl
theorem z_7:(7<=sizeLine)=True:=eq_true ⋯
theorem qCs:(7<sizeLine)=True:=eq_true ⋯
theorem qEW:((7:Nat):Int)=7:=rfl
theorem z_8:(8<=sizeLine)=True:=eq_true ⋯
theorem qCr:(8<sizeLine)=True:=eq_true ⋯
theorem qEV:((8:Nat):Int)=8:=rfl
theorem z_9:(9<=sizeLine)=True:=eq_true ⋯
theorem qCq:(9<sizeLine)=True:=eq_true ⋯
theorem qEU:((9:Nat):Int)=9:=rfl
theorem Xm{k:Nat}:(((k+1:Nat):Int)==0)=false:=by simp;omega
theorem BH{x:RV}{r:LR}:fF (x::r) (some 1) none=r:=by
 unfold fF;rw[show HT.aN (x::r).length 0 (some 1)=1 from by show min 1 (r.length+1)=1;omega,HT.ji]
 simp
def tO(key:Option Key)(kvs:bH)(Q:aj)(M:RM):Prop:=match key with
 |some k=>wO (dm kvs k) λv=>Q v M
 |none=>False
theorem qCT{x:Str}:(tr Γ (.tx x a)).E σ M Q=(tr Γ a).E σ M λy M1=>tO (eO y) (Γ.tb x) Q M1:=by
 show yC (Γ.tb x) _ σ M Q=_;unfold yC;congr 1;funext y M1;unfold tO wO;generalize eO y=q;cases q with
 |none=>rfl
 |some k=>
  dsimp only;cases dm (Γ.tb x) k<;>rfl
theorem qrI{x:Str}{kvs:bH}:tO (eO (.str x)) kvs Q M=wO (dm kvs (.inr x)) λv=>Q v M:=rfl
def CG(kvs:bH)(Q:aj):aj:=λk M1=>match eO k with
 |some key=>Q (.bl (dm kvs key).isSome) M1
 |none=>False
theorem qCW{x:Str}:(tr Γ (.ti x a)).E σ M Q=(tr Γ a).E σ M (CG (Γ.tb x) Q):=rfl
theorem qp9{x:Str}{kvs:bH}:CG kvs Q (.str x) M=Q (.bl (dm kvs (.inr x)).isSome) M:=rfl
theorem qCV{x:Str}:(tr Γ (.tn x a)).E σ M Q=(tr Γ a).E σ M (xA (Γ.tb x) Q):=rfl
theorem qp8{x:Str}{kvs:bH}:xA kvs Q (.str x) M=Q (.bl (!(dm kvs (.inr x)).isSome)) M:=rfl
noncomputable def CC (gP:List (Addr×bO))(t:bA)(σ:aY)(Q:aj):aj:=λv M1=>match v with
 | .ref f=>∃sp,(f,sp)∈gP/\t σ M1 λrs M2=>sp rs M2 Q
 |_=>False
theorem qDk:(tr Γ (.cv i a)).E σ M Q=(tr Γ (.v i)).E σ M (CC Γ.gP (tr Γ a).A σ Q):=rfl
theorem An{gP:List (Addr×bO)}{t:bA}:CC gP t σ Q (.ref x) M= ∃sp,(x,sp)∈gP/\t σ M λrs M2=>sp rs M2 Q:=rfl
theorem qC6:(tr Γ (.lr a b)).E σ M Q=(tr Γ a).E σ M λx M1=>(tr Γ b).E σ M1 λy M2=>sP Q [x,y] M2:=rfl
theorem qqf{i j:Int}:sP Q [.int i,.int j] M=((-1000000<=i/\i<=1000000/\-1000000<=j/\j<=1000000)/\(j-i).toNat<=1000/\Q (.ls (xx i (j-i).toNat)) M):=rfl
theorem qCY{c:Nat}{f:Str}{a:T}:(tr Γ (.sk c f a)).E σ M Q=(tr Γ a).E σ M (zM (Γ.C c) f Γ.lP Γ.S.lp Γ.S.lq Q):=rfl
theorem qDV:(tr Γ (.dd d k)).S D σ M=(tr Γ d).E σ M λx M1=>(tr Γ k).E σ M1 λy M2=>qC M2 x y (D.nx σ):=rfl
theorem qta{xs ys:LR}:fY .Add (.ls xs) (.ls ys) M Q=(xs.length+ys.length<=sizeLine/\Q (.ls (xs++ys)) M):=rfl
theorem qs9{xs ys:LR}:fY .Add (.tup xs) (.tup ys) M Q=(xs.length+ys.length<=sizeLine/\Q (.tup (xs++ys)) M):=rfl
theorem qw2{i j:Int}:fY .Mod (.int i) (.int j) M Q=(0<j/\Q (.int (i % j)) M):=rfl
theorem qw3{i j:Int}:fY .FloorDiv (.int i) (.int j) M Q=((0<j/\j<1073741824)/\Q (.int (i / j)) M):=rfl
theorem qw0{i j:Int}:fY .Pow (.int i) (.int j) M Q=((0<=j/\j<=1000000/\i.natAbs<2 ^ 64)/\Q (.int (i ^ j.toNat)) M):=rfl
theorem qw1{i j:Int}:fY .Mult (.int i) (.int j) M Q=(gM i j/\Q (.int (i*j)) M):=rfl
def lO(k:Int)(v:RV)(N:RM->Prop)(x:Addr)(M:RM)(o:Option RO):Prop:=match o with
 |some (.lst xs)=>wO (fg xs.length k) λj=>N (put M x (.lst (xs.set j v)))
 |_=>False
theorem qo8{m:Int}:pL (.ref x) (.int m) v M N=lO m v N x M (M x):=by
 show(match M x with|some (.lst xs)=>(match fg xs.length m with|some j=>N (put M x (.lst (xs.set j v)))|none=>False)|_=>False)=_
 unfold lO;cases M x with
 |none=>rfl
 |some u=>
  cases u<;>first|rfl|skip
  rename_i xs;show(match fg xs.length m with|some j=>N (put M x (.lst (xs.set j v)))|none=>False)=wO (fg xs.length m) λj=>N (put M x (.lst (xs.set j v)))
  cases fg xs.length m<;>rfl
theorem qtm{m:Int}{xs:LR}:lO m v N x M (some (.lst xs))=wO (fg xs.length m) λj=>N (put M x (.lst (xs.set j v))):=rfl
theorem qxg:fg 3 0=some 0:=rfl
theorem qxf:fg 3 1=some 1:=rfl
theorem qxe:fg 3 2=some 2:=rfl
end
end R
namespace K19
open PySem PySem.Spec PyProof.Rows L2 R
def top(i:Nat):Stmt:=PySem.Challenge.pw_lentgate_k19_whole_as_with_an_address_ea.main.body.getD i (.Pass ⟨0,0,0,0⟩)
section
local macro_rules | `($a ^ $b) => `(T.ec $a $b)
local macro_rules | `($a >=> $b) => `(T.se $a $b)
noncomputable def xl:FD:=⟨0,0,"is_whole",["thing"],["thing"],.re (.an (.bf "isinstance" (.v 0^.ty "int"^.e0)) (.no (.bf "isinstance" (.v 0^.ty "bool"^.e0))))>=>.en⟩
noncomputable def xp:FD:=⟨0,0,"is_house",["thing"],["thing"],.re (.ca 53 (.v 0^.i 0^.g "GREATEST_HOUSE"^.e0))>=>.en⟩
noncomputable def xj:FD:=⟨0,0,"is_door",["thing"],["thing"],.re (.ca 53 (.v 0^.i 1^.g "GREATEST_DOOR"^.e0))>=>.en⟩
noncomputable def xo:FD:=⟨0,0,"is_place",["thing"],["thing"],.re (.ca 53 (.v 0^.i 0^.g "GREATEST_PLACE"^.e0))>=>.en⟩
noncomputable def wB:FD:=⟨0,0,"is_outer_place",["thing"],["thing"],.re (.ca 53 (.v 0^.i 1^.g "GREATEST_PLACE"^.e0))>=>.en⟩
noncomputable def xn:FD:=⟨0,0,"is_ticks",["thing"],["thing"],.re (.ca 53 (.v 0^.i 0^.g "GREATEST_TICKS"^.e0))>=>.en⟩
noncomputable def xh:FD:=⟨0,0,"is_kind",["thing"],["thing"],.re (.ic false (.v 0) "KINDS")>=>.en⟩
noncomputable def xf:FD:=⟨0,0,"is_sign",["sign"],["sign","at"],.set 1 (.bf "ord" (.v 0^.e0))>=>.re (.an (.ch .LtE .LtE (.g "FIRST_SIGN") (.v 1) (.g "LAST_SIGN")) (.cm .NotEq (.v 1) (.g "PERCENT_SIGN")))>=>.en⟩
noncomputable def xc:FD:=⟨0,0,"is_text",["thing"],["thing"],.aZ (.or (.no (.bf "isinstance" (.v 0^.ty "str"^.e0))) (.cm .Gt (.bf "len" (.v 0^.e0)) (.g "MOST_SIGNS"))) (.re (.b false)>=>.en) .en>=>.re (.bf "all" (.cp false false ["sign"] [] (.st (.v 0)) (.b true) (.ca 7 (.v 0^.e0))^.e0))>=>.en⟩
noncomputable def uq:FD:=⟨0,0,"is_out",["parts"],["parts","kind","house","door","place","far","word","text"],.aZ (.cm .NotEq (.bf "len" (.v 0^.e0)) (.i 7)) (.re (.b false)>=>.en) .en>=>.un [1,2,3,4,5,6,7] (.v 0)>=>.re (.an (.ca 1 (.v 2^.e0)) (.an (.ca 2 (.v 3^.e0)) (.an (.ca 3 (.v 4^.e0)) (.an (.ca 2 (.v 5^.e0)) (.ca 54 (.v 1^.v 6^.v 7^.e0))))))>=>.en⟩
noncomputable def uu:FD:=⟨0,0,"is_come",["parts"],["parts","kind","place","far","number","word","text"],.aZ (.cm .NotEq (.bf "len" (.v 0^.e0)) (.i 6)) (.re (.b false)>=>.en) .en>=>.un [1,2,3,4,5,6] (.v 0)>=>.re (.an (.ca 4 (.v 2^.e0)) (.an (.ca 2 (.v 3^.e0)) (.an (.ca 2 (.v 4^.e0)) (.ca 54 (.v 1^.v 5^.v 6^.e0)))))>=>.en⟩
noncomputable def ur:FD:=⟨0,0,"is_wait",["parts"],["parts"],.re (.an (.cm .Eq (.bf "len" (.v 0^.e0)) (.i 1)) (.ca 5 (.ix (.v 0) (.i 0)^.e0)))>=>.en⟩
noncomputable def xa:FD:=⟨0,0,"name_of",["thing"],["thing"],.aZ (.or (.no (.bf "isinstance" (.v 0^.ty "tuple"^.e0))) (.or (.cm .Eq (.bf "len" (.v 0^.e0)) (.i 0)) (.no (.bf "isinstance" (.ix (.v 0) (.i 0)^.ty "str"^.e0))))) (.re .n>=>.en) .en>=>.re (.ix (.v 0) (.i 0))>=>.en⟩
noncomputable def xk:FD:=⟨0,0,"is_deed",["thing"],["thing","name","has_parts"],.set 1 (.ca 12 (.v 0^.e0))>=>.aZ (.tn "DEEDS" (.v 1)) (.re (.b false)>=>.en) .en>=>.set 2 (.tx "DEEDS" (.v 1))>=>.re (.cv 2 (.sl (.v 0) (.p1 (.i 1)) .p0^.e0))>=>.en⟩
noncomputable def xm:FD:=⟨0,0,"is_times",["thing"],["thing","lives"],.aZ (.or (.no (.bf "isinstance" (.v 0^.ty "tuple"^.e0))) (.cm .NotEq (.bf "len" (.v 0^.e0)) (.i 4))) (.re (.b false)>=>.en) .en>=>.set 1 (.bf "all" (.cp false false ["time"] [] (.is (.sl (.v 0) .p0 (.p1 (.i 3)))) (.b true) (.ca 53 (.v 0^.i 1^.g "GREATEST_TIME"^.e0))^.e0))>=>.re (.an (.v 1) (.ca 53 (.ix (.v 0) (.i 3)^.i 0^.g "GREATEST_TIME"^.e0)))>=>.en⟩
noncomputable def D3:T:=.re (.an (.ca 27 (.v 1^.v 2^.e0)) (.ca 14 (.v 8^.e0)))>=>.en
noncomputable def D4:T:=.aZ (.or (.no (.ca 53 (.v 6^.i 1^.g "GREATEST_MOST"^.e0))) (.no (.bf "isinstance" (.v 7^.ty "bool"^.e0)))) (.re (.b false)>=>.en) .en>=>D3
noncomputable def D5:T:=.aZ (.or (.ic true (.v 3) "LENDINGS") (.or (.ic true (.v 4) "SIEVES") (.ic true (.v 5) "PICKS"))) (.re (.b false)>=>.en) .en>=>D4
noncomputable def D6:T:=.un [1,2,3,4,5,6,7,8] (.v 0)>=>D5
noncomputable def D7:T:=.aZ (.or (.no (.bf "isinstance" (.v 0^.ty "tuple"^.e0))) (.cm .NotEq (.bf "len" (.v 0^.e0)) (.i 8))) (.re (.b false)>=>.en) .en>=>D6
noncomputable def xi:FD:=⟨0,0,"is_form",["thing"],["thing","low","high","lending","sieve","pick","most","renew","times"],D7⟩
noncomputable def tq:FD:=⟨2,0,"__init__",["self"],["self"],.sf 0 "many_told" (.v 0) (.i 0)>=>.sf 0 "standing" (.v 0) .dk>=>.en⟩
noncomputable def tY:FD:=⟨1,1,"from_mark",["self"],["self"],.re (.op .Add (.lr (.fl 1 "mark" (.v 0)) (.op .Add (.fl 1 "high" (.v 0)) (.i 1))) (.lr (.fl 1 "low" (.v 0)) (.fl 1 "mark" (.v 0))))>=>.en⟩
noncomputable def tG:FD:=⟨1,3,"living",["self"],["self"],.re (.lv false (.fl 3 "by_inner" (.v 0)))>=>.en⟩
noncomputable def tN:FD:=⟨1,4,"moment",["self"],["self"],.re (.fl 3 "now" (.fl 4 "table" (.v 0)))>=>.en⟩
noncomputable def uj:FD:=⟨1,4,"book",["self"],["self"],.re (.bt "list" (.fl 4 "done" (.v 0)^.e0))>=>.en⟩
noncomputable def Kq:T:=.re (.v 1)>=>.en
noncomputable def mX:T:=.aZ (.ca 46 (.v 2^.v 3^.e0)) (.un [4,5,6,7,8,9,10,11] (.v 2)>=>.ex (.ap (.v 1) (.tu (.v 5^.ix (.v 3) (.i 1)^.v 8^.v 9^.v 10^.v 11^.e0)^.e0))>=>.en) .en>=>.en
noncomputable def J4:T:=.fo true [2,3] (.is (.v 0)) mX>=>Kq
noncomputable def J5:T:=.set 1 (.lm .e0)>=>J4
noncomputable def xQ:FD:=⟨0,0,"went",["book"],["book","rows","deed","answer","name","kind","house","door","place","far","word","text"],J5⟩
noncomputable def J6:T:=.re (.v 1)>=>.en
noncomputable def mY:T:=.aZ (.ca 46 (.v 2^.v 3^.e0)) (.ex (.ap (.v 1) (.op .Add (.tu (.s "to"^.e0)) (.sl (.v 2) (.p1 (.i 1)) .p0)^.e0))>=>.en) (.aZ (.an (.cm .Eq (.ix (.v 2) (.i 0)) (.s "come")) (.cm .Eq (.ix (.v 3) (.i 0)) (.s "in"))) (.un [4,5,6,7,8,9,10] (.v 2)>=>.un [11,12,13] (.v 3)>=>.ex (.ap (.v 1) (.tu (.s "from"^.v 5^.v 12^.v 13^.v 6^.v 7^.v 9^.v 10^.e0)^.e0))>=>.en) .en>=>.en)>=>.en
noncomputable def J7:T:=.fo true [2,3] (.is (.v 0)) mY>=>J6
noncomputable def J8:T:=.set 1 (.lm .e0)>=>J7
noncomputable def wV:FD:=⟨0,0,"plain_rows",["book"],["book","rows","deed","answer","name","kind","place","far","number","word","text","led_in","house","door"],J8⟩
noncomputable def B4:T:=.re (.op .Add (.sl (.v 2) .p0 (.p1 (.i 7))) (.tu (.tu (.op .Add (.i 20) (.ca 49 (.v 0^.i 41^.e0))^.i 1^.i 1^.v 3^.e0)^.e0)))>=>.en
noncomputable def B5:T:=.set 3 (.ix (.ll (.i 0^.i 1^.ca 49 (.v 0^.i 100^.e0)^.e0)) (.ca 49 (.v 0^.i 3^.e0)))>=>B4
noncomputable def E7:T:=.set 2 (.ca 66 (.v 0^.v 1^.ix (.ll (.s "all"^.s "place"^.s "talk"^.e0)) (.ca 49 (.v 0^.i 3^.e0))^.e0))>=>B5
noncomputable def E8:T:=.set 1 (.ix (.ll (.s "door"^.s "place"^.s "talk"^.e0)) (.ca 49 (.v 0^.i 3^.e0)))>=>E7
noncomputable def wU:FD:=⟨0,0,"_law_a_form",["bag"],["bag","lending","form","rest"],E8⟩
noncomputable def E4:T:=.re (.tu (.v 1^.v 2^.cp false false ["k"] [(0,"bag")] (.r1 (.i 3)) (.b true) (.op .Add (.i 1) (.ca 49 (.v 1^.i 9999^.e0)))^.e0))>=>.en
noncomputable def E5:T:=.sc 2 false false ["k"] [(0,"bag")] (.r1 (.i 3)) (.b true) (.op .Add (.i 1) (.ca 49 (.v 1^.i 1000000^.e0)))>=>E4
noncomputable def E6:T:=.sc 1 false false ["k"] [(0,"bag")] (.r1 (.i 4)) (.b true) (.tu (.ca 49 (.v 1^.i 100^.e0)^.op .Add (.i 1) (.ca 49 (.v 1^.i 9999^.e0))^.e0))>=>E5
noncomputable def wz:FD:=⟨0,0,"_law_a_world",["bag"],["bag","doors","places"],E6⟩
noncomputable def Bp:T:=.re (.cm .Eq (.ca 21 (.me 20 (.v 3) .e0^.e0)) (.v 7))>=>.en
noncomputable def Bq:T:=.aZ (.cm .NotEq (.cp false false ["one"] [] (.is (.ca 22 (.me 20 (.v 3) .e0^.e0))) (.cm .Eq (.ix (.v 0) (.i 0)) (.s "from")) (.v 0)) (.v 10)) .ra .en>=>Bp
noncomputable def Be:T:=.sc 10 false true ["moment","one"] [] (.is (.v 5)) (.b true) (.op .Add (.op .Add (.tu (.s "from"^.s "note"^.e0)) (.sl (.v 1) .p0 (.p1 (.i 4)))) (.tu (.s "say"^.ix (.v 1) (.i 4)^.e0)))>=>Bq
noncomputable def xF:T:=.aZ (.cm .NotEq (.ca 45 (.me 20 (.v 3) .e0^.v 13^.e0)) (.ca 52 (.v 5^.v 13^.e0))) .ra .en>=>.en
noncomputable def Ko:T:=.fo true [13,14] (.is (.ix (.v 2) (.i 0))) xF>=>Be
noncomputable def Kp:T:=.aZ (.or (.cm .NotEq (.v 6) (.lm .e0)) (.cm .NotEq (.v 4) (.lm .e0))) .ra .en>=>Ko
noncomputable def BE:T:=.ex (.ca 71 (.v 3^.v 4^.op .Add (.me 19 (.v 3) .e0) (.i 20)^.v 6^.e0))>=>Kp
noncomputable def Iz:T:=.ex (.ap (.v 7) (.v 12^.e0))>=>.en
noncomputable def IA:T:=.aZ (.cm .Is (.v 12) .n) .ra .en>=>Iz
noncomputable def IB:T:=.set 12 (.ca 74 (.v 11^.v 3^.v 2^.v 4^.v 5^.e0))>=>IA
noncomputable def IC:T:=.ex (.ca 71 (.v 3^.v 4^.op .Add (.me 19 (.v 3) .e0) (.ca 49 (.v 11^.i 10^.e0))^.v 6^.e0))>=>IB
noncomputable def AZ:T:=.set 11 (.ca 50 (.v 8^.v 9^.e0))>=>IC
noncomputable def BF:T:=.fo false [9] (.r1 (.bf "max" (.i 8^.bf "len" (.v 8^.e0)^.e0))) AZ>=>BE
noncomputable def Es:T:=.set 8 (.op .Add (.sl (.v 0) (.p1 (.i 2)) (.p1 (.i 42))) (.ll (.i 0^.e0)))>=>BF
noncomputable def Et:T:=.set 7 (.lm .e0)>=>Es
noncomputable def Eu:T:=.set 6 (.lm .e0)>=>Et
noncomputable def Ew:T:=.set 5 (.lm .e0)>=>Eu
noncomputable def Ex:T:=.set 4 (.lm .e0)>=>Ew
noncomputable def Ey:T:=.set 3 (.mk 38 (.v 1^.e0))>=>Ex
noncomputable def Ez:T:=.set 2 (.ca 24 (.ca 48 (.ca 47 (.v 0^.i 1^.e0)^.i 0^.e0)^.e0))>=>Ey
noncomputable def EA:T:=.set 1 (.ca 23 (.ca 48 (.ca 47 (.v 0^.i 0^.e0)^.i 0^.e0)^.e0))>=>Ez
noncomputable def rm:FD:=⟨0,0,"law",["script"],["script","form","world","gate","row","plain","wrong","gone","cells","k","due","bag","letter","house","door"],EA⟩
noncomputable def xb:FD:=⟨0,0,"is_word",["kind","thing"],["kind","thing"],.aZ (.cm .Eq (.v 0) (.s "note")) (.re (.ic false (.v 1) "NOTE_WORDS")>=>.en) .en>=>.re (.ic false (.v 1) "LINE_WORDS")>=>.en⟩
noncomputable def xg:FD:=⟨0,0,"is_pool",["low","high"],["low","high"],.re (.an (.ca 2 (.v 0^.e0)) (.an (.ca 2 (.v 1^.e0)) (.ch .LtE .LtE (.v 0) (.v 1) (.op .Add (.v 0) (.g "WIDEST_STEP")))))>=>.en⟩
noncomputable def Ki:T:=.re (.tu (.v 3^.v 4^.v 5^.v 6^.v 7^.e0))>=>.en
noncomputable def Kj:T:=.aZ (.cm .Eq (.v 2) (.s "place")) (.re (.tu (.v 3^.v 4^.v 5^.v 6^.n^.e0))>=>.en) .en>=>Ki
noncomputable def Kk:T:=.aZ (.cm .Eq (.v 2) (.s "door")) (.re (.tu (.v 3^.v 4^.v 5^.n^.n^.e0))>=>.en) .en>=>Kj
noncomputable def Kl:T:=.set 2 (.ix (.v 0) (.i 2))>=>Kk
noncomputable def Km:T:=.un [3,4,5,6,7] (.v 1)>=>Kl
noncomputable def wL:FD:=⟨0,0,"holder_of",["form","inner"],["form","inner","lending","kind","house","door","place","far"],Km⟩
noncomputable def w5:FD:=⟨0,0,"time_of",["form","state"],["form","state","times"],.set 2 (.ix (.v 0) (.i 7))>=>.re (.ix (.v 2) (.tx "TIME_AT" (.v 1)))>=>.en⟩
noncomputable def qK:FD:=⟨0,0,"note_state",["state","word"],["state","word"],.aZ (.an (.cm .Eq (.v 1) (.s "say")) (.or (.cm .Is (.v 0) .n) (.cm .Eq (.v 0) (.s "note")))) (.re (.s "note")>=>.en) .en>=>.re .n>=>.en⟩
noncomputable def t9:FD:=⟨1,1,"has",["self","number"],["self","number"],.re (.ch .LtE .LtE (.fl 1 "low" (.v 0)) (.v 1) (.fl 1 "high" (.v 0)))>=>.en⟩
noncomputable def uc:FD:=⟨1,1,"take",["self","number"],["self","number"],.dp (.fl 1 "taken" (.v 0)) (.v 1) (.b true)>=>.aZ (.dn false (.v 1) (.fl 1 "until" (.v 0))) (.dd (.fl 1 "until" (.v 0)) (.v 1)>=>.en) .en>=>.sf 1 "mark" (.v 0) (.ie (.cm .Eq (.v 1) (.fl 1 "high" (.v 0))) (.fl 1 "low" (.v 0)) (.op .Add (.v 1) (.i 1)))>=>.en⟩
noncomputable def Ef:T:=.sf 3 "numbers" (.v 0) .dt>=>.en
noncomputable def Eg:T:=.sf 3 "holders" (.v 0) .dk>=>Ef
noncomputable def Eh:T:=.sf 3 "by_number" (.v 0) .dk>=>Eg
noncomputable def Ei:T:=.sf 3 "by_inner" (.v 0) .dt>=>Eh
noncomputable def Ej:T:=.sf 3 "now" (.v 0) (.i 0)>=>Ei
noncomputable def Ek:T:=.sf 3 "pool" (.v 0) (.mk 55 (.ix (.v 1) (.i 0)^.ix (.v 1) (.i 1)^.e0))>=>Ej
noncomputable def El:T:=.sf 3 "form" (.v 0) (.v 1)>=>Ek
noncomputable def tj:FD:=⟨2,3,"__init__",["self","form"],["self","form"],El⟩
noncomputable def tV:FD:=⟨1,3,"of_inner",["self","inner"],["self","inner"],.re (.d1 (.fl 3 "by_inner" (.v 0)) (.v 1))>=>.en⟩
noncomputable def tP:FD:=⟨1,3,"number_of",["self","inner"],["self","inner"],.re (.d1 (.fl 3 "numbers" (.v 0)) (.ca 28 (.fl 3 "form" (.v 0)^.v 1^.e0)))>=>.en⟩
noncomputable def tm:FD:=⟨1,3,"held",["self","house"],["self","house"],.re (.cp false true ["number","holder"] [(1,"house")] (.im (.fl 3 "holders" (.v 0))) (.cm .Eq (.ix (.v 1) (.i 1)) (.v 2)) (.v 0))>=>.en⟩
noncomputable def aC:FD:=⟨1,3,"pass_by",["self","ticks"],["self","ticks","ended","talk"],.af 3 "now" (.v 0) (.v 1)>=>.sc 2 false false ["talk"] [(0,"self")] (.is (.me 18 (.v 0) .e0)) (.cm .LtE (.fl 2 "over" (.v 0)) (.fl 3 "now" (.v 1))) (.v 0)>=>.fo false [3] (.is (.sk 2 "over" (.v 2))) (.ex (.me 61 (.v 0) (.v 3^.fl 2 "over" (.v 3)^.e0))>=>.en)>=>.en⟩
noncomputable def EF:T:=.sf 4 "wish" (.v 0) .n>=>.en
noncomputable def EG:T:=.sf 4 "done" (.v 0) (.lm .e0)>=>EF
noncomputable def EH:T:=.sf 4 "strangers" (.v 0) (.mk 16 .e0)>=>EG
noncomputable def EI:T:=.sf 4 "table" (.v 0) (.mk 33 (.v 1^.e0))>=>EH
noncomputable def EJ:T:=.sf 4 "form" (.v 0) (.v 1)>=>EI
noncomputable def EK:T:=.aZ (.no (.ca 15 (.v 1^.e0))) (.ra>=>.en) .en>=>EJ
noncomputable def uh:FD:=⟨2,4,"__init__",["self","form"],["self","form"],EK⟩
noncomputable def ui:FD:=⟨1,4,"deed",["self","deed"],["self","deed","answer"],.aZ (.no (.ca 13 (.v 1^.e0))) (.ra>=>.en) .en>=>.set 2 (.me 62 (.v 0) (.ix (.v 1) (.i 0)^.sl (.v 1) (.p1 (.i 1)) .p0^.e0))>=>.ex (.ap (.fl 4 "done" (.v 0)) (.tu (.v 1^.v 2^.e0)^.e0))>=>.re (.v 2)>=>.en⟩
noncomputable def uf:FD:=⟨1,4,"wait",["self","ticks"],["self","ticks"],.re (.me 39 (.v 0) (.tu (.s "wait"^.v 1^.e0)^.e0))>=>.en⟩
noncomputable def ug:FD:=⟨1,4,"sent",["self","parts"],["self","parts","answer","number","kind","house","door","place","far","word","text"],.un [4,5,6,7,8,9,10] (.v 1)>=>.set 2 (.me 63 (.v 0) (.tu (.v 4^.v 5^.v 6^.v 7^.v 8^.e0)^.v 9^.e0))>=>.aZ (.or (.cm .NotEq (.v 7) (.i 0)) (.cm .Eq (.ix (.v 2) (.i 0)) (.s "kept"))) (.re (.v 2)>=>.en) .en>=>.ra⟩
noncomputable def tQ:FD:=⟨1,4,"picked_for",["self","door"],["self","door","pool","now"],.pr 2 3 (.fl 3 "pool" (.fl 4 "table" (.v 0))^.fl 3 "now" (.fl 4 "table" (.v 0))^.e0)>=>.aZ (.an (.cm .IsNot (.fl 4 "wish" (.v 0)) .n) (.me 56 (.v 2) (.fl 4 "wish" (.v 0)^.v 3^.e0))) (.re (.fl 4 "wish" (.v 0))>=>.en) .en>=>.re (.me 69 (.v 2) (.ix (.fl 4 "form" (.v 0)) (.i 4)^.v 1^.v 3^.e0))>=>.en⟩
noncomputable def sY:FD:=⟨0,0,"got_by_out",["deed","answer"],["deed","answer","name","kind","writer","own_door","place","far","word","text","turned","number","led_in","house","door"],.aZ (.or (.cm .NotEq (.ix (.v 1) (.i 0)) (.s "turned")) (.cm .NotEq (.ix (.ix (.v 1) (.i 2)) (.i 0)) (.s "in"))) (.re .n>=>.en) .en>=>.ra⟩
noncomputable def J9:T:=.re (.tu (.v 10^.ca 76 (.v 3^.v 11^.v 4^.v 5^.v 7^.v 8^.e0)^.e0))>=>.en
noncomputable def Ka:T:=.un [9,10,11] (.v 1)>=>J9
noncomputable def Kb:T:=.un [2,3,4,5,6,7,8] (.v 0)>=>Ka
noncomputable def Kc:T:=.aZ (.cm .NotEq (.ix (.v 1) (.i 0)) (.s "in")) (.re .n>=>.en) .en>=>Kb
noncomputable def tL:FD:=⟨0,0,"got_by_come",["deed","answer"],["deed","answer","name","kind","place","far","number","word","text","led_in","house","door"],Kc⟩
noncomputable def EC:T:=.re (.v 2)>=>.en
noncomputable def m8:T:=.aZ (.ti "GETS" (.ix (.v 3) (.i 0))) (.set 5 (.tx "GETS" (.ix (.v 3) (.i 0)))>=>.set 6 (.cv 5 (.v 3^.v 4^.e0))>=>.aZ (.an (.cm .IsNot (.v 6) .n) (.cm .Eq (.ix (.v 6) (.i 0)) (.v 1))) (.ex (.ap (.v 2) (.ix (.v 6) (.i 1)^.e0))>=>.en) .en>=>.en) .en>=>.en
noncomputable def ED:T:=.fo true [3,4] (.is (.v 0)) m8>=>EC
noncomputable def EE:T:=.set 2 (.lm .e0)>=>ED
noncomputable def yn:FD:=⟨0,0,"got",["book","house"],["book","house","things","deed","answer","got_by","found"],EE⟩
noncomputable def qM:FD:=⟨0,0,"is_led_out",["deed","answer"],["deed","answer"],.re (.an (.cm .Eq (.ix (.v 0) (.i 0)) (.s "out")) (.cm .Eq (.ix (.v 1) (.i 0)) (.s "led")))>=>.en⟩
noncomputable def wQ:FD:=⟨0,0,"_law_cell",["script","k"],["script","k"],.aZ (.cm .Lt (.v 1) (.bf "len" (.v 0^.e0))) (.re (.ix (.v 0) (.v 1))>=>.en) .en>=>.re (.i 0)>=>.en⟩
noncomputable def wN:FD:=⟨0,0,"_law_well",["cell","turn"],["cell","turn"],.aZ (.cm .GtE (.v 0) (.op .Pow (.i 10) (.i 18))) (.re (.lm (.op .Sub (.v 0) (.op .Pow (.i 10) (.i 18))^.op .Mod (.v 0) (.i 2305843009213693951)^.v 1^.e0))>=>.en) .en>=>.re (.lm (.i 0^.op .Mod (.v 0) (.i 2305843009213693951)^.v 1^.e0))>=>.en⟩
noncomputable def qN:FD:=⟨0,0,"_law_take",["bag","many"],["bag","many","p","n","found"],.aZ (.cm .Gt (.ix (.v 0) (.i 0)) (.i 0)) (.set 4 (.op .Mod (.ix (.v 0) (.i 0)) (.v 1))>=>.sp (.v 0) (.i 0) (.op .FloorDiv (.ix (.v 0) (.i 0)) (.v 1))>=>.re (.v 4)>=>.en) .en>=>.sp (.v 0) (.i 2) (.op .Add (.ix (.v 0) (.i 2)) (.i 1))>=>.set 2 (.i 2305843009213693951)>=>.set 3 (.op .Mod (.op .Add (.ix (.v 0) (.i 1)) (.op .Mult (.i 1000003) (.ix (.v 0) (.i 2)))) (.v 2))>=>.set 3 (.op .Mod (.op .Add (.op .Add (.op .Mult (.v 3) (.v 3)) (.op .Mult (.i 7919) (.op .Pow (.ix (.v 0) (.i 2)) (.i 2)))) (.i 5)) (.v 2))>=>.re (.op .Mod (.op .FloorDiv (.op .Mod (.op .Pow (.v 3) (.i 3)) (.v 2)) (.i 13)) (.v 1))>=>.en⟩
noncomputable def wR:FD:=⟨0,0,"_law_bag_at",["cells","k"],["cells","k","bag"],.aZ (.cm .Lt (.v 1) (.bf "len" (.v 0^.e0))) (.re (.ca 48 (.ix (.v 0) (.v 1)^.i 0^.e0))>=>.en) .en>=>.set 2 (.ca 48 (.op .Mod (.ix (.v 0) (.op .Mod (.v 1) (.bf "len" (.v 0^.e0)))) (.op .Pow (.i 10) (.i 18))^.i 0^.e0))>=>.sp (.v 2) (.i 1) (.op .Mod (.op .Add (.op .Add (.ix (.v 2) (.i 1)) (.op .Mult (.op .Mult (.i 7919) (.v 1)) (.v 1))) (.op .Mult (.i 31) (.v 1))) (.i 2305843009213693951))>=>.re (.v 2)>=>.en⟩
noncomputable def E1:T:=.re (.v 2)>=>.en
noncomputable def IE:T:=.ex (.ap (.v 2) (.tu (.v 4^.op .Add (.i 1) (.ca 49 (.v 0^.i 9^.e0))^.e0)^.e0))>=>.en
noncomputable def A6:T:=.set 4 (.op .Add (.op .Add (.op .Add (.op .Add (.sl (.ix (.v 1) (.i 2)) (.p1 (.ng (.i 6))) .p0) (.s "/")) (.bt "str" (.op .Mod (.ix (.v 1) (.i 0)) (.i 7)^.e0))) (.bt "str" (.op .Mod (.ix (.v 1) (.i 1)) (.i 5)^.e0))) (.bt "str" (.v 3^.e0)))>=>IE
noncomputable def E2:T:=.fo false [3] (.r1 (.ix (.ll (.i 1^.i 1^.i 0^.i 2^.e0)) (.ca 49 (.v 0^.i 4^.e0)))) A6>=>E1
noncomputable def E3:T:=.set 2 (.lm .e0)>=>E2
noncomputable def wy:FD:=⟨0,0,"_law_answers",["bag","letter"],["bag","letter","told","turn","text"],E3⟩
noncomputable def wC:FD:=⟨0,0,"_law_plain_got",["plain","house"],["plain","house"],.re (.cp false true ["moment","one"] [(1,"house")] (.is (.v 0)) (.cm .Eq (.ix (.v 1) (.i 0)) (.v 2)) (.op .Add (.op .Add (.tu (.s "got"^.s "note"^.ix (.v 1) (.i 1)^.e0)) (.sl (.v 1) (.p1 (.i 2)) (.p1 (.i 4)))) (.tu (.s "say"^.ix (.v 1) (.i 4)^.e0))))>=>.en⟩
noncomputable def wA:FD:=⟨0,0,"is_whole_within",["thing","least","greatest"],["thing","least","greatest"],.re (.an (.ca 0 (.v 0^.e0)) (.ch .LtE .LtE (.v 1) (.v 0) (.v 2)))>=>.en⟩
noncomputable def wK:FD:=⟨0,0,"is_letter",["kind","word","text"],["kind","word","text"],.re (.an (.ca 6 (.v 0^.e0)) (.an (.ca 26 (.v 0^.v 1^.e0)) (.ca 8 (.v 2^.e0))))>=>.en⟩
noncomputable def ud:FD:=⟨2,1,"__init__",["self","low","high"],["self","low","high"],.sf 1 "low" (.v 0) (.v 1)>=>.sf 1 "high" (.v 0) (.v 2)>=>.sf 1 "mark" (.v 0) (.v 1)>=>.sf 1 "taken" (.v 0) .dk>=>.sf 1 "until" (.v 0) .dk>=>.en⟩
noncomputable def tH:FD:=⟨1,1,"is_free",["self","number","moment"],["self","number","moment"],.aZ (.or (.no (.me 31 (.v 0) (.v 1^.e0))) (.dn false (.v 1) (.fl 1 "taken" (.v 0)))) (.re (.b false)>=>.en) .en>=>.re (.or (.dn true (.v 1) (.fl 1 "until" (.v 0))) (.cm .LtE (.dg (.fl 1 "until" (.v 0)) (.v 1)) (.v 2)))>=>.en⟩
noncomputable def ue:FD:=⟨1,1,"give",["self","number","until"],["self","number","until"],.dd (.fl 1 "taken" (.v 0)) (.v 1)>=>.dp (.fl 1 "until" (.v 0)) (.v 1) (.v 2)>=>.en⟩
noncomputable def Ec:T:=.dp (.fl 3 "numbers" (.v 0)) (.v 3) (.v 1)>=>.en
noncomputable def BO:T:=.dp (.fl 3 "holders" (.v 0)) (.v 1) (.v 3)>=>Ec
noncomputable def Ed:T:=.ex (.me 32 (.fl 3 "pool" (.v 0)) (.v 1^.e0))>=>BO
noncomputable def Ee:T:=.set 3 (.ca 28 (.fl 3 "form" (.v 0)^.v 2^.e0))>=>Ed
noncomputable def sZ:FD:=⟨1,3,"lend",["self","number","inner"],["self","number","inner","holder"],Ee⟩
noncomputable def tf:FD:=⟨1,3,"lead",["self","talk","state"],["self","talk","state"],.aZ (.cm .Eq (.v 2) (.s "shut")) .ra .en>=>.sf 2 "state" (.v 1) (.v 2)>=>.sf 2 "over" (.v 1) (.op .Add (.fl 3 "now" (.v 0)) (.ca 29 (.fl 3 "form" (.v 0)^.v 2^.e0)))>=>.en⟩
noncomputable def tX:FD:=⟨1,3,"end_lend",["self","number","moment"],["self","number","moment"],.dd (.fl 3 "numbers" (.v 0)) (.dg (.fl 3 "holders" (.v 0)) (.v 1))>=>.dd (.fl 3 "holders" (.v 0)) (.v 1)>=>.ex (.me 57 (.fl 3 "pool" (.v 0)) (.v 1^.op .Add (.v 2) (.ix (.ix (.fl 3 "form" (.v 0)) (.i 7)) (.i 3))^.e0))>=>.en⟩
noncomputable def ES:T:=.aZ (.dn false (.v 3) (.fl 3 "holders" (.v 0))) (.ex (.me 60 (.v 0) (.v 3^.v 2^.e0))>=>.en) .en>=>.en
noncomputable def ET:T:=.dd (.fl 3 "by_number" (.v 0)) (.v 3)>=>ES
noncomputable def yT:T:=.aZ (.cm .Gt (.bf "len" (.dg (.fl 3 "by_number" (.v 0)) (.v 3)^.e0)) (.i 0)) (.r0>=>.en) .en>=>ET
noncomputable def EU:T:=.dd (.dg (.fl 3 "by_number" (.v 0)) (.v 3)) (.tu (.v 4^.v 7^.v 8^.e0))>=>yT
noncomputable def EV:T:=.dd (.fl 3 "by_inner" (.v 0)) (.fl 2 "inner" (.v 1))>=>EU
noncomputable def EW:T:=.set 3 (.fl 2 "number" (.v 1))>=>EV
noncomputable def EX:T:=.un [4,5,6,7,8] (.fl 2 "inner" (.v 1))>=>EW
noncomputable def ub:FD:=⟨1,3,"end",["self","talk","moment"],["self","talk","moment","number","kind","house","door","place","far"],EX⟩
noncomputable def DQ:T:=.aZ (.cm .Eq (.v 1) (.s "wait")) (.ex (.me 37 (.fl 4 "table" (.v 0)) (.ix (.v 2) (.i 0)^.e0))>=>.re .n>=>.en) .en>=>.ra
noncomputable def BU:T:=.aZ (.cm .Eq (.v 1) (.s "lost")) .ra .en>=>DQ
noncomputable def BV:T:=.aZ (.cm .Eq (.v 1) (.s "come")) (.un [3,4,5,6,7,8] (.v 2)>=>.re (.me 75 (.v 0) (.v 3^.v 4^.v 5^.v 6^.v 7^.e0))>=>.en) .en>=>BU
noncomputable def yS:T:=.aZ (.cm .Eq (.v 1) (.s "out")) (.re (.me 41 (.v 0) (.v 2^.e0))>=>.en) .en>=>BV
noncomputable def lL:FD:=⟨1,4,"answered",["self","name","parts"],["self","name","parts","kind","place","far","number","word","text"],yS⟩
noncomputable def Em:T:=.re (.tu (.s "led"^.fl 2 "number" (.v 3)^.e0))>=>.en
noncomputable def En:T:=.ex (.me 59 (.fl 4 "table" (.v 0)) (.v 3^.v 4^.e0))>=>Em
noncomputable def BP:T:=.aZ (.cm .Is (.v 3) .n) (.re (.me 64 (.v 0) (.v 1^.v 4^.e0))>=>.en) .en>=>En
noncomputable def BQ:T:=.aZ (.cm .Is (.v 4) .n) .ra .en>=>BP
noncomputable def BR:T:=.set 4 (.ca 68 (.ix (.v 1) (.i 0)^.ie (.cm .Is (.v 3) .n) .n (.fl 2 "state" (.v 3))^.s "house"^.v 2^.e0))>=>BQ
noncomputable def DO:T:=.set 3 (.me 34 (.fl 4 "table" (.v 0)) (.v 1^.e0))>=>BR
noncomputable def tw:FD:=⟨1,4,"lead_out",["self","inner","word"],["self","inner","word","talk","state"],DO⟩
noncomputable def BW:T:=.re (.tu (.s "led"^.v 3^.e0))>=>.en
noncomputable def BX:T:=.ex (.me 70 (.fl 4 "table" (.v 0)) (.v 1^.v 3^.v 2^.e0))>=>BW
noncomputable def BY:T:=.aZ (.cm .Is (.v 3) .n) (.aZ (.cm .GtE (.bf "len" (.me 36 (.fl 4 "table" (.v 0)) (.ix (.v 1) (.i 1)^.e0)^.e0)) (.ix (.fl 4 "form" (.v 0)) (.i 5))) .ra .en>=>.set 3 (.me 42 (.v 0) (.ix (.v 1) (.i 2)^.e0))>=>.aZ (.cm .Is (.v 3) .n) .ra .en>=>.ex (.me 58 (.fl 4 "table" (.v 0)) (.v 3^.v 1^.e0))>=>.en) .en>=>BX
noncomputable def DX:T:=.set 3 (.me 35 (.fl 4 "table" (.v 0)) (.v 1^.e0))>=>BY
noncomputable def tZ:FD:=⟨1,4,"begin_out",["self","inner","state"],["self","inner","state","number"],DX⟩
noncomputable def DR:T:=.re (.tu (.s "in"^.v 6^.v 7^.e0))>=>.en
noncomputable def DS:T:=.aZ (.or (.v 4) (.cm .NotEq (.v 3) (.fl 2 "state" (.v 1)))) (.ex (.me 59 (.fl 4 "table" (.v 0)) (.v 1^.v 3^.e0))>=>.en) .en>=>DR
noncomputable def DT:T:=.set 4 (.ix (.fl 4 "form" (.v 0)) (.i 6))>=>DS
noncomputable def DU:T:=.aZ (.cm .Is (.v 3) .n) .ra .en>=>DT
noncomputable def DV:T:=.set 3 (.ca 68 (.v 5^.fl 2 "state" (.v 1)^.s "far"^.v 2^.e0))>=>DU
noncomputable def DW:T:=.un [5,6,7,8,9] (.fl 2 "inner" (.v 1))>=>DV
noncomputable def tJ:FD:=⟨1,4,"lead_in",["self","talk","word"],["self","talk","word","state","renew","kind","house","door","place","far"],DW⟩
noncomputable def D8:T:=.re (.tu (.v 3^.op .Add (.v 3) (.i 199)^.v 1^.v 2^.v 5^.i 200^.cm .Eq (.ca 49 (.v 0^.i 2^.e0)) (.i 1)^.v 4^.e0))>=>.en
noncomputable def D9:T:=.set 5 (.ix (.ll (.s "next"^.s "keep"^.e0)) (.ca 49 (.v 0^.i 2^.e0)))>=>D8
noncomputable def Ea:T:=.set 4 (.tu (.op .Add (.i 1) (.ca 49 (.v 0^.i 30^.e0))^.op .Add (.i 1) (.ca 49 (.v 0^.i 30^.e0))^.op .Add (.i 1) (.ca 49 (.v 0^.i 30^.e0))^.ca 49 (.v 0^.i 30^.e0)^.e0))>=>D9
noncomputable def Eb:T:=.set 3 (.op .Add (.i 1) (.ca 49 (.v 0^.i 9800^.e0)))>=>Ea
noncomputable def wM:FD:=⟨0,0,"_law_wide",["bag","lending","sieve"],["bag","lending","sieve","low","times","pick"],Eb⟩
noncomputable def BC:T:=.ex (.li (.v 0) (.v 3^.tu (.v 1^.v 2^.e0)^.e0))>=>.en
noncomputable def Ep:T:=.set 3 (.bf "len" (.cp false false ["one"] [(1,"moment")] (.is (.v 0)) (.cm .LtE (.ix (.v 0) (.i 0)) (.v 1)) (.v 0)^.e0))>=>BC
noncomputable def wF:FD:=⟨0,0,"_law_later",["row","moment","thing"],["row","moment","thing","at"],Ep⟩
noncomputable def qL:FD:=⟨0,0,"next_state",["kind","state","side","word"],["kind","state","side","word"],.aZ (.cm .Eq (.v 0) (.s "note")) (.re (.ca 30 (.v 1^.v 3^.e0))>=>.en) .en>=>.ra⟩
noncomputable def tM:FD:=⟨1,1,"picked",["self","pick","door","moment"],["self","pick","door","moment","number"],.aZ (.an (.cm .Eq (.v 1) (.s "keep")) (.me 56 (.v 0) (.v 2^.v 3^.e0))) (.re (.v 2)>=>.en) .en>=>.fo false [4] (.is (.me 17 (.v 0) .e0)) (.aZ (.me 56 (.v 0) (.v 4^.v 3^.e0)) (.re (.v 4)>=>.en) .en>=>.en)>=>.re .n>=>.en⟩
noncomputable def BZ:T:=.dp (.dg (.fl 3 "by_number" (.v 0)) (.v 2)) (.tu (.v 5^.v 8^.v 9^.e0)) (.v 4)>=>.en
noncomputable def B0:T:=.aZ (.dn true (.v 2) (.fl 3 "by_number" (.v 0))) (.dp (.fl 3 "by_number" (.v 0)) (.v 2) .dt>=>.en) .en>=>BZ
noncomputable def B1:T:=.dp (.fl 3 "by_inner" (.v 0)) (.v 1) (.v 4)>=>B0
noncomputable def B2:T:=.set 4 (.mk 72 (.v 1^.v 2^.v 3^.op .Add (.fl 3 "now" (.v 0)) (.ca 29 (.fl 3 "form" (.v 0)^.v 3^.e0))^.e0))>=>B1
noncomputable def B3:T:=.un [5,6,7,8,9] (.v 1)>=>B2
noncomputable def pd:FD:=⟨1,3,"begin",["self","inner","number","state"],["self","inner","number","state","talk","kind","house","door","place","far"],B3⟩
noncomputable def BD:T:=.ex (.me 40 (.v 0) (.op .Sub (.v 2) (.me 19 (.v 0) .e0)^.e0))>=>.en
noncomputable def Iw:T:=.aZ (.cm .NotEq (.ix (.me 39 (.v 0) (.v 5^.e0)) (.i 0)) (.s "in")) .ra .en>=>.en
noncomputable def Iy:T:=.ex (.me 40 (.v 0) (.op .Sub (.v 4) (.me 19 (.v 0) .e0)^.e0))>=>Iw
noncomputable def AY:T:=.un [4,5] (.po (.v 1) (.i 0^.e0))>=>Iy
noncomputable def Er:T:=.wh (.an (.cm .NotEq (.v 1) (.ll .e0)) (.cm .LtE (.ix (.ix (.v 1) (.i 0)) (.i 0)) (.v 2))) AY>=>BD
noncomputable def wx:FD:=⟨0,0,"_law_gone_on",["gate","row","till","wrong"],["gate","row","till","wrong","moment","deed"],Er⟩
noncomputable def pb:FD:=⟨2,2,"__init__",["self","inner","number","state","over"],["self","inner","number","state","over"],.sf 2 "inner" (.v 0) (.v 1)>=>.sf 2 "number" (.v 0) (.v 2)>=>.sf 2 "state" (.v 0) (.v 3)>=>.sf 2 "over" (.v 0) (.v 4)>=>.en⟩
noncomputable def tS:FD:=⟨1,3,"of_outer",["self","kind","number","place","far"],["self","kind","number","place","far"],.aZ (.dn true (.v 2) (.fl 3 "by_number" (.v 0))) (.re .n>=>.en) .en>=>.re (.d1 (.dg (.fl 3 "by_number" (.v 0)) (.v 2)) (.tu (.v 1^.v 3^.v 4^.e0)))>=>.en⟩
noncomputable def vi:T:=.re (.tu (.s "note"^.ix (.v 8) (.i 1)^.v 5^.v 6^.s "say"^.v 7^.e0))>=>.en
noncomputable def xT:T:=.ex (.ca 67 (.v 4^.op .Add (.v 9) (.v 16)^.tu (.v 13^.v 14^.v 5^.v 6^.v 15^.e0)^.e0))>=>.en
noncomputable def pH:T:=.ex (.ca 67 (.v 3^.op .Add (.v 9) (.v 16)^.tu (.s "come"^.s "note"^.v 5^.v 6^.ix (.v 8) (.i 1)^.s "say"^.v 15^.e0)^.e0))>=>xT
noncomputable def yH:T:=.fo true [15,16] (.is (.ca 51 (.v 0^.tu (.v 5^.v 6^.v 7^.e0)^.e0))) pH>=>vi
noncomputable def vj:T:=.set 9 (.op .Add (.op .Add (.me 19 (.v 1) .e0) (.i 1)) (.ca 49 (.v 0^.i 9^.e0)))>=>yH
noncomputable def yI:T:=.aZ (.or (.no (.bf "isinstance" (.v 8^.ty "tuple"^.e0))) (.or (.cm .NotEq (.bf "len" (.v 8^.e0)) (.i 2)) (.cm .NotEq (.ix (.v 8) (.i 0)) (.s "led")))) .ra .en>=>vj
noncomputable def yJ:T:=.set 8 (.me 77 (.v 1) (.s "note"^.v 13^.v 14^.v 5^.v 6^.s "say"^.v 7^.e0))>=>yI
noncomputable def yK:T:=.set 7 (.op .Add (.ix (.ll (.s ""^.s "a"^.s "hello there"^.op .Mult (.s "k") (.i 30)^.e0)) (.ca 49 (.v 0^.i 4^.e0))) (.bt "str" (.ca 49 (.v 0^.i 100^.e0)^.e0)))>=>yJ
noncomputable def yL:T:=.set 6 (.ix (.v 12) (.ca 49 (.v 0^.i 3^.e0)))>=>yK
noncomputable def vk:T:=.set 5 (.ix (.v 11) (.ca 49 (.v 0^.i 3^.e0)))>=>yL
noncomputable def yM:T:=.un [13,14] (.ix (.v 10) (.ca 49 (.v 0^.i 4^.e0)))>=>vk
noncomputable def yN:T:=.un [10,11,12] (.v 2)>=>yM
noncomputable def wD:FD:=⟨0,0,"_law_round",["bag","gate","world","row","plain"],["bag","gate","world","row","plain","place","far","text","found","there","doors","places","fars","house","door","said","road"],yN⟩
noncomputable def EY:T:=.aZ (.cm .IsNot (.v 6) .n) (.re (.me 65 (.v 0) (.v 6^.v 5^.e0))>=>.en) .en>=>.ra
noncomputable def EZ:T:=.set 6 (.me 73 (.fl 4 "table" (.v 0)) (.v 1^.v 4^.v 2^.v 3^.e0))>=>EY
noncomputable def tK:FD:=⟨1,4,"come_in",["self","kind","place","far","number","word"],["self","kind","place","far","number","word","talk"],EZ⟩
noncomputable def wW:FD:=⟨0,0,"letter_got",["kind","door","place","far","word","text"],["kind","door","place","far","word","text"],.re (.tu (.s "got"^.v 0^.v 1^.v 2^.v 3^.v 4^.v 5^.e0))>=>.en⟩
noncomputable def ua:FD:=⟨1,4,"out",["self","kind","house","door","place","far","word","text"],["self","kind","house","door","place","far","word","text"],.re (.me 39 (.v 0) (.tu (.s "out"^.v 1^.v 2^.v 3^.v 4^.v 5^.v 6^.v 7^.e0)^.e0))>=>.en⟩
end
noncomputable def S:SI where
 gi:=[("GREATEST_HOUSE",99),("GREATEST_DOOR",9999),("GREATEST_PLACE",1000000),("GREATEST_TICKS",1000000),("MOST_SIGNS",40),("FIRST_SIGN",32),("LAST_SIGN",126),("PERCENT_SIGN",37),("WIDEST_STEP",199),("GREATEST_MOST",200),("GREATEST_TIME",1000000)]
 gt:=[("KINDS",["note","line"]),("NOTE_WORDS",["say"]),("LINE_WORDS",["open","say","close","break"]),("LENDINGS",["door","place","talk"]),("SIEVES",["all","place","talk"]),("PICKS",["next","keep"])]
 tb:=["DEEDS","TIME_AT","GETS"]
 tt:=[]
 cl:=["Rules","Pool","Talk","Talks","Gate"]
 fs:=[(0,"many_told"),(0,"standing"),(1,"low"),(1,"high"),(1,"mark"),(1,"taken"),(1,"until"),(2,"inner"),(2,"number"),(2,"state"),(2,"over"),(3,"form"),(3,"pool"),(3,"now"),(3,"by_inner"),(3,"by_number"),(3,"holders"),(3,"numbers"),(4,"form"),(4,"table"),(4,"strangers"),(4,"done"),(4,"wish")]
 bl:=["all","bool","int","isinstance","len","list","max","ord","range","sorted","str","tuple"]
 fd:=[xl,xp,xj,xo,wB,xn,xh,xf,xc,uq,uu,ur,xa,xk,xm,xi,tq,tY,tG,tN,uj,xQ,wV,wU,wz,rm,xb,xg,wL,w5,qK,t9,uc,tj,tV,tP,tm,aC,uh,ui,uf,ug,tQ,sY,tL,yn,qM,wQ,wN,qN,wR,wy,wC,wA,wK,ud,tH,ue,sZ,tf,tX,ub,lL,tw,tZ,tJ,wM,wF,qL,tM,pd,wx,pb,tS,wD,tK,wW,ua]
 ln:=aC.N
 lp:=⟨352,38,352,58⟩
 lq:="Talks.pass_by.<locals>.<lambda>"
noncomputable abbrev Sb:Stmt:=top 34
noncomputable abbrev RE:Stmt:=top 59
noncomputable abbrev Qn:Stmt:=top 88
noncomputable abbrev Jr:Stmt:=top 91
noncomputable abbrev QS:Stmt:=inClass (top 75) 8
noncomputable abbrev Qj:Stmt:=inClass (top 75) 15
noncomputable abbrev Qk:Stmt:=top 89
noncomputable abbrev QR:Stmt:=top 85
structure Env where
 tb:Str->bH
 C:Nat->Addr
 cv:List (Addr×Nat)
 lP:Addr:=0
noncomputable def P (e:Env):iD:=⟨S,e.tb,e.C,e.cv,e.lP⟩
noncomputable def rd (Q:aj):RD:={ nx:=λ_ M'=>Q .ao M',rt:=Q }
section
variable {e:Env}{n:Nat}{M:RM}{Q:aj}{σ:aY}{rs:LR}
theorem qwk{y:Str}{N:az}{x:RV}:iK (y::N) (x::rs)=some x::iK N rs:=by unfold iK;rw[List.length_cons,List.length_cons,Nat.add_sub_add_right];rfl
theorem qwi{y:Str}{N:az}:iK (y::N) []=none::iK N []:=rfl
theorem qwj:iK [] []= []:=rfl
theorem Jq{A B C:Prop}(h:A)(k:B=C):(A/\B)=C:=by rw[eq_true h,true_and,k]
theorem qwt:(rd Q).nx σ M=Q .ao M:=rfl
theorem qws:(rd Q).rt=Q:=rfl
theorem qEM{i:Nat}:((P e).Gn n).fn i rs M Q=av (P e) n i rs M Q:=rfl
theorem qxo{i:Nat}:((P e).Gn (n+1)).lz i rs M Q=av (P e) n i rs M Q:=rfl
theorem qEK{x:Str}:((P e).Gn n).tb x=e.tb x:=rfl
theorem qxp:((P e).Gn n).gP=e.cv.map λq=>(q.1,av (P e) n q.2):=rfl
theorem g_C{i:Nat}:((P e).Gn n).C i=e.C i:=rfl
theorem qEL:((P e).Gn n).lP=e.lP:=rfl
theorem us{i:Nat}{d:FD}{rs:LR}(h:S.fd[i]? =some d):av (P e) (n+1) i rs M Q=(rs.length=d.ps.length/\(tr ((P e).Gn n) d.body).S (rd Q) (iK d.N rs) M):=by rw[GS (p:=P e) h];rfl
end
noncomputable def mN (e:Env)(v0 v1:RV):RO:=.ins (e.C 0) [("many_told",v0),("standing",v1)]
noncomputable def dZ (e:Env)(v0 v1 v2 v3 v4:RV):RO:=.ins (e.C 1) [("low",v0),("high",v1),("mark",v2),("taken",v3),("until",v4)]
noncomputable def f9 (e:Env)(v0 v1 v2 v3:RV):RO:=.ins (e.C 2) [("inner",v0),("number",v1),("state",v2),("over",v3)]
noncomputable def bQ (e:Env)(v0 v1 v2 v3 v4 v5 v6:RV):RO:=.ins (e.C 3) [("form",v0),("pool",v1),("now",v2),("by_inner",v3),("by_number",v4),("holders",v5),("numbers",v6)]
noncomputable def bR (e:Env)(v0 v1 v2 v3 v4:RV):RO:=.ins (e.C 4) [("form",v0),("table",v1),("strangers",v2),("done",v3),("wish",v4)]
section
variable {e:Env}{n:Nat}{M:RM}{Q:aj}{σ:aY}{rs:LR}{x:Addr}{y:RV}{N:RM->Prop}{t:bA}{sp:bO}{o a:T}
theorem lI{e:Env}{c:Nat}{f:Str}{v:RV}{fs:List (Str×RV)}(h:fs.lookup f=some v):fO (e.C c) f Q M (some (.ins (e.C c) fs))=Q v M:=by rw[Xe,h];rfl
theorem wI{c:Nat}{f:Str}{fs:List (Str×RV)}(h:Nat.ble (fs.length+1) 1000=true):sO (e.C c) f y N x M (some (.ins (e.C c) fs))=N (put M x (.ins (e.C c) (jy f y fs))):=by rw[VS];exact Jq (Nat.le_of_ble_eq_true h) rfl
theorem mI{c:Nat}{f:Str}{fs:List (Str×RV)}(h:fs.lookup f=none):mO (e.C c) f sp t σ Q x M (some (.ins (e.C c) fs))=t σ M λrs M2=>sp (.ref x::rs) M2 Q:=by rw[Xk];exact Jq h rfl
abbrev lT(e:Env)(c:Nat)(r:RO)(f:Str)(v:RV):Prop:=∀{Q:aj} {M:RM},fO (e.C c) f Q M (some r)=Q v M
abbrev wT(e:Env)(c:Nat)(y:RV)(r r1:RO)(f:Str):Prop:=∀{N:RM->Prop} {x:Addr} {M:RM},sO (e.C c) f y N x M (some r)=N (put M x r1)
abbrev mT(e:Env)(c:Nat)(r:RO)(f:Str):Prop:=∀{sp:bO} {t:bA} {σ:aY} {Q:aj} {x:Addr} {M:RM},mO (e.C c) f sp t σ Q x M (some r)=t σ M λrs M2=>sp (.ref x::rs) M2 Q
abbrev tT(i c:Nat)(f:Str):Prop:=∀{e:Env} {n:Nat} {M:RM} {Q:aj} {σ:aY} {o a:T},(tr ((P e).Gn n) (.me i o a)).E σ M Q=(tr ((P e).Gn n) o).E σ M (oW (e.C c) f (av (P e) n i) (tr ((P e).Gn n) a).A σ Q)
abbrev kT(i c:Nat):Prop:=∀{e:Env} {n:Nat} {M:RM} {Q:aj} {σ:aY} {a:T},(tr ((P e).Gn (n+1)) (.mk i a)).E σ M Q=(tr ((P e).Gn (n+1)) a).A σ M λrs M1=>∀x,M1 x=none->av (P e) n i (.ref x::rs) (put M1 x (.ins (e.C c) [])) λv M2=>v= .ao/\Q (.ref x) M2
abbrev gT(f:Str)(i:Int):Prop:=∀{e:Env} {n:Nat} {M:RM} {Q:aj} {σ:aY},(tr ((P e).Gn n) (.g f)).E σ M Q=Q (.int i) M
abbrev cT(f:Str)(l:az):Prop:=∀{e:Env} {n:Nat} {M:RM} {Q:aj} {σ:aY} {a:T} {neg:Bool},(tr ((P e).Gn n) (.ic neg a f)).E σ M Q=(tr ((P e).Gn n) a).E σ M λx M1=>aA 15 x=true/\Q (.bl (if neg then !inR x (l.map RV.str)else inR x (l.map RV.str))) M1
theorem qdi{v0 v1:RV}:lT e 0 (mN e v0 v1) "many_told" v0:=lI rfl
theorem qc6{v0 v1:RV}:wT e 0 y (mN e v0 v1) (mN e y v1) "many_told":=wI rfl
theorem qdN{v0 v1:RV}:lT e 0 (mN e v0 v1) "standing" v1:=lI rfl
theorem qdz{v0 v1:RV}:wT e 0 y (mN e v0 v1) (mN e v0 y) "standing":=wI rfl
theorem qjG:wT e 0 y (.ins (e.C 0) []) (.ins (e.C 0) [("many_told",y)]) "many_told":=wI rfl
theorem qjF{v0:RV}:wT e 0 y (.ins (e.C 0) [("many_told",v0)]) (mN e v0 y) "standing":=wI rfl
theorem qp7:kT 16 0:=va (d:=tq) rfl
theorem qjr{v0 v1 v2 v3 v4:RV}:lT e 1 (dZ e v0 v1 v2 v3 v4) "low" v0:=lI rfl
theorem qi8{v0 v1 v2 v3 v4:RV}:wT e 1 y (dZ e v0 v1 v2 v3 v4) (dZ e y v1 v2 v3 v4) "low":=wI rfl
theorem qh3{v0 v1 v2 v3 v4:RV}:lT e 1 (dZ e v0 v1 v2 v3 v4) "high" v1:=lI rfl
theorem qhx{v0 v1 v2 v3 v4:RV}:wT e 1 y (dZ e v0 v1 v2 v3 v4) (dZ e v0 y v2 v3 v4) "high":=wI rfl
theorem qh2{v0 v1 v2 v3 v4:RV}:lT e 1 (dZ e v0 v1 v2 v3 v4) "mark" v2:=lI rfl
theorem qhw{v0 v1 v2 v3 v4:RV}:wT e 1 y (dZ e v0 v1 v2 v3 v4) (dZ e v0 v1 y v3 v4) "mark":=wI rfl
theorem qgQ{v0 v1 v2 v3 v4:RV}:lT e 1 (dZ e v0 v1 v2 v3 v4) "taken" v3:=lI rfl
theorem qgg{v0 v1 v2 v3 v4:RV}:wT e 1 y (dZ e v0 v1 v2 v3 v4) (dZ e v0 v1 v2 y v4) "taken":=wI rfl
theorem qgP{v0 v1 v2 v3 v4:RV}:lT e 1 (dZ e v0 v1 v2 v3 v4) "until" v4:=lI rfl
theorem qgf{v0 v1 v2 v3 v4:RV}:wT e 1 y (dZ e v0 v1 v2 v3 v4) (dZ e v0 v1 v2 v3 y) "until":=wI rfl
theorem qlx:wT e 1 y (.ins (e.C 1) []) (.ins (e.C 1) [("low",y)]) "low":=wI rfl
theorem qlw{v0:RV}:wT e 1 y (.ins (e.C 1) [("low",v0)]) (.ins (e.C 1) [("low",v0),("high",y)]) "high":=wI rfl
theorem qlv{v0 v1:RV}:wT e 1 y (.ins (e.C 1) [("low",v0),("high",v1)]) (.ins (e.C 1) [("low",v0),("high",v1),("mark",y)]) "mark":=wI rfl
theorem qlu{v0 v1 v2:RV}:wT e 1 y (.ins (e.C 1) [("low",v0),("high",v1),("mark",v2)]) (.ins (e.C 1) [("low",v0),("high",v1),("mark",v2),("taken",y)]) "taken":=wI rfl
theorem qlt{v0 v1 v2 v3:RV}:wT e 1 y (.ins (e.C 1) [("low",v0),("high",v1),("mark",v2),("taken",v3)]) (dZ e v0 v1 v2 v3 y) "until":=wI rfl
theorem Qh{v0 v1 v2 v3 v4:RV}:mT e 1 (dZ e v0 v1 v2 v3 v4) "from_mark":=mI rfl
theorem qdE:tT 17 1 "from_mark":=cW (d:=tY) rfl
theorem qgI{v0 v1 v2 v3 v4:RV}:mT e 1 (dZ e v0 v1 v2 v3 v4) "has":=mI rfl
theorem qjc:tT 31 1 "has":=cW (d:=t9) rfl
theorem qfF{v0 v1 v2 v3 v4:RV}:mT e 1 (dZ e v0 v1 v2 v3 v4) "take":=mI rfl
theorem qhE:tT 32 1 "take":=cW (d:=uc) rfl
theorem qtt:kT 55 1:=va (d:=ud) rfl
theorem qdJ{v0 v1 v2 v3 v4:RV}:mT e 1 (dZ e v0 v1 v2 v3 v4) "is_free":=mI rfl
theorem qeP:tT 56 1 "is_free":=cW (d:=tH) rfl
theorem qfG{v0 v1 v2 v3 v4:RV}:mT e 1 (dZ e v0 v1 v2 v3 v4) "give":=mI rfl
theorem qhF:tT 57 1 "give":=cW (d:=ue) rfl
theorem qeh{v0 v1 v2 v3 v4:RV}:mT e 1 (dZ e v0 v1 v2 v3 v4) "picked":=mI rfl
theorem qfs:tT 69 1 "picked":=cW (d:=tM) rfl
theorem qgO{v0 v1 v2 v3:RV}:lT e 2 (f9 e v0 v1 v2 v3) "inner" v0:=lI rfl
theorem qge{v0 v1 v2 v3:RV}:wT e 2 y (f9 e v0 v1 v2 v3) (f9 e y v1 v2 v3) "inner":=wI rfl
theorem qfN{v0 v1 v2 v3:RV}:lT e 2 (f9 e v0 v1 v2 v3) "number" v1:=lI rfl
theorem qfp{v0 v1 v2 v3:RV}:wT e 2 y (f9 e v0 v1 v2 v3) (f9 e v0 y v2 v3) "number":=wI rfl
theorem qgN{v0 v1 v2 v3:RV}:lT e 2 (f9 e v0 v1 v2 v3) "state" v2:=lI rfl
theorem qgd{v0 v1 v2 v3:RV}:wT e 2 y (f9 e v0 v1 v2 v3) (f9 e v0 v1 y v3) "state":=wI rfl
theorem qh1{v0 v1 v2 v3:RV}:lT e 2 (f9 e v0 v1 v2 v3) "over" v3:=lI rfl
theorem qhv{v0 v1 v2 v3:RV}:wT e 2 y (f9 e v0 v1 v2 v3) (f9 e v0 v1 v2 y) "over":=wI rfl
theorem qls:wT e 2 y (.ins (e.C 2) []) (.ins (e.C 2) [("inner",y)]) "inner":=wI rfl
theorem qlr{v0:RV}:wT e 2 y (.ins (e.C 2) [("inner",v0)]) (.ins (e.C 2) [("inner",v0),("number",y)]) "number":=wI rfl
theorem qlq{v0 v1:RV}:wT e 2 y (.ins (e.C 2) [("inner",v0),("number",v1)]) (.ins (e.C 2) [("inner",v0),("number",v1),("state",y)]) "state":=wI rfl
theorem qlp{v0 v1 v2:RV}:wT e 2 y (.ins (e.C 2) [("inner",v0),("number",v1),("state",v2)]) (f9 e v0 v1 v2 y) "over":=wI rfl
theorem qts:kT 72 2:=va (d:=pb) rfl
theorem qgM{v0 v1 v2 v3 v4 v5 v6:RV}:lT e 3 (bQ e v0 v1 v2 v3 v4 v5 v6) "form" v0:=lI rfl
theorem qgc{v0 v1 v2 v3 v4 v5 v6:RV}:wT e 3 y (bQ e v0 v1 v2 v3 v4 v5 v6) (bQ e y v1 v2 v3 v4 v5 v6) "form":=wI rfl
theorem qgL{v0 v1 v2 v3 v4 v5 v6:RV}:lT e 3 (bQ e v0 v1 v2 v3 v4 v5 v6) "pool" v1:=lI rfl
theorem qgb{v0 v1 v2 v3 v4 v5 v6:RV}:wT e 3 y (bQ e v0 v1 v2 v3 v4 v5 v6) (bQ e v0 y v2 v3 v4 v5 v6) "pool":=wI rfl
theorem qh0{v0 v1 v2 v3 v4 v5 v6:RV}:lT e 3 (bQ e v0 v1 v2 v3 v4 v5 v6) "now" v2:=lI rfl
theorem qhu{v0 v1 v2 v3 v4 v5 v6:RV}:wT e 3 y (bQ e v0 v1 v2 v3 v4 v5 v6) (bQ e v0 v1 y v3 v4 v5 v6) "now":=wI rfl
theorem qdM{v0 v1 v2 v3 v4 v5 v6:RV}:lT e 3 (bQ e v0 v1 v2 v3 v4 v5 v6) "by_inner" v3:=lI rfl
theorem qdy{v0 v1 v2 v3 v4 v5 v6:RV}:wT e 3 y (bQ e v0 v1 v2 v3 v4 v5 v6) (bQ e v0 v1 v2 y v4 v5 v6) "by_inner":=wI rfl
theorem qdh{v0 v1 v2 v3 v4 v5 v6:RV}:lT e 3 (bQ e v0 v1 v2 v3 v4 v5 v6) "by_number" v4:=lI rfl
theorem qc5{v0 v1 v2 v3 v4 v5 v6:RV}:wT e 3 y (bQ e v0 v1 v2 v3 v4 v5 v6) (bQ e v0 v1 v2 v3 y v5 v6) "by_number":=wI rfl
theorem qep{v0 v1 v2 v3 v4 v5 v6:RV}:lT e 3 (bQ e v0 v1 v2 v3 v4 v5 v6) "holders" v5:=lI rfl
theorem qd0{v0 v1 v2 v3 v4 v5 v6:RV}:wT e 3 y (bQ e v0 v1 v2 v3 v4 v5 v6) (bQ e v0 v1 v2 v3 v4 y v6) "holders":=wI rfl
theorem qeo{v0 v1 v2 v3 v4 v5 v6:RV}:lT e 3 (bQ e v0 v1 v2 v3 v4 v5 v6) "numbers" v6:=lI rfl
theorem qdZ{v0 v1 v2 v3 v4 v5 v6:RV}:wT e 3 y (bQ e v0 v1 v2 v3 v4 v5 v6) (bQ e v0 v1 v2 v3 v4 v5 y) "numbers":=wI rfl
theorem qjE:wT e 3 y (.ins (e.C 3) []) (.ins (e.C 3) [("form",y)]) "form":=wI rfl
theorem qjD{v0:RV}:wT e 3 y (.ins (e.C 3) [("form",v0)]) (.ins (e.C 3) [("form",v0),("pool",y)]) "pool":=wI rfl
theorem qjC{v0 v1:RV}:wT e 3 y (.ins (e.C 3) [("form",v0),("pool",v1)]) (.ins (e.C 3) [("form",v0),("pool",v1),("now",y)]) "now":=wI rfl
theorem qjB{v0 v1 v2:RV}:wT e 3 y (.ins (e.C 3) [("form",v0),("pool",v1),("now",v2)]) (.ins (e.C 3) [("form",v0),("pool",v1),("now",v2),("by_inner",y)]) "by_inner":=wI rfl
theorem qjA{v0 v1 v2 v3:RV}:wT e 3 y (.ins (e.C 3) [("form",v0),("pool",v1),("now",v2),("by_inner",v3)]) (.ins (e.C 3) [("form",v0),("pool",v1),("now",v2),("by_inner",v3),("by_number",y)]) "by_number":=wI rfl
theorem qjz{v0 v1 v2 v3 v4:RV}:wT e 3 y (.ins (e.C 3) [("form",v0),("pool",v1),("now",v2),("by_inner",v3),("by_number",v4)]) (.ins (e.C 3) [("form",v0),("pool",v1),("now",v2),("by_inner",v3),("by_number",v4),("holders",y)]) "holders":=wI rfl
theorem qjy{v0 v1 v2 v3 v4 v5:RV}:wT e 3 y (.ins (e.C 3) [("form",v0),("pool",v1),("now",v2),("by_inner",v3),("by_number",v4),("holders",v5)]) (bQ e v0 v1 v2 v3 v4 v5 y) "numbers":=wI rfl
theorem qdI{v0 v1 v2 v3 v4 v5 v6:RV}:mT e 3 (bQ e v0 v1 v2 v3 v4 v5 v6) "living":=mI rfl
theorem qeO:tT 18 3 "living":=cW (d:=tG) rfl
theorem qp6:kT 33 3:=va (d:=tj) rfl
theorem qcI{v0 v1 v2 v3 v4 v5 v6:RV}:mT e 3 (bQ e v0 v1 v2 v3 v4 v5 v6) "of_inner":=mI rfl
theorem qdC:tT 34 3 "of_inner":=cW (d:=tV) rfl
theorem qcq{v0 v1 v2 v3 v4 v5 v6:RV}:mT e 3 (bQ e v0 v1 v2 v3 v4 v5 v6) "number_of":=mI rfl
theorem qc8:tT 35 3 "number_of":=cW (d:=tP) rfl
theorem qe0{v0 v1 v2 v3 v4 v5 v6:RV}:mT e 3 (bQ e v0 v1 v2 v3 v4 v5 v6) "held":=mI rfl
theorem qgn:tT 36 3 "held":=cW (d:=tm) rfl
theorem qdd{v0 v1 v2 v3 v4 v5 v6:RV}:mT e 3 (bQ e v0 v1 v2 v3 v4 v5 v6) "pass_by":=mI rfl
theorem qd2:tT 37 3 "pass_by":=cW (d:=aC) rfl
theorem qeY{v0 v1 v2 v3 v4 v5 v6:RV}:mT e 3 (bQ e v0 v1 v2 v3 v4 v5 v6) "lend":=mI rfl
theorem qgl:tT 58 3 "lend":=cW (d:=sZ) rfl
theorem qeZ{v0 v1 v2 v3 v4 v5 v6:RV}:mT e 3 (bQ e v0 v1 v2 v3 v4 v5 v6) "lead":=mI rfl
theorem qgm:tT 59 3 "lead":=cW (d:=tf) rfl
theorem qcJ{v0 v1 v2 v3 v4 v5 v6:RV}:mT e 3 (bQ e v0 v1 v2 v3 v4 v5 v6) "end_lend":=mI rfl
theorem qdD:tT 60 3 "end_lend":=cW (d:=tX) rfl
theorem qfE{v0 v1 v2 v3 v4 v5 v6:RV}:mT e 3 (bQ e v0 v1 v2 v3 v4 v5 v6) "end":=mI rfl
theorem qhD:tT 61 3 "end":=cW (d:=ub) rfl
theorem qeg{v0 v1 v2 v3 v4 v5 v6:RV}:mT e 3 (bQ e v0 v1 v2 v3 v4 v5 v6) "begin":=mI rfl
theorem qfr:tT 70 3 "begin":=cW (d:=pd) rfl
theorem qcH{v0 v1 v2 v3 v4 v5 v6:RV}:mT e 3 (bQ e v0 v1 v2 v3 v4 v5 v6) "of_outer":=mI rfl
theorem qdB:tT 73 3 "of_outer":=cW (d:=tS) rfl
theorem qh5{v0 v1 v2 v3 v4:RV}:lT e 4 (bR e v0 v1 v2 v3 v4) "form" v0:=lI rfl
theorem qhz{v0 v1 v2 v3 v4:RV}:wT e 4 y (bR e v0 v1 v2 v3 v4) (bR e y v1 v2 v3 v4) "form":=wI rfl
theorem qgR{v0 v1 v2 v3 v4:RV}:lT e 4 (bR e v0 v1 v2 v3 v4) "table" v1:=lI rfl
theorem qgh{v0 v1 v2 v3 v4:RV}:wT e 4 y (bR e v0 v1 v2 v3 v4) (bR e v0 y v2 v3 v4) "table":=wI rfl
theorem qdO{v0 v1 v2 v3 v4:RV}:lT e 4 (bR e v0 v1 v2 v3 v4) "strangers" v2:=lI rfl
theorem qdA{v0 v1 v2 v3 v4:RV}:wT e 4 y (bR e v0 v1 v2 v3 v4) (bR e v0 v1 y v3 v4) "strangers":=wI rfl
theorem qh6{v0 v1 v2 v3 v4:RV}:lT e 4 (bR e v0 v1 v2 v3 v4) "done" v3:=lI rfl
theorem qhA{v0 v1 v2 v3 v4:RV}:wT e 4 y (bR e v0 v1 v2 v3 v4) (bR e v0 v1 v2 y v4) "done":=wI rfl
theorem qh4{v0 v1 v2 v3 v4:RV}:lT e 4 (bR e v0 v1 v2 v3 v4) "wish" v4:=lI rfl
theorem qhy{v0 v1 v2 v3 v4:RV}:wT e 4 y (bR e v0 v1 v2 v3 v4) (bR e v0 v1 v2 v3 y) "wish":=wI rfl
theorem qlC:wT e 4 y (.ins (e.C 4) []) (.ins (e.C 4) [("form",y)]) "form":=wI rfl
theorem qlB{v0:RV}:wT e 4 y (.ins (e.C 4) [("form",v0)]) (.ins (e.C 4) [("form",v0),("table",y)]) "table":=wI rfl
theorem qlA{v0 v1:RV}:wT e 4 y (.ins (e.C 4) [("form",v0),("table",v1)]) (.ins (e.C 4) [("form",v0),("table",v1),("strangers",y)]) "strangers":=wI rfl
theorem qlz{v0 v1 v2:RV}:wT e 4 y (.ins (e.C 4) [("form",v0),("table",v1),("strangers",v2)]) (.ins (e.C 4) [("form",v0),("table",v1),("strangers",v2),("done",y)]) "done":=wI rfl
theorem qly{v0 v1 v2 v3:RV}:wT e 4 y (.ins (e.C 4) [("form",v0),("table",v1),("strangers",v2),("done",v3)]) (bR e v0 v1 v2 v3 y) "wish":=wI rfl
theorem qei{v0 v1 v2 v3 v4:RV}:mT e 4 (bR e v0 v1 v2 v3 v4) "moment":=mI rfl
theorem qft:tT 19 4 "moment":=cW (d:=tN) rfl
theorem qfK{v0 v1 v2 v3 v4:RV}:mT e 4 (bR e v0 v1 v2 v3 v4) "book":=mI rfl
theorem qhJ:tT 20 4 "book":=cW (d:=uj) rfl
theorem qtu:kT 38 4:=va (d:=uh) rfl
theorem qfJ{v0 v1 v2 v3 v4:RV}:mT e 4 (bR e v0 v1 v2 v3 v4) "deed":=mI rfl
theorem qhI:tT 39 4 "deed":=cW (d:=ui) rfl
theorem qfH{v0 v1 v2 v3 v4:RV}:mT e 4 (bR e v0 v1 v2 v3 v4) "wait":=mI rfl
theorem qhG:tT 40 4 "wait":=cW (d:=uf) rfl
theorem qfI{v0 v1 v2 v3 v4:RV}:mT e 4 (bR e v0 v1 v2 v3 v4) "sent":=mI rfl
theorem qhH:tT 41 4 "sent":=cW (d:=ug) rfl
theorem qcr{v0 v1 v2 v3 v4:RV}:mT e 4 (bR e v0 v1 v2 v3 v4) "picked_for":=mI rfl
theorem qc9:tT 42 4 "picked_for":=cW (d:=tQ) rfl
theorem qdf{v0 v1 v2 v3 v4:RV}:mT e 4 (bR e v0 v1 v2 v3 v4) "answered":=mI rfl
theorem qd4:tT 62 4 "answered":=cW (d:=lL) rfl
theorem qde{v0 v1 v2 v3 v4:RV}:mT e 4 (bR e v0 v1 v2 v3 v4) "lead_out":=mI rfl
theorem qd3:tT 63 4 "lead_out":=cW (d:=tw) rfl
theorem qcK{v0 v1 v2 v3 v4:RV}:mT e 4 (bR e v0 v1 v2 v3 v4) "begin_out":=mI rfl
theorem qdF:tT 64 4 "begin_out":=cW (d:=tZ) rfl
theorem qdK{v0 v1 v2 v3 v4:RV}:mT e 4 (bR e v0 v1 v2 v3 v4) "lead_in":=mI rfl
theorem qeQ:tT 65 4 "lead_in":=cW (d:=tJ) rfl
theorem qdL{v0 v1 v2 v3 v4:RV}:mT e 4 (bR e v0 v1 v2 v3 v4) "come_in":=mI rfl
theorem qeR:tT 75 4 "come_in":=cW (d:=tK) rfl
theorem qgJ{v0 v1 v2 v3 v4:RV}:mT e 4 (bR e v0 v1 v2 v3 v4) "out":=mI rfl
theorem qjd:tT 77 4 "out":=cW (d:=ua) rfl
theorem qdR:gT "GREATEST_HOUSE" 99:=jj rfl
theorem qeB:gT "GREATEST_DOOR" 9999:=jj rfl
theorem qdQ:gT "GREATEST_PLACE" 1000000:=jj rfl
theorem qdP:gT "GREATEST_TICKS" 1000000:=jj rfl
theorem qg9:gT "MOST_SIGNS" 40:=jj rfl
theorem qha:gT "FIRST_SIGN" 32:=jj rfl
theorem qij:gT "LAST_SIGN" 126:=jj rfl
theorem qe3:gT "PERCENT_SIGN" 37:=jj rfl
theorem qfV:gT "WIDEST_STEP" 199:=jj rfl
theorem qeA:gT "GREATEST_MOST" 200:=jj rfl
theorem qez:gT "GREATEST_TIME" 1000000:=jj rfl
theorem qqQ:cT "KINDS" ["note","line"]:=rK rfl
theorem qhl:cT "NOTE_WORDS" ["say"]:=rK rfl
theorem qhm:cT "LINE_WORDS" ["open","say","close","break"]:=rK rfl
theorem qjT:cT "LENDINGS" ["door","place","talk"]:=rK rfl
theorem qnQ:cT "SIEVES" ["all","place","talk"]:=rK rfl
theorem qqP:cT "PICKS" ["next","keep"]:=rK rfl
end
local macro_rules | `(tactic| walk_at "ev") => do
 let f:=fun(t:String)=>(t.splitOn "|").toArray.map fun s=>Lean.mkIdent s.toName
 let a<-(f "qdi|qc6|qdN|qdz|qjG|qjF|qp7|qjr|qi8|qh3|qhx|qh2|qhw|qgQ|qgg|qgP|qgf|qlx|qlw|qlv|qlu|qlt|Qh|qdE|qgI|qjc|qfF|qhE|qtt|qdJ|qeP|qfG|qhF|qeh|qfs|qgO|qge|qfN|qfp|qgN|qgd|qh1|qhv|qls|qlr|qlq|qlp|qts|qgM|qgc|qgL|qgb|qh0|qhu|qdM|qdy|qdh|qc5|qep|qd0|qeo|qdZ|qjE|qjD|qjC|qjB|qjA|qjz|qjy|qdI|qeO|qp6|qcI|qdC|qcq|qc8|qe0|qgn|qdd|qd2|qeY|qgl|qeZ|qgm|qcJ|qdD|qfE|qhD|qeg|qfr|qcH|qdB|qh5|qhz|qgR|qgh|qdO|qdA|qh6|qhA|qh4|qhy|qlC|qlB|qlA|qlz|qly|qei|qft|qfK|qhJ|qtu|qfJ|qhI|qfH|qhG|qfI|qhH|qcr|qc9|qdf|qd4|qde|qd3|qcK|qdF|qdK|qeQ|qdL|qeR|qgJ|qjd|qdR|qeB|qdQ|qdP|qg9|qha|qij|qe3|qfV|qeA|qez|qqQ|qhl|qhm|qjT|qnQ|qqP|qwk|qwi|qwj|qwt|qws|qEM|qxo|g_C|qEL|qEK|qxp|xr|qqg|qqa|qqd|qmt|qoY|qjZ|qqw|qwF|qwE|qxq|qxj|qxC|qqH|qwR|qqL|qtU|qCY|qDr|qqh|qur|bu|VY|qri|T4|qt6|qxG|qC5|qqe|qvs|qvr|pC|qtR|qDR|qqc|qDN|qDT|qEG|Jf|qtv|qEF|WL|qEH|qDl|Bv|qum|qun|qqW|qul|quk|qqT|qqU|qqV|quj|qui|qDQ|qEE|qqs|qqq|qqt|qqr|qqp|qua|vb|Kr|N2|N0|NZ|NY|NX|NW|qCT|qrI|qCV|qp8|qDk|An|qC6|qqf|qDV|qta|qs9|qw2|qw3|qw0|qw1|qo8|qtm|qxg|qxf|qxe|reduceIte|qCW|qFp|qp9|qnq|t_v|t_i|t_s|t_b|t_n|qCS|qC3|qDm|rj|qDn|qtz|T_v|qFw|qFx|qFu|qFy|qFs|qFz|qFv|qFt|qFo|T_b|qFA|qFq|qFr|mV|UA|qDs|qC2|qtx|qC4|qDb|qCU|qC8|qC7|qDe|qDd|qDa|qCX|qC1|qtw|qC0|qDc|qDo|qDq|qDp|qDi|qDg|qDj|qDh|qDf|N5|fj|qDP|qDS|N4|qDO|qDU|SO|N3|f7|Je|qE4|qE5|qE7|qE8|qE6|qqO|qxS|qxR|qxN|qxL|d0").mapM fun s=>`(Lean.Parser.Tactic.simpLemma| ↓$s:ident)
 let b<-(f "List.getElem?_cons_zero|List.getElem?_cons_succ|true_and|Bool.not_true|Bool.not_false|jl|Bool.true_and|Bool.false_and|Bool.and_true|Bool.true_or|Bool.false_or|List.set_cons_zero|List.set_cons_succ|uy|List.length_cons|List.length_nil|cj|qq|List.cons_append|List.nil_append|Option.join_some|Option.isSome_some|Option.isSome_none|br|eF|qmx|Nat.reduceAdd|iy|Int.reduceBEq|beq_self_eq_true|Int.reduceLE|Int.reduceLT|decide_true|decide_false|z_0|qCz|qE3|z_1|qCy|qE2|z_2|qCx|qE1|z_3|qCw|qE0|z_4|qCv|qEZ|z_5|qCu|qEY|z_6|qCt|qEX|z_7|qCs|qEW|z_8|qCr|qEV|z_9|qCq|qEU|and_true").mapM fun s=>`(Lean.Parser.Tactic.simpLemma| $s:ident)
 let c:=a++b
 `(tactic|simp -implicitDefEqProofs only[$c,*])
local macro_rules | `(tactic| walk_at "evs") => do
 let some s<-Lean.Macro.expandMacro? (<-`(tactic|walk_at "ev"))|Lean.Macro.throwUnsupported
 match s with
 | `(tactic|simp -implicitDefEqProofs only[$ls,*])=>`(tactic|simp -implicitDefEqProofs only[*,put_ne,ne_eq,not_false_eq_true,$ls,*])
 |_=>Lean.Macro.throwUnsupported
local macro_rules | `(tactic| walk_at "evl") => do
 let some s<-Lean.Macro.expandMacro? (<-`(tactic|walk_at "ev"))|Lean.Macro.throwUnsupported
 let a<-#["lg","lp","lo","lop","Nat.reduceLT","put_ne","ne_eq","not_false_eq_true"].mapM fun s=>`(Lean.Parser.Tactic.simpLemma| $(Lean.mkIdent s.toName):ident)
 match s with
 | `(tactic|simp -implicitDefEqProofs only[$ls,*])=>
  let c:=a++ls.getElems
  `(tactic|simp -implicitDefEqProofs only[*,$c,*])
 |_=>Lean.Macro.throwUnsupported
local macro_rules | `(tactic| walk_at "z") => `(tactic| (rw [d0, fj]; dsimp only [List.set_cons_zero, List.set_cons_succ]; walk_at "ev"))
section
variable {e:Env}{n:Nat}{M:RM}{Q:aj}
theorem Rq{i:Int}:av (P e) (n+1) 0 [.int i] M Q=Q (.bl true) M:=by
 rw[us (i:=0) (d:=xl) rfl];simp only[xl];walk_at "ev"
theorem mL{i j k:Int}:av (P e) (n+2) 53 [.int i,.int j,.int k] M Q=Q (.bl (decide (j<=i)&&decide (i<=k))) M:=by
 rw[us (i:=53) (d:=wA) rfl];simp only[wA];walk_at "ev";simp only[↓Rq];walk_at "ev";simp only[Kn]
theorem Ru{i:Int}:av (P e) (n+3) 1 [.int i] M Q=Q (.bl (decide (0<=i)&&decide (i<=99))) M:=by
 rw[us (i:=1) (d:=xp) rfl];simp only[xp];walk_at "ev";rw[mL]
theorem wX{i:Int}:av (P e) (n+3) 2 [.int i] M Q=Q (.bl (decide (1<=i)&&decide (i<=9999))) M:=by
 rw[us (i:=2) (d:=xj) rfl];simp only[xj];walk_at "ev";rw[mL]
theorem Rr{i:Int}:av (P e) (n+3) 3 [.int i] M Q=Q (.bl (decide (0<=i)&&decide (i<=1000000))) M:=by
 rw[us (i:=3) (d:=xo) rfl];simp only[xo];walk_at "ev";rw[mL]
theorem Rt{i:Int}:av (P e) (n+3) 4 [.int i] M Q=Q (.bl (decide (1<=i)&&decide (i<=1000000))) M:=by
 rw[us (i:=4) (d:=wB) rfl];simp only[wB];walk_at "ev";rw[mL]
theorem AK{k:Nat}{x:Str}:(aA k (.str x)=true)=True:=by cases k<;>exact eq_true rfl
theorem SF:av (P e) (n+1) 6 [.str "note"] M Q=Q (.bl true) M:=by
 rw[us (i:=6) (d:=xh) rfl];simp only[xh];walk_at "ev";rw[show inR (.str "note") [.str "note",.str "line"]=true by decide+kernel,AK,true_and]
theorem SA:av (P e) (n+1) 26 [.str "note",.str "say"] M Q=Q (.bl true) M:=by
 rw[us (i:=26) (d:=xb) rfl];simp only[xb];walk_at "ev";rw[show inR (.str "say") [.str "say"]=true by decide+kernel,AK,true_and]
theorem gB{M:RM}:dE M:=trivial
def Sg(c:Nat):Prop:=32<=c/\c<=126/\c≠37
structure Tx(x:Str):Prop where
 len:x.cps.toList.length<=40
 sg:∀c∈x.cps.toList,Sg c
theorem SD{c:Nat}(h:Sg c):av (P e) (n+1) 7 [.str ⟨#[c]⟩] M Q=Q (.bl true) M:=by
 obtain⟨h1,h2,h3⟩:=h;have q:av (P e) (n+1) 7 [.str ⟨#[c]⟩] M Q=Q (.bl true) M:=by
  rw[us (i:=7) (d:=xf) rfl];simp only[xf];walk_at "ev";rw[show(#[c]:Array Nat).getD 0 0=c from rfl]
  simp only[show(⟨#[c]⟩:Str).length=1 from rfl,true_and]
  rw[eI (show(32:Int)<=c by omega),eI (show(c:Int)<=126 by omega)]
  walk_at "ev";rw[show(!((c:Int)==37))=true by simp;omega]
 exact q
theorem Si{x:Str}(g:Tx x)(h:Q (.bl true) M):av (P e) (n+2) 8 [.str x] M Q:=by
 rw[us (i:=8) (d:=xc) rfl];simp only[xc];walk_at "ev";have hl:x.length<=40:=by have:=g.len;simpa[Str.length]using this
 rw[ag (by simp;omega)]
 refine⟨bG hl ⋯,by unfold ia;rw[bw];exact jm g.len ⋯,ju (bd:=gh false 1) (λ_=>true) (λ_=>.bl true) gB _ _ (λy hy=>?_) ?_⟩
 . obtain⟨c,hc,rfl⟩:=aW.mp hy
   refine⟨[.str ⟨#[c]⟩],rfl,λK h=>h,λ_ K h=>?_⟩
   show(tr ((P e).Gn (n+1)) _).E [some (.str ⟨#[c]⟩)] _ K;walk_at "ev";rw[SD (g.sg c hc)];exact h
 . rw[List.nil_append,rZ.mpr λ_ _=>rfl]
   show fM "all" [.ls ((ia x).map λ_=>.bl true)] _ _
   rw[show(ia x).map (λ_=>RV.bl true)=((ia x).map λ_=>true).map RV.bl by rw[cE];rfl,Iv]
   rw[show(((ia x).map λ_=>true).all id)=true by simp];exact h
theorem Fl{x:Str}(g:Tx x)(h:Q (.bl true) M):av (P e) (n+3) 54 [.str "note",.str "say",.str x] M Q:=by
 rw[us (i:=54) (d:=wK) rfl];simp only[wK];walk_at "ev";rw[SF,mV,ar rfl,SA,mV,ar rfl];exact Si g h
theorem iN{a b c d:Int}(h1:a<=b)(h2:c<=d):(decide (a<=b)&&decide (c<=d))=true:=by simp[h1,h2]
theorem Tf{a b c d:Int}{x:Str}(l:Tx x)(ha:0<=a/\a<=99)(hb:1<=b/\b<=9999)(hc:0<=c/\c<=1000000)(hd:1<=d/\d<=9999)(h:Q (.bl true) M):av (P e) (n+4) 9 [.tup [.str "note",.int a,.int b,.int c,.int d,.str "say",.str x]] M Q:=by
 rw[us (i:=9) (d:=uq) rfl];simp only[uq];walk_at "ev";simp only[↓Ru,↓wX,↓Rr,↓mV,iN ha.1 ha.2,iN hb.1 hb.2,iN hc.1 hc.2,iN hd.1 hd.2,↓reduceIte];exact Fl l h
theorem Sz{x:Str}{r:LR}:av (P e) (n+1) 12 [.tup (.str x::r)] M Q=Q (.str x) M:=by
 rw[us (i:=12) (d:=xa) rfl];simp only[xa];walk_at "ev";simp only[Xm,jl,↓reduceIte]
def Dd(e:Env)(x:Str)(i:Nat):Prop:=∃a,dm (e.tb "DEEDS") (.inr x)=some (.ref a)/\(a,i)∈e.cv
noncomputable def Gg (e:Env)(x:Str)(i:Nat):Prop:=∃a,dm (e.tb "GETS") (.inr x)=some (.ref a)/\(a,i)∈e.cv
structure Tb(e:Env):Prop where
 out:Dd e "out" 9
 come:Dd e "come" 10
 wait:Dd e "wait" 11
 t0:dm (e.tb "TIME_AT") (.inr "note")=some (.int 0)
 g0:Gg e "out" 43
 g1:Gg e "come" 44
 g2:dm (e.tb "GETS") (.inr "wait")=none
theorem AQ{x:Str}{i:Nat}{ps:LR}(d:Dd e x i)(h:av (P e) (n+4) i [.tup ps] M Q):av (P e) (n+5) 13 [.tup (.str x::ps)] M Q:=by
 rw[us (i:=13) (d:=xk) rfl];simp only[xk];walk_at "ev";rw[Sz];walk_at "ev";obtain⟨f,h1,h2⟩:=d;rw[h1,xr,An,ag (by simp)]
 refine⟨_,aW.mpr ⟨_,h2,rfl⟩,?_⟩;walk_at "ev";rw[BH];exact h
theorem Sk{a b c:Int}{x:Str}(l:Tx x)(ha:1<=a/\a<=1000000)(hb:1<=b/\b<=9999)(hc:1<=c/\c<=9999)(h:Q (.bl true) M):av (P e) (n+4) 10 [.tup [.str "note",.int a,.int b,.int c,.str "say",.str x]] M Q:=by
 rw[us (i:=10) (d:=uu) rfl];simp only[uu];walk_at "ev";simp only[↓Rt,↓wX,↓mV,iN ha.1 ha.2,iN hb.1 hb.2,iN hc.1 hc.2,↓reduceIte];exact Fl l h
theorem Sh{k:Int}(h1:0<=k)(h2:k<=1000000)(h:Q (.bl true) M):av (P e) (n+4) 11 [.tup [.int k]] M Q:=by
 rw[us (i:=11) (d:=ur) rfl];simp only[ur];walk_at "ev";rw[us (i:=5) (d:=xn) rfl];simp only[xn];walk_at "ev";rw[mL];simp only[h1,h2,decide_true,Bool.and_true];exact h
theorem Xf(tb:Tb e){l h le si pi mo re:RV}{t0 t1 t2 t3:Int}:av (P e) (n+1) 29 [.tup [l,h,le,si,pi,mo,re,.tup [.int t0,.int t1,.int t2,.int t3]],.str "note"] M Q=Q (.int t0) M:=by
 rw[us (i:=29) (d:=w5) rfl];simp only[w5];walk_at "ev";rw[tb.t0];walk_at "ev"
theorem ZJ{sd:Str}:av (P e) (n+2) 68 [.str "note",.ao,.str sd,.str "say"] M Q=Q (.str "note") M:=by
 rw[us (i:=68) (d:=qL) rfl];simp only[qL];walk_at "ev";rw[us (i:=30) (d:=qK) rfl];simp only[qK];walk_at "ev"
theorem JU{sd:Str}:av (P e) (n+2) 68 [.str "note",.str "note",.str sd,.str "say"] M Q=Q (.str "note") M:=by
 rw[us (i:=68) (d:=qL) rfl];simp only[qL];walk_at "ev";rw[us (i:=30) (d:=qK) rfl];simp only[qK];walk_at "ev"
theorem TL{lend:Str}{l h si pi mo re ti ki ho do_ pl fa:RV}:av (P e) (n+1) 28 [.tup [l,h,.str lend,si,pi,mo,re,ti],.tup [ki,ho,do_,pl,fa]] M Q=
 Q (if lend= "door" then .tup [ki,ho,do_,.ao,.ao]else if lend= "place" then .tup [ki,ho,do_,pl,.ao]else .tup [ki,ho,do_,pl,fa]) M:=by
 rw[us (i:=28) (d:=wL) rfl];simp only[wL];unfold Km;walk_at "ev";unfold Kl;walk_at "ev";unfold Kk;walk_at "ev";simp only[eX]
 by_cases h1:lend= "door"
 . rw[ar h1,ar h1]
 . rw[ag h1,ag h1]
   unfold Kj;walk_at "ev";simp only[eX]
   by_cases h2:lend= "place"
   . rw[ar h2,ar h2]
   . rw[ag h2,ag h2]
     unfold Ki;walk_at "ev"
theorem SE{l h:Int}(h1:1<=l)(h2:l<=h)(h3:h<=9999)(h4:h<=l+199):av (P e) (n+4) 27 [.int l,.int h] M Q=Q (.bl true) M:=by
 rw[us (i:=27) (d:=xg) rfl];simp only[xg];walk_at "ev";rw[wX,iN h1 ∅,mV,ar rfl,wX,iN ∅ h3,mV,ar rfl]
 rw[eI h2,eI h4];rfl
theorem RI{a b c d:Int}(ha:1<=a/\a<=1000000)(hb:1<=b/\b<=1000000)(hc:1<=c/\c<=1000000)(hd:0<=d/\d<=1000000)(h:Q (.bl true) M):av (P e) (n+3) 14 [.tup [.int a,.int b,.int c,.int d]] M Q:=by
 rw[us (i:=14) (d:=xm) rfl];simp only[xm];walk_at "ev";rw[show fF [RV.int a,RV.int b,RV.int c,RV.int d] none (some 3)= [RV.int a,RV.int b,RV.int c]from rfl]
 refine⟨(by decide:3<sizeLine),ju (bd:=gh false 1) (λ_=>true) (λ_=>.bl true) gB _ _ (λx hx=>⟨[x],rfl,λK h=>h,λ_ K h=>?_⟩) ?_⟩
 . have:∃i:Int,x= .int i/\1<=i/\i<=1000000:=by
    simp only[cx,iC,or_false]at hx;rcases hx with rfl|rfl|rfl
    . exact⟨a,rfl,ha⟩
    . exact⟨b,rfl,hb⟩
    . exact⟨c,rfl,hc⟩
   obtain⟨i,rfl,h1,h2⟩:=this;walk_at "ev";rw[mL,iN h1 h2];exact h
 . refine(Iv (bs:=[true,true,true])).mpr ?_
   show wj _ Q (.bl true) M;rw[mV,ar rfl,mL,iN hd.1 hd.2];exact h
theorem UD{x:Str}(h:x= "door"∨x= "place"∨x= "talk"):inR (.str x) [.str "door",.str "place",.str "talk"]=true:=by rcases h with rfl|rfl|rfl<;>decide+kernel
theorem S6{x:Str}(h:x= "all"∨x= "place"∨x= "talk"):inR (.str x) [.str "all",.str "place",.str "talk"]=true:=by rcases h with rfl|rfl|rfl<;>decide+kernel
theorem UM{x:Str}(h:x= "next"∨x= "keep"):inR (.str x) [.str "next",.str "keep"]=true:=by rcases h with rfl|rfl<;>decide+kernel
structure Fm where
 low:Int
 high:Int
 lend:Str
 sieve:Str
 pick:Str
 most:Int
 renew:Bool
 t0:Int
 t1:Int
 t2:Int
 t3:Int
noncomputable def Fm.times (f:Fm):RV:=.tup [.int f.t0,.int f.t1,.int f.t2,.int f.t3]
noncomputable def Fm.r (f:Fm):RV:=.tup [.int f.low,.int f.high,.str f.lend,.str f.sieve,.str f.pick,.int f.most,.bl f.renew,f.times]
structure Fm.Ok(f:Fm):Prop where
 lo:1<=f.low
 le:f.low<=f.high
 hi:f.high<=9999
 wide:f.high<=f.low+199
 lend:f.lend= "door"∨f.lend= "place"∨f.lend= "talk"
 sieve:f.sieve= "all"∨f.sieve= "place"∨f.sieve= "talk"
 pick:f.pick= "next"∨f.pick= "keep"
 most:1<=f.most/\f.most<=200
 t0:1<=f.t0/\f.t0<=1000000
 t1:1<=f.t1/\f.t1<=1000000
 t2:1<=f.t2/\f.t2<=1000000
 t3:0<=f.t3/\f.t3<=1000000
theorem Sj{f:Fm}(ok:f.Ok)(h:Q (.bl true) M):av (P e) (n+5) 15 [f.r] M Q:=by
 unfold Fm.r;rw[us (i:=15) (d:=xi) rfl];simp only[xi];unfold D7;walk_at "ev";unfold D6;walk_at "ev";unfold D5;walk_at "ev";simp only[UD ok.lend,S6 ok.sieve,UM ok.pick,AK,↓reduceIte,Bool.not_true,jl,true_and];unfold D4;walk_at "ev";rw[mL,iN ok.most.1 ok.most.2];walk_at "ev";unfold D3;walk_at "ev";rw[SE ok.lo ok.le ok.hi ok.wide,mV,ar rfl];exact RI ok.t0 ok.t1 ok.t2 ok.t3 h
end
section
variable {M:RM}
theorem ig{x a:Addr}{o:RO}(hx:M x=none)(h:M a=some o):a≠x:=λz=>by
 rw[z,hx]at h;cases h
theorem Gz{x a:Addr}{o:RO}(h:put M a o x=none):M x=none/\x≠a:=by
 unfold put at h
 by_cases z:x=a
 . rw[ar z]at h;cases h
 . rw[ag z]at h;exact⟨h,z⟩
theorem qQ{a b:Addr}{o o':RO}(h:a≠b):put (put M a o) b o'=put (put M b o') a o:=by
 funext c;unfold put
 by_cases z1:c=b
 . rw[ar z1,ag (by rw[z1];exactλz=>h z.symm),ar z1]
 . rw[ag z1,ag z1]
end
section
noncomputable def lay (ad:Nat->Addr):Nat->List RO->RM->RM
 |_,[],M=>M
 |k,o::r,M=>put (lay ad (k+1) r M) (ad k) o
def Ij(ad:Nat->Addr)(n:Nat):Prop:=∀i j,i<n->j<n->ad i=ad j->i=j
variable {ad:Nat->Addr}{M:RM}{os:List RO}{o:RO}{i k:Nat}{x:Addr}
theorem Ha:∀{os k i},Ij ad (k+os.length)->i<os.length->lay ad k os M (ad (k+i))=os[i]?
 |o::r,k,0,_,_=>br
 |o::r,k,i+1,H,h=>by
  have h:i<r.length:=Nat.lt_of_succ_lt_succ h;have e1:k+(i+1)=k+1+i:=by omega
  have H':Ij ad (k+1+r.length):=by rw[List.length_cons]at H;rwa [show k+1+r.length=k+(r.length+1) by omega]
  rw[e1];refine(put_ne λz=>?_).trans ((Ha H' h).trans rfl)
  have:=H' _ _ ∅ ∅ z
  omega
theorem GZ:∀{os k i},Ij ad (k+os.length)->i<os.length->put (lay ad k os M) (ad (k+i)) o=lay ad k (os.set i o) M
 |_::r,k,0,_,_=>eF
 |u::r,k,i+1,H,h=>by
  have h:i<r.length:=Nat.lt_of_succ_lt_succ h;have e1:k+(i+1)=k+1+i:=by omega
  have H':Ij ad (k+1+r.length):=by rw[List.length_cons]at H;rwa [show k+1+r.length=k+(r.length+1) by omega]
  rw[e1];show put (put (lay ad (k+1) r M) (ad k) u) (ad (k+1+i)) o=put (lay ad (k+1) (r.set i o) M) (ad k) u;rw[qQ λz=>by have:=H' _ _ ∅ ∅ z;omega,GZ H' h]
theorem IU:∀{os k},(∀i,i<os.length->ad (k+i)≠x)->lay ad k os M x=M x
 | [],_,_=>rfl
 |o::r,k,h=>(put_ne (bC (h 0 (Nat.succ_pos _)))).trans (IU λi hi=>by
  have:=h (i+1) (Nat.succ_lt_succ hi)
  rwa [show k+1+i=k+(i+1) by omega])
noncomputable abbrev laid (ad:Nat->Addr) (os:List RO) (M:RM):RM:=lay ad 0 os M
theorem lg(H:Ij ad os.length)(h:i<os.length):lay ad 0 os M (ad i)=os[i]?:=by
 have:=Ha (M:=M) (k:=0) (i:=i) (by rwa [iy]) h
 rwa [iy]at this
theorem lp(H:Ij ad os.length)(h:i<os.length):put (lay ad 0 os M) (ad i) o=lay ad 0 (os.set i o) M:=by
 have:=GZ (M:=M) (o:=o) (k:=0) (i:=i) (by rwa [iy]) h
 rwa [iy]at this
theorem AJ{ad':Nat->Addr}:∀{os k},(∀j,j<k+os.length->ad j=ad' j)->lay ad k os M=lay ad' k os M
 | [],_,_=>rfl
 |o::r,k,h=>by
  show put (lay ad (k+1) r M) (ad k) o=put (lay ad' (k+1) r M) (ad' k) o;rw[AJ (os:=r) (k:=k+1) λj hj=>h j (by rw[List.length_cons];omega),h k (by rw[List.length_cons];omega)]
theorem mQ{o:RO}:∀{os k},lay ad k (os++ [o]) M=lay ad k os (put M (ad (k+os.length)) o)
 | [],_=>rfl
 |u::r,k=>by
  show put (lay ad (k+1) (r++ [o]) M) (ad k) u=put (lay ad (k+1) r (put M (ad (k+(r.length+1))) o)) (ad k) u;rw[mQ,show k+1+r.length=k+(r.length+1) by omega]
theorem AA{o:RO}:∀{os k},(∀i,i<os.length->ad (k+i)≠x)->put (lay ad k os M) x o=lay ad k os (put M x o)
 | [],_,_=>rfl
 |u::r,k,h=>by
  show put (put (lay ad (k+1) r M) (ad k) u) x o=put (lay ad (k+1) r (put M x o)) (ad k) u;rw[qQ (a:=ad k) (h 0 (Nat.succ_pos _)),AA λi hi=>by
   have:=h (i+1) (Nat.succ_lt_succ hi)
   rwa [show k+1+i=k+(i+1) by omega]]
theorem Am:∀{os k},lay ad k os M x=none->M x=none
 | [],_,h=>h
 |_::_,_,h=>Am (Gz h).1
theorem IV(H:Ij ad os.length)(h:i<os.length):∃u,lay ad 0 os M (ad i)=some u:=⟨os[i],by rw[lg H h];simp[h]⟩
theorem NJ{k:Nat}(H:Ij ad k)(hl:os.length=k)(hx:lay ad 0 os M x=none):∃ad',(∀j,j<k->ad j=ad' j)/\ad' k=x/\Ij ad' (k+1)/\∀o,put (lay ad 0 os M) x o=lay ad' 0 (os++ [o]) M:=by
 subst hl;have ne:∀j,j<os.length->ad j≠x:=λj hj z=>by
  obtain⟨u,hu⟩:=IV (M:=M) H hj;rw[z,hx]at hu;cases hu
 have a1:∀j,j<os.length->ad j=(λj=>if j=os.length then x else ad j) j:=λj hj=>by
  show _=if j=os.length then x else ad j
  rw[ag ∅]
 have a2:(λj=>if j=os.length then x else ad j) os.length=x:=ar rfl
 refine⟨λj=>if j=os.length then x else ad j,a1,a2,λi j hi hj z=>?_,λo=>?_⟩
 . dsimp only at z
   by_cases p:i=os.length<;>by_cases q:j=os.length
   . omega
   . rw[ar p,ag q]at z;exact bp z.symm (ne j ∅)
   . rw[ag p,ar q]at z;exact bp z (ne i ∅)
   . rw[ag p,ag q]at z;exact H i j ∅ ∅ z
 . rw[mQ,iy,ar rfl,AA λj hj=>by rw[iy];exact ne j hj]
   exact AJ λj hj=>a1 j ∅
end
section
variable {κ κ' β:Type}[DecidableEq κ][DecidableEq κ']{g:κ->κ'}{v:β->RV}
noncomputable def enc (g:κ->κ')(v:β->RV)(l:List (κ×β)):List (κ'×RV):=l.map λx=>(g x.1,v x.2)
theorem pI(hg:∀a b,g a=g b->a=b){k:κ}:∀{l:List (κ×β)},lk (enc g v l) (g k)=(lk l k).map v
 | []=>rfl
 |(j,x)::r=>by
  show lk ((g j,v x)::enc g v r) (g k)=_;rw[iI,iI]
  by_cases h:j=k
  . rw[ar h,ar (by rw[h])];rfl
  . rw[ag h,ag (λz=>h (hg _ _ z))];exact pI hg
theorem mZ(hg:∀a b,g a=g b->a=b){k:κ}{y:β}{l:List (κ×β)}:pt (enc g v l) (g k) (v y)=enc g v (pt l k y):=by
 have e1:((enc g v l).any λkv=>decide (kv.1=g k))=(l.any λkv=>decide (kv.1=k)):=by
  unfold enc;rw[List.any_map];congr 1;funext x;exact vD.mpr ⟨λz=>hg _ _ z,λz=>by show g x.1=g k;rw[z]⟩
 unfold pt;rw[e1];split
 . unfold enc
   rw[cE,cE];refine vF λx _=>?_
   show(if g x.1=g k then(g x.1,v y)else(g x.1,v x.2))=(g (if x.1=k then(x.1,y)else x).1,v (if x.1=k then(x.1,y)else x).2)
   by_cases h:x.1=k
   . rw[ar h,ar (by rw[h])]
   . rw[ag h,ag (λz=>h (hg _ _ z))]
 . unfold enc;rw[eQ];rfl
theorem pE(hg:∀a b,g a=g b->a=b){k:κ}{l:List (κ×β)}:dr (enc g v l) (g k)=enc g v (dr l k):=by
 unfold dr enc;rw[List.filter_map];congr 2;funext x;exact vD.mpr ⟨λz q=>z (by rw[<-q]),λz q=>z (hg _ _ q)⟩
theorem HB{l:List (κ×β)}{k:κ}(h:lk l k=none):dr l k=l:=by
 unfold dr;refine rZ.mpr λx hx=>?_
 unfold lk at h;rw[Option.map_eq_none_iff,ze]at h;have:=h x hx;simpa using this
theorem i7{l:List (κ×β)}:(enc g v l).length=l.length:=by simp[enc]
theorem We{l:List (κ×β)}{k:κ}{y:β}:(pt l k y).length<=l.length+1:=by
 unfold pt;split<;>simp
theorem q8{l:List (κ×β)}{k:κ}{y:β}(h:lk l k=none):pt l k y=l++ [(k,y)]:=by
 unfold pt;rw[ag];intro z;obtain⟨x,hx,e⟩:=List.any_eq_true.mp z;unfold lk at h;rw[Option.map_eq_none_iff,ze]at h;exact h x hx e
theorem iP(a b:Int)(h:(Sum.inl a:Key)= .inl b):a=b:=Sum.inl.inj h
theorem lV(a b:TK)(h:id a=id b):a=b:=h
end
section
variable {e:Env}{n:Nat}{M:RM}{Q:aj}
structure aE where
 low:Int
 high:Int
 mark:Int
 taken:List (Int×Unit)
 qe:List (Int×Int)
noncomputable def eT (l:List (Int×Unit)):bH:=enc Sum.inl (λ_=>.bl true) l
noncomputable def eU (l:List (Int×Int)):bH:=enc Sum.inl RV.int l
structure xU(e:Env)(M:RM)(a ta un:Addr)(p:aE):Prop where
 o:M a=some (dZ e (.int p.low) (.int p.high) (.int p.mark) (.ref ta) (.ref un))
 t:M ta=some (.dk (eT p.taken))
 u:M un=some (.dk (eU p.qe))
noncomputable def aE.has (p:aE)(i:Int):Bool:=decide (p.low<=i)&&decide (i<=p.high)
noncomputable def aE.free (p:aE)(i m:Int):Bool:=p.has i&& !(lk p.taken i).isSome&&(match lk p.qe i with|none=>true|some u=>decide (u<=m))
theorem J1{l:List (Int×Unit)}{i:Int}:(lk (eT l) (.inl i)).isSome=(lk l i).isSome:=by
 unfold eT;rw[pI iP];simp
theorem J0{l:List (Int×Int)}{i:Int}:lk (eU l) (.inl i)=(lk l i).map RV.int:=pI iP
theorem ZK{a:Addr}{l h i:Int}{mk ta un:RV}(o:M a=some (dZ e (.int l) (.int h) mk ta un)):av (P e) (n+1) 31 [.ref a,.int i] M Q=Q (.bl (decide (l<=i)&&decide (i<=h))) M:=by
 rw[us (i:=31) (d:=t9) rfl];simp only[t9];walk_at "ev";rw[o];walk_at "ev";rw[o];walk_at "ev";exact Kn
theorem Ga{a ta un:Addr}{p:aE}{i m:Int}(h:xU e M a ta un p):av (P e) (n+2) 56 [.ref a,.int i,.int m] M Q=Q (.bl (p.free i m)) M:=by
 obtain⟨ho,ht,hu⟩:=h;rw[us (i:=56) (d:=tH) rfl];simp only[tH];walk_at "evs";rw[ZK ho];walk_at "evs";rw[J1,J0];unfold aE.free aE.has;cases(decide (p.low<=i)&&decide (i<=p.high))<;>cases(lk p.taken i).isSome<;>cases lk p.qe i<;>simp[wO,UA,eE]<;>rfl
noncomputable def aE.line (p:aE):List Int:=(List.range (p.high+1-p.mark).toNat).map (λ(i:Nat)=>p.mark+(i:Int))++(List.range (p.mark-p.low).toNat).map λ(i:Nat)=>p.low+(i:Int)
structure aE.Ok(p:aE):Prop where
 lo:1<=p.low
 mlo:p.low<=p.mark
 mhi:p.mark<=p.high
 hi:p.high<=9999
 wide:p.high<=p.low+199
theorem GD{a:Int}{k:Nat}:xx a k=((List.range k).map λ(i:Nat)=>a+(i:Int)).map RV.int:=by unfold xx;rw[cE];rfl
theorem Ud(p:aE)(ok:p.Ok):p.line.length<=200:=by
 obtain⟨o1,o2,o3,o4,o5⟩:=ok;unfold aE.line;simp;omega
theorem Rj{a ta un:Addr}{p:aE}(ok:p.Ok)(h:xU e M a ta un p)(hq:Q (.ls (p.line.map RV.int)) M):av (P e) (n+1) 17 [.ref a] M Q:=by
 have hl:=Ud p ok;obtain⟨ho,ht,hu⟩:=h;obtain⟨o1,o2,o3,o4,o5⟩:=ok;rw[us (i:=17) (d:=tY) rfl];simp only[tY];walk_at "evs";rw[GD,GD,<-eQ];refine⟨∅,∅,∅,∅,?_,hq⟩
 unfold aE.line at hl;simp only[bw,cN]at hl ⊢;exact bG hl ⋯
noncomputable def aE.pick (p:aE)(keep:Bool)(door m:Int):Option Int:=if(keep&&p.free door m)=true then some door else p.line.find? λi=>p.free i m
noncomputable def pV:Option Int->RV
 |some i=>.int i
 |none=>.ao
theorem Te{a ta un:Addr}{p:aE}{pick:Str}{d m:Int}(ok:p.Ok)(h:xU e M a ta un p)(hq:Q (pV (p.pick (pick== "keep") d m)) M):av (P e) (n+3) 69 [.ref a,.str pick,.int d,.int m] M Q:=by
 obtain⟨ho,ht,hu⟩:=id h;have rest:∀(xs:List Int) (z:Option RV),Q (pV (xs.find? λi=>p.free i m)) M->gG (jh 4) (tr ((P e).Gn (n+2)) (.se (.aZ (.me 56 (.v 0) (.ec (.v 4) (.ec (.v 3) .e0))) (.se (.re (.v 4)) .en) .en) .en)).S
  { nx:=(tr ((P e).Gn (n+2)) (.se (.re .n) .en)).S (rd Q),rt:=Q,bk:=(rd Q).bk,ct:=(rd Q).ct } dE id (xs.map RV.int) [some (.ref a),some (.str pick),some (.int d),some (.int m),z] M:=by
  intro xs
  induction xs with
  |nil=>intro z hq;refine⟨gB,?_⟩;show Q .ao M;exact hq
  |cons x xs ih=>
   intro z hq;refine⟨gB,?_⟩;unfold jh;walk_at "evs";rw[Ga h,rj];rw[jk]at hq;cases e1:p.free x m with
   |true=>rw[e1]at hq;rw[ar rfl];first|exact hq|exact And.intro gB hq
   |false=>rw[e1]at hq;rw[ag (by simp)];exact ih _ hq
 have tail:Q (pV (p.line.find? λi=>p.free i m)) M->av (P e) (n+2) 17 [.ref a] M (kS λxs ok un M1=>gG (jh 4) (tr ((P e).Gn (n+2)) (.se (.aZ (.me 56 (.v 0) (.ec (.v 4) (.ec (.v 3) .e0))) (.se (.re (.v 4)) .en) .en) .en)).S
  { nx:=(tr ((P e).Gn (n+2)) (.se (.re .n) .en)).S (rd Q),rt:=Q,bk:=(rd Q).bk,ct:=(rd Q).ct } ok un xs [some (.ref a),some (.str pick),some (.int d),some (.int m),none] M1):=λhq=>Rj ok h (rest _ _ hq)
 rw[us (i:=69) (d:=tM) rfl];simp only[tM];walk_at "evs";unfold aE.pick at hq;cases e1:(pick== "keep")with
 |false=>
  rw[e1]at hq;simp only[Bool.false_and,jl,↓reduceIte]at hq ⊢;exact tail hq
 |true=>
  rw[e1]at hq;simp only[Bool.true_and,↓reduceIte]at hq ⊢;rw[Ga h,rj];cases e2:p.free d m with
  |true=>rw[e2]at hq;rw[ar rfl];exact hq
  |false=>
   rw[e2]at hq;simp only[jl,↓reduceIte]at hq ⊢;rw[ho,Qh];exact tail hq
theorem lM{a:Addr}{o:RO}(h:M a=some o):put M a o=M:=by
 funext b;unfold put;by_cases z:b=a
 . rw[ar z,z,h]
 . rw[ag z]
end
section
theorem JZ{κ β:Type}[DecidableEq κ]{l:List (κ×β)}{k:κ}{y:β}:lk (pt l k y) k=some y:=by
 induction l with
 |nil=>show lk [(k,y)] k=_;rw[iI,ar rfl]
 |cons x r ih=>
  obtain⟨j,z⟩:=x;unfold pt at ih ⊢;rw[nO]
  by_cases h:j=k
  . rw[ar (by simp[h])]
    show lk ((if(j,z).1=k then((j,z).1,y)else(j,z))::_) k=_
    rw[ar h,iI,ar h]
  . rw[show(decide ((j,z).1=k)||r.any λkv=>decide (kv.1=k))=r.any λkv=>decide (kv.1=k) by simp[h]]
    split
    . rename_i h2
      rw[ar h2]at ih;show lk ((if(j,z).1=k then((j,z).1,y)else(j,z))::_) k=_
      rw[ag h,iI,ag h];exact ih
    . rename_i h2
      rw[ag h2]at ih;show lk ((j,z)::(r++ [(k,y)])) k=_;rw[iI,ag h];exact ih
theorem AI{κ β:Type}[DecidableEq κ]{k:κ}:∀{l:List (κ×β)},(lk l k).isSome=decide (k∈l.map (·.1))
 | []=>by simp[lk]
 |(j,y)::l=>by
  rw[iI]
  by_cases h:j=k
  . rw[ar h];simp[h]
  . rw[ag h,AI (l:=l)]
    simp[bC h]
theorem uM{κ β:Type}[DecidableEq κ]:∀{l:List (κ×β)} {x:κ×β},(l.map (·.1)).Nodup->x∈l->lk l x.1=some x.2
 |(j,y)::l,x,nd,hx=>by
  rw[iI];rw[cj,fV]at nd;rcases cx.mp hx with rfl|hx
  . rw[ar rfl]
  . have nd1:j∉l.map (·.1):=nd.1
    rw[ag (λ(z:j=x.1)=>nd1 (by rw[z];exact zb (f:=(·.1)) hx)),uM nd.2 hx]
theorem gC{α β:Type}{g:α->β}:∀{l:List α} {a b:α},(l.map g).Nodup->a∈l->b∈l->g a=g b->a=b
 |z::l,a,b,nd,ha,hb,h=>by
  rw[cj,fV]at nd;rcases cx.mp ha with z1|ha<;>rcases cx.mp hb with z2|hb
  . rw[z1,z2]
  . exact bp (aW.mpr ⟨b,hb,by rw[<-h,z1]⟩) nd.1
  . exact bp (aW.mpr ⟨a,ha,by rw[h,z2]⟩) nd.1
  . exact gC nd.2 ha hb h
theorem bh{κ β:Type}[DecidableEq κ]{l:List (κ×β)}{k:κ}:lk l k=none↔k∉l.map (·.1):=by
 have:=AI (l:=l) (k:=k);cases e:lk l k with
 |none=>rw[e]at this;simpa using this.symm
 |some y=>rw[e]at this;simpa using this.symm
theorem jc{κ β:Type}[DecidableEq κ]{k:κ}{y:β}:∀{l:List (κ×β)},lk l k=some y->(k,y)∈l
 |(j,z)::l,h=>by
  rw[iI]at h
  by_cases q:j=k
  . rw[ar q]at h;cases h;rw[q];exact .head _
  . rw[ag q]at h;exact .tail _ (jc h)
theorem IT{κ β:Type}[DecidableEq κ]{k:κ}:∀{l:List (κ×β)} {r:List (κ×β)},lk (l++r) k=match lk l k with|some y=>some y|none=>lk r k
 | [],r=>rfl
 |(j,y)::l,r=>by
  show lk ((j,y)::(l++r)) k=_;rw[iI,iI]
  by_cases h:j=k
  . rw[ar h,ar h]
  . rw[ag h,ag h];exact IT
theorem qP{α:Type}{l:List α}{a:α}(h:l.Nodup)(ha:a∉l):(l++ [a]).Nodup:=by
 rw[List.nodup_append];refine⟨h,by simp,λx hx y hy=>?_⟩
 cases iT.mp hy;exactλz=>ha (z ▸ hx)
theorem xS{κ β γ:Type}[DecidableEq κ]{κ':Type}[DecidableEq κ']{g:β->κ'}{h:β->γ}{l:List β}{k:κ'}:dr (l.map λx=>(g x,h x)) k=(l.filter λx=>decide (g x≠k)).map λx=>(g x,h x):=by
 unfold dr;rw[List.filter_map];rfl
theorem xY{κ β:Type}[DecidableEq κ]{l:List (κ×β)}{k:κ}(h:k∈l.map (·.1)):(lk l k).isSome=true:=by
 cases q:lk l k with
 |none=>exact bp h (bh.mp q)
 |some _=>rfl
theorem t7{α β:Type}{g:α->β}{l:List α}{p:α->Bool}(h:(l.map g).Nodup):((l.filter p).map g).Nodup:=h.sublist (List.filter_sublist.map _)
theorem Fn{α β:Type}{g:α->β}:∀{l':List β} {l:List α},l'.Perm (l.map g)->∃l2:List α,l2.Perm l/\l2.map g=l'
 | [],l,h=>by
  have:l= []:=by simpa using h.nil_eq
  exact⟨[],by rw[this],rfl⟩
 |b::l',l,h=>by
  obtain⟨a,ha,rfl⟩:=aW.mp (h.mem_iff.mp (.head _));obtain⟨s,t,rfl⟩:=List.append_of_mem ha;have h2:l'.Perm ((s++t).map g):=by
   refine List.Perm.cons_inv (a:=g a) (h.trans ?_);rw[eQ,cj,eQ];exact List.perm_middle
  obtain⟨l2,p2,rfl⟩:=Fn h2;exact⟨a::l2,(p2.cons a).trans List.perm_middle.symm,rfl⟩
theorem sub_len:∀{l r:List Int},l.Nodup->(∀x∈l,x∈r)->l.length<=r.length
 | [],_,_,_=>qj _
 |x::l,r,nd,h=>by
  rw[fV]at nd;have h1:=sub_len (l:=l) (r:=r.erase x) nd.2 λy hy=>(List.mem_erase_of_ne (a:=y) (b:=x) (λ(z:y=x)=>nd.1 (z ▸ hy))).mpr (h y (.tail _ hy))
  have h2:=List.length_erase_of_mem (h x (.head _));have h3:=List.length_pos_of_mem (h x (.head _));rw[List.length_cons];omega
theorem Yv{a:Int}{n:Nat}:((List.range n).map λ(j:Nat)=>a+(j:Int)).Nodup:=by
 rw[List.nodup_iff_pairwise_ne,List.pairwise_map];refine List.nodup_range.imp λh z=>h ?_
 omega
end
section
structure bV where
 house:Int
 door:Int
 place:Int
 far:Int
noncomputable def bV.k (i:bV):TK:=[some (.inr "note"),some (.inl i.house),some (.inl i.door),some (.inl i.place),some (.inl i.far)]
noncomputable def bV.r (i:bV):RV:=.tup [.str "note",.int i.house,.int i.door,.int i.place,.int i.far]
noncomputable def oK (p f:Int):TK:=[some (.inr "note"),some (.inl p),some (.inl f)]
noncomputable abbrev bB (i:bV):TK:=oK i.place i.far
noncomputable def bx (f:Fm)(i:bV):TK:=if f.lend= "door" then [some (.inr "note"),some (.inl i.house),some (.inl i.door),none,none]else if f.lend= "place" then [some (.inr "note"),some (.inl i.house),some (.inl i.door),some (.inl i.place),none]else i.k
theorem Hg:∀(k:TK),rN (k.map oR)=some k
 | []=>rfl
 |x::r=>by
  have e1:yy (oR x)=some x:=by cases x with|none=>rfl|some k=>cases k<;>rfl
  show(match yy (oR x),rN (r.map oR)with|some k,some ks=>some (k::ks)|_,_=>none)=_
  rw[e1,Hg r]
theorem Ag(k:TK):gf (mi k)=some k:=Hg k
variable {e:Env}{n:Nat}{M:RM}{Q:aj}{ad:Nat->Addr}{f:Fm}{i j:bV}{now mk ov u m:Int}{st sr:RV}{ds:LR}{os:List RO}{o:RO}{x:Addr}
theorem Fh:av (P e) (n+1) 28 [f.r,i.r] M Q=Q (mi (bx f i)) M:=by
 unfold Fm.r bV.r bx;rw[TL]
 by_cases h1:f.lend= "door"
 . rw[ar h1,ar h1];rfl
 . rw[ag h1,ag h1]
   by_cases h2:f.lend= "place"
   . rw[ar h2,ar h2];rfl
   . rw[ag h2,ag h2];rfl
def Of(ad:Nat->Addr)(n:Nat)(x:Addr):Prop:=∀j,j<n->ad j≠x
theorem lo(h:Of ad os.length x):lay ad 0 os M x=M x:=IU λi hi=>by rw[iy];exact h i hi
theorem lop(h:Of ad os.length x):put (lay ad 0 os M) x o=lay ad 0 os (put M x o):=AA λi hi=>by rw[iy];exact h i hi
theorem of_none{k:Nat}(H:Ij ad k)(hl:os.length=k)(hx:lay ad 0 os M x=none):Of ad k x/\M x=none:=by
 subst hl;refine⟨λj hj z=>?_,Am hx⟩
 obtain⟨u,hu⟩:=IV (M:=M) H hj;rw[z,hx]at hu;cases hu
noncomputable abbrev cG (e:Env) (ad:Nat->Addr) (f:Fm):RO:=bR e f.r (.ref (ad 1)) (.ref (ad 10)) (.ref (ad 9)) .ao
noncomputable abbrev cA (e:Env) (ad:Nat->Addr) (f:Fm) (now:Int):RO:=bQ e f.r (.ref (ad 2)) (.int now) (.ref (ad 5)) (.ref (ad 6)) (.ref (ad 7)) (.ref (ad 8))
noncomputable abbrev cP (e:Env) (ad:Nat->Addr) (f:Fm) (mk:Int):RO:=dZ e (.int f.low) (.int f.high) (.int mk) (.ref (ad 3)) (.ref (ad 4))
noncomputable abbrev cR (e:Env) (ad:Nat->Addr):RO:=mN e (.int 0) (.ref (ad 11))
noncomputable def eA (l:List (TK×Addr)):List (TK×RV):=enc id RV.ref l
noncomputable def eB (l:List (Int×Addr)):bH:=enc Sum.inl RV.ref l
noncomputable def eH (l:List (Int×TK)):bH:=enc Sum.inl mi l
noncomputable def eN (l:List (TK×Int)):List (TK×RV):=enc id RV.int l
theorem yk{l:List (TK×Addr)}{k:TK}:lk (eA l) k=(lk l k).map RV.ref:=pI (g:=id) lV
theorem pQ{l:List (Int×Addr)}{i:Int}:lk (eB l) (.inl i)=(lk l i).map RV.ref:=pI iP
theorem J2{l:List (TK×Int)}{k:TK}:lk (eN l) k=(lk l k).map RV.int:=pI (g:=id) lV
theorem Zy{l:List (Int×TK)}{i:Int}:lk (eH l) (.inl i)=(lk l i).map mi:=pI iP
noncomputable def yw:Option Addr->RV
 |some a=>.ref a
 |none=>.ao
theorem WA{a:Addr}:yw (some a)= .ref a:=rfl
theorem WB:yw none= .ao:=rfl
theorem IQ{a:Int}:pV (some a)= .int a:=rfl
theorem Wz:pV none= .ao:=rfl
structure Cn where
 now:Int
 mr:Int
 T:List (Int×Unit)
 U:List (Int×Int)
 B:List (TK×Addr)
 N:List (Int×Addr)
 H:List (Int×TK)
 K:List (TK×Int)
 ds:LR
noncomputable abbrev LG (e:Env) (ad:Nat->Addr) (f:Fm) (c:Cn) (M:RM):RM:=laid ad [cG e ad f,cA e ad f c.now,cP e ad f c.mr,.dk (eT c.T),.dk (eU c.U),.dt (eA c.B),.dk (eB c.N),.dk (eH c.H),.dt (eN c.K),.lst c.ds,cR e ad,.dk []] M
variable {c:Cn}
theorem O7:gf i.r=some i.k:=rfl
theorem Cw:cw i.r (.int 0) M Q=Q (.str "note") M:=bu.trans (by rw[vb];rfl)
theorem Np:cw i.r (.int 1) M Q=Q (.int i.house) M:=bu.trans (by rw[Kr];rfl)
theorem Nq:cw i.r (.int 2) M Q=Q (.int i.door) M:=bu.trans (by rw[N2];rfl)
theorem Nh:cw f.r (.int 0) M Q=Q (.int f.low) M:=bu.trans (by rw[vb];rfl)
theorem Ni:cw f.r (.int 1) M Q=Q (.int f.high) M:=bu.trans (by rw[Kr];rfl)
theorem Nj:cw f.r (.int 4) M Q=Q (.str f.pick) M:=bu.trans (by rw[NZ];rfl)
theorem Nk:cw f.r (.int 5) M Q=Q (.int f.most) M:=bu.trans (by rw[NY];rfl)
theorem Nl:cw f.r (.int 6) M Q=Q (.bl f.renew) M:=bu.trans (by rw[NX];rfl)
theorem Nm:cw f.r (.int 7) M Q=Q f.times M:=bu.trans (by rw[NW];rfl)
theorem Pd:cw f.times (.int 3) M Q=Q (.int f.t3) M:=bu.trans (by rw[N0];rfl)
theorem Rp(H:Ij ad 12):av (P e) (n+1) 34 [.ref (ad 1),i.r] (LG e ad f c M) Q=Q (yw (lk c.B i.k)) (LG e ad f c M):=by
 rw[us (i:=34) (d:=tV) rfl];simp only[tV];walk_at "evl";rw[Bn O7,yk];cases lk c.B i.k<;>rfl
theorem Rh{p q:Int}{b:Addr}{D:List (TK×Addr)}(H:Ij ad 12)(h:lk c.N m=some b)(ob:Of ad 12 b)(hb:M b=some (.dt (eA D))):av (P e) (n+1) 73 [.ref (ad 1),.str "note",.int m,.int p,.int q] (LG e ad f c M) Q=Q (yw (lk D (oK p q))) (LG e ad f c M):=by
 have h1:lk (eB c.N) (.inl m)=some (.ref b):=by rw[pQ,h];rfl
 rw[us (i:=73) (d:=tS) rfl];simp only[tS];walk_at "evl";rw[Bn (show _=some (oK p q)from rfl),yk];cases lk D (oK p q)<;>rfl
theorem Ri(H:Ij ad 12):av (P e) (n+2) 35 [.ref (ad 1),i.r] (LG e ad f c M) Q=Q (pV (lk c.K (bx f i))) (LG e ad f c M):=by
 rw[us (i:=35) (d:=tP) rfl];simp only[tP];walk_at "evl";rw[Fh];walk_at "evl";rw[Bn (Ag _),J2];cases lk c.K (bx f i)<;>rfl
end
section
variable {e:Env}{n:Nat}{M:RM}{Q:aj}{ad:Nat->Addr}{f:Fm}{i j:bV}{c:Cn}{now mk ov u m mo:Int}{ds:LR}{st s1 wd:Str}{b x y:Addr}{D:List (TK×Addr)}
noncomputable def CA (h:Int):RV->Bool
 | .tup [_,.tup (_::.int j::_)]=>j==h
 |_=>false
noncomputable def Cz:RV->RV
 | .tup [k,_]=>k
 |_=>.ao
theorem WM{h:Int}(Hj:Ij ad 12)(hh:∀x∈c.H,∃k j r,x.2=k::some (.inl j)::r)(hl:c.H.length<1000)(hq:∀l:LR,l.length<=c.H.length->Q (.ls l) (LG e ad f c M)):
 av (P e) (n+1) 36 [.ref (ad 1),.int h] (LG e ad f c M) Q:=by
 have hb:LG e ad f c M (ad 7)=some (.dk (eH c.H)):=lg Hj (Nat.le_of_ble_eq_true rfl);rw[us (i:=36) (d:=tm) rfl];simp only[tm];walk_at "evl";unfold rO;simp only[hb];refine⟨by unfold i4 eH;rw[bw,i7];exact d8 hl ⋯,ju (CA h) Cz br _ _ (λx hx=>?_) ?_⟩
 . obtain⟨y0,hy0,rfl⟩:=aW.mp hx
   obtain⟨y,hy,rfl⟩:=aW.mp hy0;obtain⟨k,j,r,e1⟩:=hh y hy;have e2:mi y.2= .tup (oR k::.int j::r.map oR):=by rw[e1];rfl
   show ∃bs,gh true 2 (.tup [.int y.1,mi y.2])=some bs/\_;rw[e2];refine⟨_,rfl,λK hK=>?_,λ_ K hK=>?_⟩
   . walk_at "ev";exact hK
   . walk_at "ev";exact hK
 . show Q (.ls (([]++((i4 (eH c.H)).filter (CA h)).map Cz))) (put (put _ (ad 7) (.fk (eH c.H))) (ad 7) (.dk (eH c.H)))
   rw[eF,lM hb,List.nil_append];refine hq _ ?_;rw[bw];refine bG (jF _ _) ?_;unfold i4 eH;rw[bw,i7];exact aS _
noncomputable def pS (f:Fm)(c:Cn):aE:=⟨f.low,f.high,c.mr,c.T,c.U⟩
theorem YF(H:Ij ad 12):xU e (LG e ad f c M) (ad 2) (ad 3) (ad 4) (pS f c):=⟨lg H (Nat.le_of_ble_eq_true rfl),lg H (Nat.le_of_ble_eq_true rfl),lg H (Nat.le_of_ble_eq_true rfl)⟩
theorem QE(H:Ij ad 12)(ok:(pS f c).Ok)(hq:Q (pV ((pS f c).pick (f.pick== "keep") m c.now)) (LG e ad f c M)):av (P e) (n+4) 42 [.ref (ad 0),.int m] (LG e ad f c M) Q:=by
 rw[us (i:=42) (d:=tQ) rfl];simp only[tQ];walk_at "evl";rw[Nj];exact Te ok (YF H) hq
noncomputable def nm (f:Fm)(m:Int):Int:=if m=f.high then f.low else m+1
noncomputable def Cn.g8 (c:Cn)(f:Fm)(i:bV)(m:Int):Cn:={ c with mr:=nm f m,T:=pt c.T m (),U:=dr c.U m,H:=pt c.H m (bx f i),K:=pt c.K (bx f i) m }
theorem WK(H:Ij ad 12)(l1:c.T.length<1000)(l2:c.H.length<1000)(l3:c.K.length<1000)(hq:Q .ao (LG e ad f (c.g8 f i m) M)):
 av (P e) (n+2) 58 [.ref (ad 1),.int m,i.r] (LG e ad f c M) Q:=by
 have e1:dr (eU c.U) (Sum.inl m)=eU (dr c.U m):=pE iP;have e2:pt (eT c.T) (Sum.inl m) (RV.bl true)=eT (pt c.T m ()):=mZ (v:=λ_:Unit=>RV.bl true) iP (y:=())
 have e3:pt (eH c.H) (Sum.inl m) (mi (bx f i))=eH (pt c.H m (bx f i)):=mZ iP;have e4:pt (eN c.K) (bx f i) (RV.int m)=eN (pt c.K (bx f i) m):=mZ (g:=id) lV;have q1:(eT c.T).length<sizeLine:=by unfold eT;rw[i7];exact d8 l1 ⋯
 have q2:(eH c.H).length<sizeLine:=by unfold eH;rw[i7];exact d8 l2 ⋯
 have q3:(eN c.K).length<sizeLine:=by unfold eN;rw[i7];exact d8 l3 ⋯
 rw[us (i:=58) (d:=sZ) rfl];simp only[sZ];unfold Ee;walk_at "evl";rw[Fh];unfold Ed;walk_at "evl";rw[us (i:=32) (d:=uc) rfl];simp only[uc];walk_at "evl";rw[J0];unfold Cn.g8 nm at hq;have fin:∀U',U'=dr c.U m->∀k,k=(if m=f.high then f.low else m+1)->(tr ((P e).Gn (n+1)) BO).S (rd Q) [some (.ref (ad 1)),some (.int m),some i.r,some (mi (bx f i))] (LG e ad f { c with mr:=k,T:=pt c.T m (),U:=U' } M):=λU' h1 k h2=>by
  subst h1;subst h2;unfold BO;walk_at "evl";unfold Ec;walk_at "evl";rw[uQ (Ag _),e4];refine⟨q3,?_⟩;rw[N5,lp H (Nat.le_of_ble_eq_true rfl)];exact hq
 clear hq e3 e4;cases e3:lk c.U m with
 |none=>
  rw[ag (by simp)]
  by_cases z:m=f.high
  . have q:=fin _ (HB e3).symm _ (ar z).symm
    rw[ar (by simpa using z)];clear z fin;walk_at "evl"
  . have q:=fin _ (HB e3).symm _ (ag z).symm
    rw[ag (by simpa using z)];clear z fin;walk_at "evl"
 |some v=>
  rw[ar (by simp)]
  refine⟨rfl,?_⟩
  by_cases z:m=f.high
  . have q:=fin _ rfl _ (ar z).symm
    rw[ar (by simpa using z)];clear z fin;walk_at "evl"
  . have q:=fin _ rfl _ (ag z).symm
    rw[ag (by simpa using z)];clear z fin;walk_at "evl"
theorem Bi(tb:Tb e):av (P e) (n+1) 29 [f.r,.str "note"] M Q=Q (.int f.t0) M:=by
 unfold Fm.r Fm.times;exact Xf tb
noncomputable def Cn.b0 (c:Cn)(i:bV)(m:Int)(x y:Addr):Cn:={ c with B:=pt c.B i.k x,N:=pt c.N m y }
noncomputable def Cn.b1 (c:Cn)(i:bV)(x:Addr):Cn:={ c with B:=pt c.B i.k x }
noncomputable abbrev iu (e:Env) (i:bV) (m ov:Int):RO:=f9 e i.r (.int m) (.str "note") (.int ov)
theorem Th(tb:Tb e)(Hj:Ij ad 12)(l1:c.B.length<1000)(l2:c.N.length<1000)(hN:lk c.N m=none)
 (hq:∀x y,M x=none->Of ad 12 x->M y=none->Of ad 12 y->x≠y->Q .ao (LG e ad f (c.b0 i m x y) (put (put M x (iu e i m (c.now+f.t0))) y (.dt (eA [(bB i,x)]))))):
 av (P e) (n+3) 70 [.ref (ad 1),i.r,.int m,.str "note"] (LG e ad f c M) Q:=by
 have q1:(eA c.B).length<sizeLine:=by unfold eA;rw[i7];exact d8 l1 ⋯
 have q2:(eB c.N).length<sizeLine:=by unfold eB;rw[i7];exact d8 l2 ⋯
 have e5:lk (eB c.N) (.inl m)=none:=by rw[pQ,hN];rfl
 rw[us (i:=70) (d:=pd) rfl];simp only[pd];rw[show i.r= .tup [.str "note",.int i.house,.int i.door,.int i.place,.int i.far]from rfl];unfold B3;walk_at "evl"
 unfold B2;walk_at "evl";rw[Bi tb,f7];intro x hx;obtain⟨o1,m1⟩:=of_none Hj rfl hx;rw[us (i:=72) (d:=pb) rfl];simp only[pb];walk_at "evl";unfold B1;walk_at "evl";have e1:pt (eA c.B) i.k (.ref x)=eA (pt c.B i.k x):=mZ (g:=id) lV;rw[uQ (show _=some i.k from rfl),e1]
 refine⟨q1,?_⟩;unfold B0;walk_at "evl";intro y hy;obtain⟨o2,m2⟩:=of_none Hj rfl hy;obtain⟨m3,ne⟩:=Gz m2;have ne:x≠y:=λz=>ne z.symm
 have e2:pt (eB c.N) (.inl m) (.ref y)=eB (pt c.N m y):=mZ iP;have hq:=hq x y m1 o1 m3 o2 ne;have e6:lk (eB (pt c.N m y)) (.inl m)=some (.ref y):=by rw[pQ,JZ];rfl
 walk_at "evl";unfold BZ;walk_at "evl";rw[uQ (show _=some (bB i)from rfl)]
 refine⟨⋯,?_⟩
 walk_at "evl";exact hq
theorem Tg(tb:Tb e)(Hj:Ij ad 12)(l1:c.B.length<1000)(l2:D.length<1000)(hN:lk c.N m=some b)(ob:Of ad 12 b)(hb:M b=some (.dt (eA D)))
 (hq:∀x,M x=none->Of ad 12 x->x≠b->Q .ao (LG e ad f (c.b1 i x) (put (put M x (iu e i m (c.now+f.t0))) b (.dt (eA (pt D (bB i) x)))))):
 av (P e) (n+3) 70 [.ref (ad 1),i.r,.int m,.str "note"] (LG e ad f c M) Q:=by
 have q1:(eA c.B).length<sizeLine:=by unfold eA;rw[i7];exact d8 l1 ⋯
 have q2:(eA D).length<sizeLine:=by unfold eA;rw[i7];exact d8 l2 ⋯
 have e5:lk (eB c.N) (.inl m)=some (.ref b):=by rw[pQ,hN];rfl
 rw[us (i:=70) (d:=pd) rfl];simp only[pd];rw[show i.r= .tup [.str "note",.int i.house,.int i.door,.int i.place,.int i.far]from rfl];unfold B3;walk_at "evl"
 unfold B2;walk_at "evl";rw[Bi tb,f7];intro x hx;obtain⟨o1,m1⟩:=of_none Hj rfl hx;have ne:b≠x:=ig m1 hb;rw[us (i:=72) (d:=pb) rfl];simp only[pb];walk_at "evl";unfold B1;walk_at "evl";have e1:pt (eA c.B) i.k (.ref x)=eA (pt c.B i.k x):=mZ (g:=id) lV;rw[uQ (show _=some i.k from rfl),e1]
 refine⟨q1,?_⟩;unfold B0;walk_at "evl";have e2:pt (eA D) (bB i) (.ref x)=eA (pt D (bB i) x):=mZ (g:=id) lV;have hq:=hq x m1 o1 (bC ne);unfold BZ;walk_at "evl";rw[uQ (show _=some (bB i)from rfl),e2]
 refine⟨q2,?_⟩;walk_at "evl";exact hq
theorem Ib(tb:Tb e)(Hj:Ij ad 12)(ox:Of ad 12 x)(hx:M x=some (iu e i m ov))(hq:Q .ao (LG e ad f c (put M x (iu e i m (c.now+f.t0))))):
 av (P e) (n+4) 59 [.ref (ad 1),.ref x,.str "note"] (LG e ad f c M) Q:=by
 rw[us (i:=59) (d:=tf) rfl];simp only[tf];walk_at "evl"
 (try rw[ag (by decide+kernel)])
 (try walk_at "evl")
 rw[Bi tb,f7];walk_at "evl"
end
section
variable {e:Env}{n:Nat}{M:RM}{Q:aj}{ad:Nat->Addr}{f:Fm}{i j:bV}{c:Cn}{now mk ov u m mo:Int}{ds:LR}{st s1 wd:Str}{b x y:Addr}{D:List (TK×Addr)}{hk:TK}
theorem HQ{a:Addr}{kvs:List (TK×RV)}(h:M a=some (.dt kvs)):fM "len" [.ref a] M Q=Q (.int kvs.length) M:=by
 show(match M a with|some (.lst xs)=>Q (.int xs.length) M|some (.dk kvs)=>Q (.int kvs.length) M|some (.dt kvs)=>Q (.int kvs.length) M|_=>False)=_
 rw[h]
theorem HA(Hj:Ij ad 12)(ox:Of ad 12 x)(hx:M x=some (iu e i m ov))(hN:lk c.N m=some b)(ob:Of ad 12 b)(hb:M b=some (.dt (eA D)))(l1:(lk c.B i.k).isSome=true)(l2:(lk D (bB i)).isSome=true)
 (hq:(tr ((P e).Gn (n+2)) yT).S (rd Q) [some (.ref (ad 1)),some (.ref x),some (.int mo),some (.int m),some (.str "note"),some (.int i.house),some (.int i.door),some (.int i.place),some (.int i.far)] (LG e ad f { c with B:=dr c.B i.k } (put M b (.dt (eA (dr D (bB i))))))):
 av (P e) (n+3) 61 [.ref (ad 1),.ref x,.int mo] (LG e ad f c M) Q:=by
 have e1:dr (eA c.B) i.k=eA (dr c.B i.k):=pE (g:=id) lV;have e2:dr (eA D) (bB i)=eA (dr D (bB i)):=pE (g:=id) lV;have e3:lk (eB c.N) (.inl m)=some (.ref b):=by rw[pQ,hN];rfl
 have e4:(lk (eA c.B) i.k).isSome=true:=by rw[yk,qo];exact l1
 have e5:(lk (eA D) (bB i)).isSome=true:=by rw[yk,qo];exact l2
 replace hx:M x=some (f9 e (.tup [.str "note",.int i.house,.int i.door,.int i.place,.int i.far]) (.int m) (.str "note") (.int ov)):=hx
 rw[us (i:=61) (d:=ub) rfl];simp only[ub];unfold EX;walk_at "evl";unfold EW;walk_at "evl";unfold EV;walk_at "evl";rw[AW (show _=some i.k from rfl),e1]
 refine⟨e4,?_⟩;unfold EU;walk_at "evl";rw[AW (show _=some (bB i)from rfl),e2]
 refine⟨e5,?_⟩;rw[lop ob];exact hq
theorem Uo(Hj:Ij ad 12)(ox:Of ad 12 x)(hx:M x=some (iu e i m ov))(hN:lk c.N m=some b)(ob:Of ad 12 b)(hb:M b=some (.dt (eA D)))(l1:(lk c.B i.k).isSome=true)(l2:(lk D (bB i)).isSome=true)
 (hne:0<(dr D (bB i)).length) (hq:Q .ao (LG e ad f { c with B:=dr c.B i.k } (put M b (.dt (eA (dr D (bB i))))))):av (P e) (n+3) 61 [.ref (ad 1),.ref x,.int mo] (LG e ad f c M) Q:=by
 have e3:lk (eB c.N) (.inl m)=some (.ref b):=by rw[pQ,hN];rfl
 refine HA Hj ox hx hN ob hb l1 l2 ?_;unfold yT;walk_at "evl";rw[HQ (kvs:=eA (dr D (bB i))) (by walk_at "evl")];walk_at "ev"
 rw[ar (by unfold eA;rw[i7];exact eI ∅)]
 exact hq
theorem TH(Hj:Ij ad 12)(ox:Of ad 12 x)(hx:M x=some (iu e i m ov))(hN:lk c.N m=some b)(ob:Of ad 12 b)(hb:M b=some (.dt (eA D)))(l1:(lk c.B i.k).isSome=true)(l2:(lk D (bB i)).isSome=true)
 (hne:dr D (bB i)= []) (hH:lk c.H m=some hk) (hK:(lk c.K hk).isSome=true) (hT:(lk c.T m).isSome=true) (hu:c.U.length<1000)
 (hq:Q .ao (LG e ad f { c with B:=dr c.B i.k,N:=dr c.N m,K:=dr c.K hk,H:=dr c.H m,T:=dr c.T m,U:=pt c.U m (mo+f.t3) } (put M b (.dt (eA []))))):av (P e) (n+3) 61 [.ref (ad 1),.ref x,.int mo] (LG e ad f c M) Q:=by
 have e3:lk (eB c.N) (.inl m)=some (.ref b):=by rw[pQ,hN];rfl
 have e1:dr (eB c.N) (.inl m)=eB (dr c.N m):=pE iP;have e2:lk (eH c.H) (.inl m)=some (mi hk):=by rw[Zy,hH];rfl
 have e4:dr (eN c.K) hk=eN (dr c.K hk):=pE (g:=id) lV;have e5:dr (eH c.H) (.inl m)=eH (dr c.H m):=pE iP;have e6:dr (eT c.T) (.inl m)=eT (dr c.T m):=pE iP;have e7:pt (eU c.U) (.inl m) (RV.int (mo+f.t3))=eU (pt c.U m (mo+f.t3)):=mZ iP;have e8:(lk (eN c.K) hk).isSome=true:=by rw[J2,qo];exact hK
 have e9:(lk (eT c.T) (.inl m)).isSome=true:=by rw[J1];exact hT
 have q1:(eU c.U).length<sizeLine:=by unfold eU;rw[i7];exact d8 hu ⋯
 refine HA Hj ox hx hN ob hb l1 l2 ?_;rw[hne];unfold yT;walk_at "evl";rw[HQ (kvs:=[]) (by walk_at "evl";rfl)];walk_at "ev"
 unfold ET;walk_at "evl";unfold ES;walk_at "evl";rw[us (i:=60) (d:=tX) rfl];simp only[tX];walk_at "evl";rw[AW (Ag _)];walk_at "evl";rw[Nm,Pd,f7];rw[us (i:=57) (d:=ue) rfl];simp only[ue];walk_at "evl"
end
section
structure Tk where
 i:bV
 a:Addr
 m:Int
 ov:Int
noncomputable def outs (tl:List Tk)(m:Int):List (TK×Addr):=(tl.filter λT=>decide (T.m=m)).map λT=>(bB T.i,T.a)
noncomputable def nH (tl:List Tk):List (TK×Addr):=tl.map λT=>(T.i.k,T.a)
structure bV.Ok(i:bV):Prop where
 house:0<=i.house/\i.house<=99
 door:1<=i.door/\i.door<=9999
 place:1<=i.place/\i.place<=1000000
 far:1<=i.far/\i.far<=9999
noncomputable abbrev B8 (e:Env) (T:Tk):RO:=iu e T.i T.m T.ov
structure Gd(e:Env)(ad:Nat->Addr)(f:Fm)(k d:Nat)(c:Cn)(tl:List Tk)(M0 M:RM):Prop where
 ij:Ij ad 12
 cB:c.B=nH tl
 cT:c.T=c.K.map λx=>(x.2,())
 cH:c.H=c.K.map λx=>(x.2,x.1)
 tk:∀T∈tl,M T.a=some (B8 e T)/\Of ad 12 T.a
 nb:∀x∈c.N,M x.2=some (.dt (eA (outs tl x.1)))/\Of ad 12 x.2
 fr:∀a o,M0 a=some o->M a=some o/\Of ad 12 a/\(∀T∈tl,T.a≠a)/\∀x∈c.N,x.2≠a
 d1:(tl.map λT=>T.i.k).Nodup
 d2:(c.N.map (·.2)).Nodup
 d3:(c.K.map (·.2)).Nodup
 d4:(c.K.map (·.1)).Nodup
 d5:(c.N.map (·.1)).Nodup
 d6:(tl.map λT=>T.a).Nodup
 od:∀T∈tl,∀U∈tl,T.m=U.m->bB T.i=bB U.i->T=U
 tn:∀T∈tl,lk c.K (bx f T.i)=some T.m
 tb:∀T∈tl,T.m∈c.N.map (·.1)
 hk:∀x∈c.K,(∃i:bV,x.1=bx f i)/\f.low<=x.2/\x.2<=f.high
 ws:∀T∈tl,T.i.Ok
 mr:f.low<=c.mr/\c.mr<=f.high
 s0:tl.length<=k
 s1:c.K.length<=k
 s2:c.N.length<=k
 s3:c.U.length+c.K.length<=k
 s4:c.ds.length<=d
variable {e:Env}{n:Nat}{M M0:RM}{Q:aj}{ad:Nat->Addr}{f:Fm}{i j:bV}{k d:Nat}{c:Cn}{tl:List Tk}{now mk ov u m mo:Int}{v:RV}{st s1 wd:Str}{b x y:Addr}{D:List (TK×Addr)}{hk:TK}{T U:Tk}
theorem Gd.mono{k' d':Nat}(G:Gd e ad f k d c tl M0 M)(h:k<=k')(h':d<=d'):Gd e ad f k' d' c tl M0 M:={ G with s0:=bG G.s0 h,s1:=bG G.s1 h,s2:=bG G.s2 h,s3:=bG G.s3 h,s4:=bG G.s4 h' }
theorem Gd.book(G:Gd e ad f k d c tl M0 M):Gd e ad f k (d+1) { c with ds:=c.ds++ [v] } tl M0 M:={ G with s4:=by show(c.ds++ [v]).length<=d+1;rw[cN];exact Nat.succ_le_succ G.s4 }
theorem Gd.at_(G:Gd e ad f k d c tl M0 M){t:Int}:Gd e ad f k d { c with now:=t } tl M0 M:={ G with }
theorem Sv{i j:bV}(h:bx f i=bx f j)(ho:bB i=bB j):i=j:=by
 cases i;cases j;unfold bB oK at ho;simp only[List.cons.injEq,nK,Sum.inl.injEq,and_true,true_and]at ho;obtain⟨rfl,rfl⟩:=ho;unfold bx bV.k at h;split at h
 . simp only[List.cons.injEq,nK,Sum.inl.injEq,and_true,true_and]at h;obtain⟨rfl,rfl⟩:=h;rfl
 . split at h<;>(simp only[List.cons.injEq,nK,Sum.inl.injEq,and_true,true_and]at h;obtain⟨rfl,rfl⟩:=h;rfl)
theorem A9{i j:bV}(h:i.k=j.k):i=j:=by
 cases i;cases j;unfold bV.k at h;simp only[List.cons.injEq,nK,Sum.inl.injEq,and_true,true_and]at h;obtain⟨rfl,rfl,rfl,rfl⟩:=h;rfl
theorem Gd.nR(G:Gd e ad f k d c tl M0 M)(h:lk c.B i.k=none):∀T∈tl,T.i≠i:=λT hT z=>by
 rw[G.cB]at h;exact bh.mp h (aW.mpr ⟨_,aW.mpr ⟨T,hT,rfl⟩,by rw[z]⟩)
theorem Gd.nS(G:Gd e ad f k d c tl M0 M)(h:lk c.B i.k=some x):∃T∈tl,T.i=i/\T.a=x:=by
 rw[G.cB]at h;obtain⟨T,hT,e1⟩:=aW.mp (jc h);injection e1 with e1 e2
 exact⟨T,hT,A9 e1,e2⟩
theorem Gd.gy(G:Gd e ad f k d c tl M0 M)(h:lk c.K (bx f i)=some m)(hB:∀T∈tl,T.i≠i):∀U∈tl,U.m=m->bB U.i≠bB i:=λU hU e1 e2=>by
 have z:=G.tn U hU;rw[e1]at z;have:=gC G.d3 (jc z) (jc h) rfl;injection this with this
 exact hB U hU (Sv this e2)
theorem Gd.g8(G:Gd e ad f k d c tl M0 M)(h:lk c.K (bx f i)=none)(h1:f.low<=m/\m<=f.high)(h2:m∉c.K.map (·.2)):Gd e ad f (k+1) d (c.g8 f i m) tl M0 M:=by
 have eK:pt c.K (bx f i) m=c.K++ [(bx f i,m)]:=q8 h;have eH:pt c.H m (bx f i)=(c.K++ [(bx f i,m)]).map λx=>(x.2,x.1):=by
  rw[G.cH,q8 (bh.mpr λz=>h2 (by rwa [cE]at z)),eQ];rfl
 have eT:pt c.T m ()=(c.K++ [(bx f i,m)]).map λx=>(x.2,()):=by
  rw[G.cT,q8 (bh.mpr λz=>h2 (by rwa [cE]at z)),eQ];rfl
 have l1:(dr c.U m).length<=c.U.length:=jF _ _;have l3:=G.s3;have l4:=G.s1;refine { G with
  cT:=eT.trans (by show _=(pt c.K (bx f i) m).map _;rw[eK])
  cH:=eH.trans (by show _=(pt c.K (bx f i) m).map _;rw[eK])
  d3:=by show((pt c.K (bx f i) m).map _).Nodup;rw[eK,eQ];exact qP G.d3 h2
  d4:=by show((pt c.K (bx f i) m).map _).Nodup;rw[eK,eQ];exact qP G.d4 (bh.mp h)
  tn:=λT hT=>by show lk (pt c.K (bx f i) m) _=_;rw[eK,IT,G.tn T hT]
  hk:=λx hx=>by
   replace hx:x∈pt c.K (bx f i) m:=hx
   rw[eK]at hx;rcases dM.mp hx with z|z
   . exact G.hk x z
   . cases iT.mp z;exact⟨⟨i,rfl⟩,h1⟩
  mr:=by show f.low<=nm f m/\nm f m<=f.high;unfold nm;have:=h1;split<;>omega
  s0:=zh G.s0
  s1:=by show(pt c.K (bx f i) m).length<=k+1;rw[eK,cN];exact Nat.succ_le_succ l4
  s2:=zh G.s2
  s3:=by show(dr c.U m).length+(pt c.K (bx f i) m).length<=k+1;rw[eK,cN];show _+(c.K.length+1)<=_;omega }
theorem Ak:outs (tl++ [T]) m=outs tl m++if T.m=m then [(bB T.i,T.a)]else []:=by
 unfold outs;rw[List.filter_append,eQ]
 by_cases z:T.m=m<;>simp[z]
theorem S3(h:∀U∈tl,U.m=m->bB U.i≠bB i):lk (outs tl m) (bB i)=none:=bh.mpr λz=>by
 obtain⟨p,hp,e1⟩:=aW.mp z;obtain⟨U,hU,rfl⟩:=aW.mp hp;obtain⟨hU,hm⟩:=dJ.mp hU;exact h U hU (mB hm) e1
theorem Gd.qr(G:Gd e ad f k d c tl M0 M)(hT:T∈tl){p:Int×Addr}(hp:p∈c.N):T.a≠p.2:=λz=>by
 have:=(G.tk T hT).1;rw[z,(G.nb p hp).1]at this;cases this
theorem Gd.add(G:Gd e ad f k d c tl M0 M){c':Cn}{M':RM}(hB:∀U∈tl,U.i≠T.i)(ho:∀U∈tl,U.m=T.m->bB U.i≠bB T.i)(hm:lk c.K (bx f T.i)=some T.m)(hw:T.i.Ok)
 (q1:c'.B=pt c.B T.i.k T.a) (q2:c'.T=c.T) (q3:c'.H=c.H) (q4:c'.K=c.K) (q5:c'.U=c.U) (q6:c'.ds=c.ds) (q7:c'.mr=c.mr)
 (hx:M T.a=none) (ox:Of ad 12 T.a) (M1:M' T.a=some (B8 e T)) (M2:∀a,a≠T.a->(∀p∈c'.N,p.1=T.m->p.2≠a)->M' a=M a)
 (n1:∀p∈c'.N,p.1=T.m->M' p.2=some (.dt (eA (outs (tl++ [T]) p.1)))/\Of ad 12 p.2/\p.2≠T.a/\(p∈c.N∨M p.2=none)) (n2:∀p∈c'.N,p.1≠T.m->p∈c.N) (n3:(c'.N.map (·.1)).Nodup) (n4:(c'.N.map (·.2)).Nodup) (n5:∀p∈c.N,p.1∈c'.N.map (·.1)) (n6:T.m∈c'.N.map (·.1)) (n7:c'.N.length<=k) (h0:tl.length<k):
 Gd e ad f k d c' (tl++ [T]) M0 M':=by
 have ne:∀U∈tl,U.a≠T.a:=λU hU z=>by have:=(G.tk U hU).1;rw[z,hx]at this;cases this
 have nn:∀U∈tl,∀p∈c'.N,p.1=T.m->p.2≠U.a:=λU hU p hp e1 z=>by
  rcases(n1 p hp e1).2.2.2 with h|h
  . exact G.qr hU h z.symm
  . have:=(G.tk U hU).1;rw[<-z,h]at this;cases this
 have eB:c'.B=nH (tl++ [T]):=by
  rw[q1,G.cB,q8]
  . unfold nH;rw[eQ];rfl
  . refine bh.mpr λz=>?_
    obtain⟨p,hp,e1⟩:=aW.mp z;obtain⟨U,hU,rfl⟩:=aW.mp hp;exact hB U hU (A9 e1)
 have two:∀{p:Tk->Prop},(∀U∈tl,p U)->p T->∀U∈tl++ [T],p U:=λh1 h2 U hU=>by
  rcases dM.mp hU with z|z
  . exact h1 U z
  . cases iT.mp z;exact h2
 refine { ij:=G.ij,cB:=eB,cT:=by rw[q2,q4];exact G.cT,cH:=by rw[q3,q4];exact G.cH,tk:=two (λU hU=>?_) ⟨M1,ox⟩,nb:=λp hp=>?_,fr:=λa o h=>?_,d1:=?_,d2:=n4,d3:=by rw[q4];exact G.d3,d4:=by rw[q4];exact G.d4,d5:=n3,d6:=?_,od:=?_,tn:=by rw[q4];exact two G.tn hm,tb:=?_,hk:=by rw[q4];exact G.hk,ws:=two G.ws hw,mr:=by rw[q7];exact G.mr,s0:=?_,s1:=by rw[q4];exact G.s1,s2:=n7,s3:=by rw[q4,q5];exact G.s3,s4:=by rw[q6];exact G.s4 }
 . obtain⟨h1,h2⟩:=G.tk U hU
   exact⟨by rw[M2 _ (ne U hU) (nn U hU)];exact h1,h2⟩
 . by_cases z:p.1=T.m
   . exact⟨(n1 p hp z).1,(n1 p hp z).2.1⟩
   . have h:=n2 p hp z
     obtain⟨h1,h2⟩:=G.nb p h;refine⟨?_,h2⟩;rw[M2 _ (λq=>by rw[q,hx]at h1;cases h1) (λq hq e1 e2=>?_),h1,Ak,ag (bC z),eY]
     rw[gC n4 hq hp e2]at e1;exact z e1
 . obtain⟨h1,h2,h3,h4⟩:=G.fr a o h
   have h5:T.a≠a:=λz=>by rw[<-z,hx]at h1;cases h1
   have h6:∀p∈c'.N,p.2≠a:=λp hp z=>by
    by_cases e1:p.1=T.m
    . rcases(n1 p hp e1).2.2.2 with q|q
      . exact h4 p q z
      . rw[z,h1]at q;cases q
    . exact h4 p (n2 p hp e1) z
   exact⟨by rw[M2 a (bC h5) λp hp _=>h6 p hp];exact h1,h2,two h3 h5,h6⟩
 . rw[eQ]
   refine qP G.d1 λz=>?_
   obtain⟨U,hU,e1⟩:=aW.mp z;exact hB U hU (A9 e1)
 . rw[eQ]
   refine qP G.d6 λz=>?_
   obtain⟨U,hU,e1⟩:=aW.mp z;exact ne U hU e1
 . refine two (λV hV=>two (λW hW=>G.od V hV W hW) λe1 e2=>?_) (two (λW hW e1 e2=>?_) λ_ _=>rfl)
   . exact bp e2 (ho V hV e1)
   . exact bp e2.symm (ho W hW e1.symm)
 . refine two (λU hU=>?_) n6
   obtain⟨p,hp,e1⟩:=aW.mp (G.tb U hU);rw[<-e1];exact n5 p hp
 . rw[cN];exact h0
end
section
variable {e:Env}{n:Nat}{M M0:RM}{Q:aj}{ad:Nat->Addr}{f:Fm}{i j:bV}{k d:Nat}{c:Cn}{tl:List Tk}{now mk ov u m mo:Int}{v:RV}{st s1 wd:Str}{b x y:Addr}{D:List (TK×Addr)}{hk:TK}{T U:Tk}
theorem Gd.b0(G:Gd e ad f k d c tl M0 M)(hB:∀U∈tl,U.i≠i)(ho:∀U∈tl,U.m=m->bB U.i≠bB i)(hm:lk c.K (bx f i)=some m)(hw:i.Ok)
 (hN:lk c.N m=none) (hx:M x=none) (ox:Of ad 12 x) (hy:M y=none) (oy:Of ad 12 y) (hxy:x≠y) (h0:tl.length<k) (h2:c.N.length<k):Gd e ad f k d (c.b0 i m x y) (tl++ [⟨i,x,m,ov⟩]) M0 (put (put M x (iu e i m ov)) y (.dt (eA [(bB i,x)]))):=by
 have eN:(c.b0 i m x y).N=c.N++ [(m,y)]:=q8 hN;have nm:m∉c.N.map (·.1):=bh.mp hN
 have e0:outs tl m= []:=by
  unfold outs;rw[List.filter_eq_nil_iff.mpr λU hU h=>nm (by rw[<-mB h];exact G.tb U hU)];rfl
 have one:∀p∈(c.b0 i m x y).N,p.1=m->p=(m,y):=λp hp z=>by
  rw[eN]at hp;rcases dM.mp hp with h|h
  . exact bp (aW.mpr ⟨p,h,z⟩) nm
  . exact iT.mp h
 refine G.add (T:=⟨i,x,m,ov⟩) hB ho hm hw rfl rfl rfl rfl rfl rfl rfl hx ox ((put_ne hxy).trans br) (λa h1 h2=>?_) (λp hp z=>?_) (λp hp z=>?_) ?_ ?_ (λp hp=>?_) ?_ ?_ h0
 . have:y≠a:=h2 (m,y) (by rw[eN];exact dM.mpr (.inr (.head _))) rfl
   rw[put_ne (bC this),put_ne h1]
 . cases one p hp z
   refine⟨?_,oy,bC hxy,.inr hy⟩;rw[br,Ak,e0];exact congrArg (λl=>some (RO.dt (eA l))) (by rw[ar rfl];rfl)
 . rw[eN]at hp
   rcases dM.mp hp with h|h
   . exact h
   . cases iT.mp h;exact bp rfl z
 . rw[eN,eQ];exact qP G.d5 nm
 . rw[eN,eQ]
   refine qP G.d2 λz=>?_
   obtain⟨p,hp,e1⟩:=aW.mp z;have:=(G.nb p hp).1;rw[show p.2=y from e1,hy]at this;cases this
 . rw[eN,eQ];exact dM.mpr (.inl (aW.mpr ⟨p,hp,rfl⟩))
 . rw[eN,eQ];exact dM.mpr (.inr (.head _))
 . rw[eN,cN];exact h2
theorem Gd.b1(G:Gd e ad f k d c tl M0 M)(hB:∀U∈tl,U.i≠i)(ho:∀U∈tl,U.m=m->bB U.i≠bB i)(hm:lk c.K (bx f i)=some m)(hw:i.Ok)
 (hN:lk c.N m=some b) (hx:M x=none) (ox:Of ad 12 x) (h0:tl.length<k):Gd e ad f k d (c.b1 i x) (tl++ [⟨i,x,m,ov⟩]) M0 (put (put M x (iu e i m ov)) b (.dt (eA (pt (outs tl m) (bB i) x)))):=by
 have hb:=jc hN;obtain⟨b1,b2⟩:=G.nb _ hb;have ne:x≠b:=λz=>by rw[z]at hx;rw[hx]at b1;cases b1
 have one:∀p∈c.N,p.1=m->p=(m,b):=λp hp z=>gC G.d5 hp hb z
 refine G.add (T:=⟨i,x,m,ov⟩) hB ho hm hw rfl rfl rfl rfl rfl rfl rfl hx ox ((put_ne ne).trans br) (λa h1 h2=>?_) (λp hp z=>?_) (λp hp z=>hp) G.d5 G.d2 (λp hp=>aW.mpr ⟨p,hp,rfl⟩) (aW.mpr ⟨_,hb,rfl⟩) G.s2 h0
 . rw[put_ne (bC (h2 (m,b) hb rfl)),put_ne h1]
 . cases one p hp z
   refine⟨?_,b2,bC ne,.inl hp⟩;rw[br,Ak,q8 (S3 ho)];exact congrArg (λl=>some (RO.dt (eA l))) (by rw[ar rfl])
noncomputable def eV (x:Addr)(o:Int)(U:Tk):Tk:=if U.a=x then { U with ov:=o }else U
theorem lW{o:Int}:(eV x o U).i=U.i:=by unfold eV;split<;>rfl
theorem uN{o:Int}:(eV x o U).a=U.a:=by unfold eV;split<;>rfl
theorem pR{o:Int}:(eV x o U).m=U.m:=by unfold eV;split<;>rfl
theorem GK{o:Int}:∀{tl:List Tk},outs (tl.map (eV x o)) m=outs tl m
 | []=>rfl
 |U::tl=>by
  have ih:outs (tl.map (eV x o)) m=outs tl m:=GK;unfold outs at ih ⊢;rw[cj,fU,fU,pR];split
  . rw[cj,cj,lW,uN,ih]
  . exact ih
theorem Gd.lead(G:Gd e ad f k d c tl M0 M)(hT:T∈tl):Gd e ad f k d c (tl.map (eV T.a ov)) M0 (put M T.a (iu e T.i T.m ov)):=by
 have all:∀{p:Tk->Prop},(∀U∈tl,p (eV T.a ov U))->∀U∈tl.map (eV T.a ov),p U:=λh U hU=>by
  obtain⟨V,hV,rfl⟩:=aW.mp hU;exact h V hV
 refine { G with cB:=?_,tk:=all λU hU=>?_,nb:=λp hp=>?_,fr:=λa o h=>?_,d1:=?_,d6:=?_,od:=all λU hU=>all λV hV h1 h2=>?_,tn:=all λU hU=>by rw[lW,pR];exact G.tn U hU,tb:=all λU hU=>by rw[pR];exact G.tb U hU,ws:=all λU hU=>?_,s0:=by rw[bw];exact G.s0 }
 . rw[G.cB];unfold nH;rw[cE];exact vF λU _=>by show _=((eV T.a ov U).i.k,(eV T.a ov U).a);rw[lW,uN]
 . rw[uN]
   obtain⟨h1,h2⟩:=G.tk U hU;refine⟨?_,h2⟩
   by_cases z:U.a=T.a
   . cases gC G.d6 hU hT z
     rw[br];unfold eV;rw[ar rfl]
   . rw[put_ne z,h1];unfold eV;rw[ag z]
 . obtain⟨h1,h2⟩:=G.nb p hp
   rw[GK];exact⟨(put_ne (bC (G.qr hT hp))).trans h1,h2⟩
 . obtain⟨h1,h2,h3,h4⟩:=G.fr a o h
   exact⟨(put_ne (bC (h3 T hT))).trans h1,h2,all λU hU=>by rw[uN];exact h3 U hU,h4⟩
 . rw[cE,vF (g:=λU:Tk=>U.i.k) λU _=>by show(eV T.a ov U).i.k=_;rw[lW]];exact G.d1
 . rw[cE,vF (g:=λU:Tk=>U.a) λU _=>by show(eV T.a ov U).a=_;rw[uN]];exact G.d6
 . rw[pR,pR]at h1
   rw[lW,lW]at h2;rw[G.od U hU V hV h1 h2]
 . rw[lW];exact G.ws U hU
noncomputable def fR (tl:List Tk)(T:Tk):List Tk:=tl.filter λU=>decide (U.a≠T.a)
theorem Gd.oX(G:Gd e ad f k d c tl M0 M)(hT:T∈tl):dr c.B T.i.k=nH (fR tl T):=by
 rw[G.cB];unfold nH fR;rw[xS (κ:=Int)];congr 1;exact vq λU hU=>vD.mpr ⟨λz q=>z (by rw[gC G.d6 hU hT q]),λz q=>z (by rw[gC G.d1 hU hT q])⟩
theorem Gd.oZ(G:Gd e ad f k d c tl M0 M)(hT:T∈tl):dr (outs tl T.m) (bB T.i)=outs (fR tl T) T.m:=by
 unfold outs fR;rw[xS (κ:=Int),List.filter_filter,List.filter_filter];congr 1;refine vq λU hU=>?_
 by_cases z:U.m=T.m
 . simp only[z,decide_true,Bool.and_true,Bool.true_and]
   exact vD.mpr ⟨λy q=>y (by rw[gC G.d6 hU hT q]),λy q=>y (by rw[G.od U hU T hT z q])⟩
 . simp[z]
theorem Gd.oY(G:Gd e ad f k d c tl M0 M)(hT:T∈tl)(h:m≠T.m):outs (fR tl T) m=outs tl m:=by
 unfold outs fR;rw[List.filter_filter];congr 1;refine vq λU hU=>?_
 by_cases z:U.m=m
 . have:U.a≠T.a:=λq=>h (by rw[<-z,gC G.d6 hU hT q])
   simp[z,this]
 . simp[z]
theorem Gd.less(G:Gd e ad f k d c tl M0 M){c':Cn}(hT:T∈tl)(hN:lk c.N T.m=some b)(q1:c'.B=dr c.B T.i.k)(q2:c'.T=c'.K.map λx=>(x.2,()))(q3:c'.H=c'.K.map λx=>(x.2,x.1))(q4:c'.mr=c.mr)(q5:c'.ds=c.ds)
 (n1:c'.N=c.N∨c'.N=dr c.N T.m/\outs (fR tl T) T.m= []) (k1:c'.K=c.K∨c'.K=(c.K.filter λx=>decide (x.2≠T.m))/\outs (fR tl T) T.m= []) (u1:c'.U.length+c'.K.length<=k):
 Gd e ad f k d c' (fR tl T) M0 (put M b (.dt (eA (outs (fR tl T) T.m)))):=by
 have hb:=jc hN;have sub:∀U∈fR tl T,U∈tl:=λU hU=>(dJ.mp hU).1
 have subN:∀p∈c'.N,p∈c.N:=λp hp=>by
  rcases n1 with z|⟨z,_⟩
  . rwa [z]at hp
  . rw[z]at hp;exact(dJ.mp hp).1
 have subK:∀p∈c'.K,p∈c.K:=λp hp=>by
  rcases k1 with z|⟨z,_⟩
  . rwa [z]at hp
  . rw[z]at hp;exact(dJ.mp hp).1
 have emp:outs (fR tl T) T.m= []->∀U∈fR tl T,U.m≠T.m:=λh U hU z=>by
  have:(bB U.i,U.a)∈outs (fR tl T) T.m:=aW.mpr ⟨U,dJ.mpr ⟨hU,eI z⟩,rfl⟩;rw[h]at this;cases this
 have lN:c'.N.length<=c.N.length:=by
  rcases n1 with z|⟨z,_⟩
  . rw[z];exact aS _
  . rw[z];exact jF _ _
 have lK:c'.K.length<=c.K.length:=by
  rcases k1 with z|⟨z,_⟩
  . rw[z];exact aS _
  . rw[z];exact jF _ _
 have ndN:∀{β:Type} {g:Int×Addr->β},(c.N.map g).Nodup->(c'.N.map g).Nodup:=λ{β g} h=>by
  rcases n1 with z|⟨z,_⟩
  . rw[z];exact h
  . rw[z];exact t7 h
 have ndK:∀{β:Type} {g:TK×Int->β},(c.K.map g).Nodup->(c'.K.map g).Nodup:=λ{β g} h=>by
  rcases k1 with z|⟨z,_⟩
  . rw[z];exact h
  . rw[z];exact t7 h
 refine { ij:=G.ij,cB:=by rw[q1];exact G.oX hT,cT:=q2,cH:=q3,tk:=λU hU=>?_,nb:=λp hp=>?_,fr:=λa o h=>?_,d1:=t7 G.d1,d2:=ndN G.d2,d3:=ndK G.d3,d4:=ndK G.d4,d5:=ndN G.d5,d6:=t7 G.d6,od:=λU hU V hV=>G.od U (sub U hU) V (sub V hV),tn:=λU hU=>?_,tb:=λU hU=>?_,hk:=λx hx=>G.hk x (subK x hx),ws:=λU hU=>G.ws U (sub U hU),mr:=by rw[q4];exact G.mr,s0:=bG (jF _ _) G.s0,s1:=bG lK G.s1,s2:=bG lN G.s2,s3:=u1,s4:=by rw[q5];exact G.s4 }
 . obtain⟨h1,h2⟩:=G.tk U (sub U hU)
   exact⟨(put_ne (G.qr (sub U hU) hb)).trans h1,h2⟩
 . obtain⟨h1,h2⟩:=G.nb p (subN p hp)
   refine⟨?_,h2⟩
   by_cases z:p.1=T.m
   . cases gC G.d5 (subN p hp) hb z
     exact br
   . rw[put_ne (λq=>z (by rw[gC G.d2 (subN p hp) hb q])),h1,G.oY hT z]
 . obtain⟨h1,h2,h3,h4⟩:=G.fr a o h
   exact⟨(put_ne (bC (h4 _ hb))).trans h1,h2,λU hU=>h3 U (sub U hU),λp hp=>h4 p (subN p hp)⟩
 . have z:=G.tn U (sub U hU)
   rcases k1 with q|⟨q,h⟩
   . rw[q];exact z
   . have hU2:=emp h U hU
     have:(bx f U.i,U.m)∈c'.K:=by rw[q];exact dJ.mpr ⟨jc z,eI hU2⟩
     exact uM (ndK G.d4) this
 . rcases n1 with q|⟨q,h⟩
   . rw[q];exact G.tb U (sub U hU)
   . obtain⟨p,hp,e1⟩:=aW.mp (G.tb U (sub U hU))
     rw[q];exact aW.mpr ⟨p,dJ.mpr ⟨hp,eI (by rw[e1];exact emp h U hU)⟩,e1⟩
theorem Gd.end_(G:Gd e ad f k d c tl M0 M)(hk:k<1000)(hT:T∈tl)(hq:∀c' M',Gd e ad f k d c' (fR tl T) M0 M'->c'.now=c.now->c'.ds=c.ds->Q .ao (LG e ad f c' M')):
 av (P e) (n+3) 61 [.ref (ad 1),.ref T.a,.int mo] (LG e ad f c M) Q:=by
 obtain⟨t1,t2⟩:=G.tk T hT;obtain⟨p,hp,e1⟩:=aW.mp (G.tb T hT);obtain⟨m',b⟩:=p;cases e1;have hN:lk c.N T.m=some b:=uM G.d5 hp;obtain⟨b1,b2⟩:=G.nb _ hp;have l1:(lk c.B T.i.k).isSome=true:=by rw[G.cB];exact xY (aW.mpr ⟨_,aW.mpr ⟨T,hT,rfl⟩,rfl⟩)
 have l2:(lk (outs tl T.m) (bB T.i)).isSome=true:=xY (aW.mpr ⟨_,aW.mpr ⟨T,dJ.mpr ⟨hT,eI rfl⟩,rfl⟩,rfl⟩);have lo:=G.oZ hT;have s3:=G.s3
 by_cases z:outs (fR tl T) T.m= []
 . have hz:=lo.trans z
   have h1:=jc (G.tn T hT);have hH:lk c.H T.m=some (bx f T.i):=by
    rw[G.cH];exact uM (x:=(T.m,bx f T.i)) (by rw[cE];exact G.d3) (aW.mpr ⟨_,h1,rfl⟩)
   have key:∀x∈c.K,(x.1≠bx f T.i↔x.2≠T.m):=λx hx=>⟨λz q=>z (by rw[gC G.d3 hx h1 q]),λz q=>z (by rw[gC G.d4 hx h1 q])⟩
   have eK:dr c.K (bx f T.i)=c.K.filter λx=>decide (x.2≠T.m):=vq λx hx=>vD.mpr (key x hx)
   refine TH G.ij t2 t1 hN b2 b1 l1 l2 hz hH (xY (aW.mpr ⟨_,h1,rfl⟩)) (by rw[G.cT];exact xY (aW.mpr ⟨_,aW.mpr ⟨_,h1,rfl⟩,rfl⟩)) ∅ ?_
   rw[<-z];refine hq _ _ (G.less hT hN rfl ?_ ?_ rfl rfl (.inr ⟨rfl,z⟩) (.inr ⟨eK,z⟩) ?_) rfl rfl
   . show dr c.T T.m=(dr c.K (bx f T.i)).map _
     rw[G.cT,eK];exact xS (κ:=Int)
   . show dr c.H T.m=(dr c.K (bx f T.i)).map _
     rw[G.cH,eK];exact xS (κ:=Int)
   . show(pt c.U T.m _).length+(dr c.K (bx f T.i)).length<=k
     have a1:(pt c.U T.m (mo+f.t3)).length<=c.U.length+1:=We;have a2:(dr c.K (bx f T.i)).length<c.K.length:=by
      unfold dr;exact List.length_filter_lt_length_iff_exists.mpr ⟨_,h1,by simp⟩
     omega
 . refine Uo G.ij t2 t1 hN b2 b1 l1 l2 ?_ ?_
   . rw[lo];exact List.length_pos_iff.mpr z
   . rw[lo]
     exact hq _ _ (G.less hT hN rfl G.cT G.cH rfl rfl (.inl rfl) (.inl rfl) s3) rfl rfl
end
section
variable {e:Env}{n:Nat}{M M0:RM}{Q:aj}{ad:Nat->Addr}{f:Fm}{i j:bV}{k d:Nat}{c:Cn}{tl:List Tk}{t ov u m mo:Int}{v:RV}{st s1 wd:Str}{b x y:Addr}{T U:Tk}{c':Cn}
noncomputable def bN (e:Env):RO:=.tb e.lP (P e).S.lp (P e).S.lq
theorem Vw{fr rp rbi rbn rho rnu:RV}{t:Addr}{nw k:Int}{tv:ak}{σ:aY}{N:RM->Prop}(ht:M t=some (bQ e fr rp (.int nw) rbi rbn rho rnu))(hv:∀K:aj,K (.int k) M->tv σ M K)(hN:N (put M t (bQ e fr rp (.int (nw+k)) rbi rbn rho rnu))):sN (e.C 3) "now" tv σ N (.ref t) M:=by
 unfold sN;simp only[ht];refine⟨rfl,?_⟩;show tv σ M _;refine hv _ ?_;show(match M t with|some (.ins C2 fs2)=>_|_=>False)
 rw[ht];exact⟨rfl,by show(7:Nat)<1000;decide,hN⟩
theorem TJ{fr rp now rbn rho rnu:RV}{t bi:Addr}{l:List (TK×Addr)}(ht:M t=some (bQ e fr rp now (.ref bi) rbn rho rnu))(hb:M bi=some (.dt (eA l))):av (P e) (n+1) 18 [.ref t] M Q=Q (.ls (l.map λx=>.ref x.2)) M:=by
 have e1:(eA l).map (·.2)=l.map λx=>RV.ref x.2:=by unfold eA enc;rw[cE];rfl
 rw[us (i:=18) (d:=tG) rfl];simp only[tG];walk_at "evs"
noncomputable def wu (M:RM)(now:Int):RV->Bool
 | .ref a=>match M a with
  |some (.ins _ fs)=>match fs.lookup ("over":Str)with
   |some (.int o)=>decide (o<=now)
   |_=>false
  |_=>false
 |_=>false
theorem IF(hk:k<1000){D:RD}{z1 z2:Option RV}:∀(l:List Tk) {c:Cn} {tl:List Tk} {M:RM} {z3:Option RV},Gd e ad f k d c tl M0 M->(∀T∈l,T∈tl)->(l.map (·.a)).Nodup->(∀c' tl' M' z,Gd e ad f k d c' tl' M0 M'->(∀T,T∈tl'↔T∈tl/\T.a∉l.map (·.a))->c'.now=c.now->c'.ds=c.ds->D.nx [some (.ref (ad 1)),z1,z2,z] (LG e ad f c' M'))->
 gG (jh 3) (tr ((P e).Gn (n+3)) (.se (.ex (.me 61 (.v 0) (.ec (.v 3) (.ec (.fl 2 "over" (.v 3)) .e0)))) .en)).S D dE id (l.map λT=>RV.ref T.a) [some (.ref (ad 1)),z1,z2,z3] (LG e ad f c M)
 | [],c,tl,M,z3,G,_,_,hq=>⟨gB,hq _ _ _ _ G (λ_=>⟨λh=>⟨h,λz=>by cases z⟩,λh=>h.1⟩) rfl rfl⟩
 |T::l,c,tl,M,z3,G,hT,nd,hq=>by
  obtain⟨t1,t2⟩:=G.tk T (hT T (.head _));have Hj:=G.ij;rw[cj,fV]at nd;refine⟨gB,?_⟩;unfold jh;walk_at "evl";refine G.end_ hk (hT T (.head _)) λc' M' G' h1 h2=>?_
  refine IF hk l G' (λU hU=>?_) nd.2 λc2 tl2 M2 z G2 s2 n2 d2=>hq c2 tl2 M2 z G2 (λU=>(s2 U).trans ?_) (n2.trans h1) (d2.trans h2)
  . refine dJ.mpr ⟨hT U (.tail _ hU),eI λz=>nd.1 ?_⟩
    rw[<-z];exact zb (f:=(·.a)) hU
  . unfold fR
    rw[dJ,iB,cj,cx,not_or,and_assoc]
theorem Sf(G:Gd e ad f k d c tl M0 M)(hk:k<64)(htb:M0 e.lP=some (bN e))(hq:∀c' tl' M',Gd e ad f k d c' tl' M0 M'->(∀T,T∈tl'↔T∈tl/\c'.now<T.ov)->c'.now=c.now+t->c'.ds=c.ds->Q .ao (LG e ad f c' M')):
 av (P e) (n+4) 37 [.ref (ad 1),.int t] (LG e ad f c M) Q:=by
 have Hj:=G.ij;have G1:=G.at_ (t:=c.now+t);obtain⟨p1,p2,p3,p4⟩:=G.fr _ _ htb;rw[us (i:=37) (d:=aC) rfl];simp only[aC];walk_at "ev";rw[OT];walk_at "ev";refine Vw (lg Hj (Nat.le_of_ble_eq_true rfl)) (λK hK=>by walk_at "ev";exact hK) ?_
 rw[lp Hj (Nat.le_of_ble_eq_true rfl)];have ht1:LG e ad f { c with now:=c.now+t } M (ad 1)=some (cA e ad f (c.now+t)):=lg Hj (Nat.le_of_ble_eq_true rfl)
 have hb1:LG e ad f { c with now:=c.now+t } M (ad 5)=some (.dt (eA c.B)):=lg Hj (Nat.le_of_ble_eq_true rfl)
 have htb1:LG e ad f { c with now:=c.now+t } M e.lP=some (bN e):=(lo p2).trans p1
 have hat:∀T∈tl,LG e ad f { c with now:=c.now+t } M T.a=some (B8 e T):=λT hT=>(lo (G.tk T hT).2).trans (G.tk T hT).1
 show(tr ((P e).Gn (n+3)) _).S _ _ (LG e ad f { c with now:=c.now+t } M)
 generalize hL:LG e ad f { c with now:=c.now+t } M=L at ht1 hb1 htb1 hat ⊢
 walk_at "ev";rw[ht1];walk_at "ev";rw[TJ ht1 hb1,Jf];have exs:(c.B.map λx=>RV.ref x.2)=tl.map λT=>RV.ref T.a:=by rw[G.cB];unfold nH;rw[cE];rfl
 rw[exs];have hov:∀T∈tl,wu L (c.now+t) (.ref T.a)=decide (T.ov<=c.now+t):=λT hT=>by
  unfold wu;simp only[hat T hT];rfl
 have h64:tl.length<64:=jm G.s0 hk;refine⟨by rw[bw];exact d8 h64 ⋯,ju (bd:=gh false 1) (wu L (c.now+t)) id gB _ _ (λx hx=>?_) ?_⟩
 . obtain⟨T,hT,rfl⟩:=aW.mp hx
   have h:=hat T hT;refine⟨[.ref T.a],rfl,λK hK=>?_,λ_ K hK=>?_⟩
   . rw[hov T hT]at hK
     show(tr ((P e).Gn (n+3)) _).T [some (.ref T.a),some (.ref (ad 1))] _ K;walk_at "ev";rw[h];walk_at "ev";rw[ht1];walk_at "ev";exact hK
   . show(tr ((P e).Gn (n+3)) _).E [some (.ref T.a),some (.ref (ad 1))] _ K
     walk_at "ev";exact hK
 . rw[pC,List.nil_append,List.map_id]
   have ef:(tl.map λT=>RV.ref T.a).filter (wu L (c.now+t))=(tl.filter λT=>decide (T.ov<=c.now+t)).map λT=>RV.ref T.a:=by
    rw[List.filter_map];congr 1;exact vq λT hT=>hov T hT
   have sub:∀T∈tl.filter λT=>decide (T.ov<=c.now+t),T∈tl:=λT h=>(dJ.mp h).1
   rw[ef];refine⟨(tl.filter λT=>decide (T.ov<=c.now+t)).map λT=>(T.ov,T.a),.inl (by rw[cE,cE];rfl),λz hz=>?_,?_,htb1,λys' hp hs=>?_⟩
   . obtain⟨T,hT,rfl⟩:=aW.mp hz
     exact⟨_,hat T (sub T hT),rfl⟩
   . rw[bw];exact jm (jF _ _) h64
   . obtain⟨ys,py,rfl⟩:=Fn hp
     rw[Jf,show((ys.map λT=>(T.ov,T.a)).map Prod.snd).map RV.ref=ys.map λT=>RV.ref T.a by rw[cE,cE];rfl]
     subst hL;have nd:(ys.map λT=>T.a).Nodup:=(py.map _).nodup_iff.mpr (t7 G.d6)
     refine IF (d8 hk ⋯) ys G1 (λT hT=>sub T (py.mem_iff.mp hT)) nd λc' tl' M' z G' s' n' d'=>hq c' tl' M' G' (λT=>(s' T).trans ?_) n' d'
     rw[show c'.now=c.now+t from n']
     refine⟨λ⟨q1,q2⟩=>⟨q1,Classical.byContradiction λz=>q2 ?_⟩,λ⟨q1,q2⟩=>⟨q1,λz=>?_⟩⟩
     . exact aW.mpr ⟨T,py.mem_iff.mpr (dJ.mpr ⟨q1,eI ∅⟩),rfl⟩
     . obtain⟨U,hU,e1⟩:=aW.mp z
       obtain⟨u1,u2⟩:=dJ.mp (py.mem_iff.mp hU);cases gC G.d6 u1 q1 e1;have:=mB u2;omega
end
section
variable {e:Env}{n:Nat}{M M0:RM}{Q:aj}{ad:Nat->Addr}{f:Fm}{i j:bV}{k d:Nat}{c c':Cn}{tl tl':List Tk}{t ov u m mo:Int}{v:RV}{b x y:Addr}{T U:Tk}
theorem R1{p:aE}{b:Bool}{d t:Int}(h:p.pick b d t=some m):p.free m t=true:=by
 unfold aE.pick at h;split at h
 . rename_i z;cases h;exact(aU _ _ ▸ z).2
 . exact List.find?_some (p:=λi=>p.free i t) h
theorem Gd.fN(G:Gd e ad f k d c tl M0 M)(h:(pS f c).free m c.now=true):m∉c.K.map (·.2)/\f.low<=m/\m<=f.high:=by
 unfold aE.free aE.has pS at h;simp only[aU,iB,jD]at h;refine⟨λz=>?_,h.1.1.1,h.1.1.2⟩
 have:=AI (l:=c.K.map λx=>(x.2,())) (k:=m)
 rw[<-G.cT,h.1.2,G.cT,cE]at this;exact bp z (by simpa using this)
theorem Gd.NV(G:Gd e ad f k d c tl M0 M)(okf:f.Ok):(pS f c).Ok:=⟨okf.lo,G.mr.1,G.mr.2,okf.hi,okf.wide⟩
theorem Gd.hG(G:Gd e ad f k d c tl M0 M)(hw:f.high=f.low+199)(hk:k<200){b:Bool}{w:Int}:∃x,(pS f c).pick b w c.now=some x:=by
 have⟨x,hx⟩:∃x,(pS f c).free x c.now=true:=by
  refine Classical.byContradiction λno=>?_
  have all:∀x∈(List.range 200).map (λ(j:Nat)=>f.low+(j:Int)),x∈c.U.map (·.1)++c.K.map (·.2):=λx hx=>by
   obtain⟨j,hj,rfl⟩:=aW.mp hx;have hj:=jo.mp hj;refine Classical.byContradiction λz=>no ⟨f.low+j,?_⟩
   rw[dM,not_or]at z;unfold aE.free aE.has pS;have a1:lk c.T (f.low+j)=none:=bh.mpr (by rw[G.cT,cE];exact z.2)
   dsimp only;rw[a1,bh.mpr z.1];simp;omega
  have:=sub_len Yv all;rw[bw,zg,cN,bw,bw]at this;have:=G.s3;omega
 unfold aE.pick
 by_cases z:(b&&(pS f c).free w c.now)=true
 . rw[ar z];exact⟨_,rfl⟩
 . rw[ag z]
   cases q:(pS f c).line.find? λi=>(pS f c).free i c.now with
   |some y=>exact⟨y,rfl⟩
   |none=>
    rw[ze]at q;have hr:=(G.fN hx).2;have hm:=G.mr;refine bp hx (q x ?_);unfold aE.line pS;rw[dM,aW,aW];dsimp only
    by_cases y:c.mr<=x
    . exact .inl ⟨(x-c.mr).toNat,jo.mpr ∅,∅⟩
    . exact .inr ⟨(x-f.low).toNat,jo.mpr ∅,∅⟩
noncomputable abbrev led (m:Int):RV:=.tup [.str "led",.int m]
theorem VB:∃a b,bx f i= [some (.inr "note"),some (.inl i.house),some (.inl i.door),a,b]:=by
 unfold bx bV.k;split
 . exact⟨_,_,rfl⟩
 . split<;>exact⟨_,_,rfl⟩
def Lv(f:Fm)(c:Cn)(tl:List Tk):Prop:=∀T∈tl,T.ov<=c.now+f.t0
def Al(tl tl':List Tk):Prop:=∀T∈tl,∃U∈tl',U.i=T.i/\U.m=T.m/\T.ov<=U.ov
def Own(f:Fm)(i:bV)(m:Int)(c:Cn)(tl:List Tk):Prop:=∃U∈tl,U.i=i/\U.m=m/\U.ov=c.now+f.t0
theorem Al.refl:Al tl tl:=λT h=>⟨T,h,rfl,rfl,mz _⟩
structure fK(f:Fm)(i:bV)(m:Int)(c:Cn)(tl:List Tk)(c':Cn)(tl':List Tk):Prop where
 lv:Lv f c' tl'
 al:Al tl tl'
 own:Own f i m c' tl'
 nw:c'.now=c.now
 ds:c'.ds=c.ds
theorem fK.add(lv:Lv f c tl)(nw:c'.now=c.now)(ds:c'.ds=c.ds):fK f i m c tl c' (tl++ [⟨i,x,m,c.now+f.t0⟩]):=by
 refine⟨λT hT=>?_,λT hT=>⟨T,dM.mpr (.inl hT),rfl,rfl,mz _⟩,⟨_,dM.mpr (.inr (.head _)),rfl,rfl,by rw[nw]⟩,nw,ds⟩
 rw[nw];rcases dM.mp hT with z|z
 . exact lv T z
 . cases iT.mp z;exact mz _
theorem fK.led(lv:Lv f c tl)(hT:T∈tl):fK f T.i T.m c tl c (tl.map (eV T.a (c.now+f.t0))):=by
 refine⟨λU hU=>?_,λU hU=>⟨_,zb hU,lW,pR,?_⟩,⟨_,zb hT,lW,pR,?_⟩,rfl,rfl⟩
 . obtain⟨W,hW,rfl⟩:=aW.mp hU
   unfold eV;split
   . exact mz _
   . exact lv W hW
 . unfold eV
   split
   . exact lv U hU
   . exact mz _
 . unfold eV;rw[ar rfl]
theorem Gd.begin(G:Gd e ad f k d c tl M0 M)(tb:Tb e)(hk:k<900)(h0:tl.length<k)(h2:c.N.length<k)(hB:∀U∈tl,U.i≠i)(ho:∀U∈tl,U.m=m->bB U.i≠bB i)(hm:lk c.K (bx f i)=some m)(hw:i.Ok)
 (hq:∀c' x M',Gd e ad f k d c' (tl++ [⟨i,x,m,c.now+f.t0⟩]) M0 M'->c'.now=c.now->c'.ds=c.ds->Q .ao (LG e ad f c' M')):av (P e) (n+3) 70 [.ref (ad 1),i.r,.int m,.str "note"] (LG e ad f c M) Q:=by
 have lB:c.B.length<1000:=by rw[G.cB];unfold nH;rw[bw];exact jm G.s0 ∅
 cases hN:lk c.N m with
 |none=>exact Th tb G.ij lB (jm G.s2 ∅) hN λx y hx ox hy oy hxy=>hq _ x _ (G.b0 hB ho hm hw hN hx ox hy oy hxy h0 h2) rfl rfl
 |some b=>
  obtain⟨b1,b2⟩:=G.nb _ (jc hN);refine Tg tb G.ij lB ?_ hN b2 b1 λx hx ox hxb=>hq _ x _ (G.b1 hB ho hm hw hN hx ox h0) rfl rfl
  unfold outs;rw[bw];exact jm (bG (jF _ _) G.s0) ∅
theorem Gd.lu(G:Gd e ad f k d c tl M0 M):∀x∈c.H,∃k j r,x.2=k::some (.inl j)::r:=λx hx=>by
 rw[G.cH]at hx;obtain⟨y,hy,rfl⟩:=aW.mp hx;obtain⟨⟨i,h⟩,_⟩:=G.hk y hy;obtain⟨a,b,e1⟩:=VB (f:=f) (i:=i);exact⟨_,_,_,h.trans e1⟩
structure Fw(f:Fm):Prop where
 ok:f.Ok
 hw:f.high=f.low+199
 mo:f.most=200
 t0:20<=f.t0
theorem Gd.begin_out(G:Gd e ad f k d c tl M0 M)(tb:Tb e)(fw:Fw f)(lv:Lv f c tl)(hk:k<190)(hB:∀U∈tl,U.i≠i)(hw:i.Ok)
 (hq:∀m c' tl' M',Gd e ad f (k+1) d c' tl' M0 M'->fK f i m c tl c' tl'->Q (led m) (LG e ad f c' M')):av (P e) (n+5) 64 [.ref (ad 0),i.r,.str "note"] (LG e ad f c M) Q:=by
 have Hj:=G.ij;rw[us (i:=64) (d:=tZ) rfl];simp only[tZ];unfold DX;rw[d0,fj];dsimp only[List.set_cons_zero,List.set_cons_succ];walk_at "evl";rw[Ri Hj];cases hK:lk c.K (bx f i)with
 |some m=>
  rw[IQ];unfold BY;walk_at "evl";unfold BX;walk_at "evl";refine(G.mono (Nat.le_succ _) (aS _)).begin tb ∅ (zi G.s0) (zi G.s2) hB (G.gy hK hB) hK hw λc' x M' G' h1 h2=>?_
  unfold BW;walk_at "ev";exact hq m c' _ M' G' (.add lv h1 h2)
 |none=>
  rw[Wz];unfold BY;walk_at "evl";rw[Np];have lH:c.H.length=c.K.length:=by rw[G.cH,bw]
  have s1:=G.s1;refine WM Hj G.lu ∅ λl hl=>?_
  walk_at "evl";rw[Nk];walk_at "evl";have mo:=fw.mo;rw[ag (by simp;omega),Nq]
  refine QE Hj (G.NV fw.ok) ?_;obtain⟨m,hp⟩:=G.hG fw.hw ∅ (b:=f.pick== "keep") (w:=i.door)
  rw[hp,IQ];walk_at "evl";obtain⟨f1,f2⟩:=G.fN (R1 hp);have lT:c.T.length=c.K.length:=by rw[G.cT,bw]
  refine WK Hj ∅ ∅ ∅ ?_
  have G1:=G.g8 hK f2 f1;have hK1:lk (c.g8 f i m).K (bx f i)=some m:=JZ;unfold BX;walk_at "evl";refine G1.begin tb ∅ (zi G.s0) (zi G.s2) hB (G1.gy hK1 hB) hK1 hw λc' x M' G' h1 h2=>?_
  unfold BW;walk_at "ev";exact hq m c' _ M' G' (.add lv h1 h2)
theorem Gd.lead_out(G:Gd e ad f k d c tl M0 M)(tb:Tb e)(fw:Fw f)(lv:Lv f c tl)(hk:k<190)(oki:i.Ok)
 (hq:∀m c' tl' M',Gd e ad f (k+1) d c' tl' M0 M'->fK f i m c tl c' tl'->Q (led m) (LG e ad f c' M')):av (P e) (n+6) 63 [.ref (ad 0),i.r,.str "say"] (LG e ad f c M) Q:=by
 have Hj:=G.ij;rw[us (i:=63) (d:=tw) rfl];simp only[tw];unfold DO;walk_at "evl";rw[Rp Hj];cases hB:lk c.B i.k with
 |none=>
  rw[WB];unfold BR;walk_at "evl";rw[Cw,ZJ];unfold BQ;walk_at "evl";unfold BP;walk_at "evl";exact G.begin_out tb fw lv hk (G.nR hB) oki hq
 |some x=>
  obtain⟨T,hT,rfl,rfl⟩:=G.nS hB;obtain⟨t1,t2⟩:=G.tk T hT;rw[WA];unfold BR;walk_at "evl";rw[Cw];walk_at "evl";rw[JU];unfold BQ;walk_at "evl";unfold BP;walk_at "evl";unfold En;walk_at "evl";refine Ib tb Hj t2 t1 ?_;have G1:=G.lead (ov:=c.now+f.t0) hT;have t3:put M T.a (iu e T.i T.m (c.now+f.t0)) T.a=some (iu e T.i T.m (c.now+f.t0)):=br;unfold Em;walk_at "evl";exact hq T.m _ _ _ (G1.mono (Nat.le_succ _) (aS _)) (.led lv hT)
end
section
variable {e:Env}{n:Nat}{M M0:RM}{Q:aj}{ad:Nat->Addr}{f:Fm}{i j:bV}{k d:Nat}{c c':Cn}{tl tl':List Tk}{t ov u m mo p q:Int}{v:RV}{b x y:Addr}{T U:Tk}
theorem UU{κ:TK}(h:lk (outs tl m) κ=some x):∃T∈tl,T.m=m/\bB T.i=κ/\T.a=x:=by
 obtain⟨T,hT,e1⟩:=aW.mp (jc h);obtain⟨hT,hm⟩:=dJ.mp hT;injection e1 with e1 e2
 exact⟨T,hT,mB hm,e1,e2⟩
theorem Gd.lF(G:Gd e ad f k d c tl M0 M)(hT:T∈tl):lk (outs tl T.m) (bB T.i)=some T.a:=by
 cases h:lk (outs tl T.m) (bB T.i)with
 |none=>exact bp (aW.mpr ⟨_,aW.mpr ⟨T,dJ.mpr ⟨hT,eI rfl⟩,rfl⟩,rfl⟩) (bh.mp h)
 |some x=>
  obtain⟨U,hU,h1,h2,h3⟩:=UU h;rw[<-h3,G.od U hU T hT h1 h2]
theorem Gd.of_outer(G:Gd e ad f k d c tl M0 M)(hT:T∈tl):av (P e) (n+1) 73 [.ref (ad 1),.str "note",.int T.m,.int T.i.place,.int T.i.far] (LG e ad f c M) Q=Q (.ref T.a) (LG e ad f c M):=by
 obtain⟨⟨m',b⟩,hp,e1⟩:=aW.mp (G.tb T hT);cases e1;obtain⟨b1,b2⟩:=G.nb _ hp;rw[Rh G.ij (uM G.d5 hp) b2 b1,G.lF hT];rfl
noncomputable abbrev gY (h d:Int):RV:=.tup [.str "in",.int h,.int d]
structure Bh(f:Fm)(c:Cn)(tl:List Tk)(c':Cn)(tl':List Tk):Prop where
 lv:Lv f c' tl'
 al:Al tl tl'
 nw:c'.now=c.now
 ds:c'.ds=c.ds
theorem Gd.lead_in(G:Gd e ad f k d c tl M0 M)(tb:Tb e)(lv:Lv f c tl)(hT:T∈tl)(h2:∀c' tl' M',Gd e ad f k d c' tl' M0 M'->Bh f c tl c' tl'->Q (gY T.i.house T.i.door) (LG e ad f c' M')):
 av (P e) (n+5) 65 [.ref (ad 0),.ref T.a,.str "say"] (LG e ad f c M) Q:=by
 have Hj:=G.ij;obtain⟨t1,t2⟩:=G.tk T hT;have t3:M T.a=some (f9 e (.tup [.str "note",.int T.i.house,.int T.i.door,.int T.i.place,.int T.i.far]) (.int T.m) (.str "note") (.int T.ov)):=t1;clear t1;rw[us (i:=65) (d:=tJ) rfl];simp only[tJ];unfold DW;walk_at "evl";unfold DV;walk_at "evl";rw[JU];have o:=fK.led (f:=f) lv hT;have lead:av (P e) (n+4) 59 [.ref (ad 1),.ref T.a,.str "note"] (LG e ad f c M) λv M'=>Q (gY T.i.house T.i.door) M':=
  Ib tb Hj t2 t3 (h2 _ _ _ (G.lead (ov:=c.now+f.t0) hT) ⟨o.lv,o.al,rfl,rfl⟩)
 have hl:Q (gY T.i.house T.i.door) (LG e ad f c M):=h2 c tl M G ⟨lv,Al.refl,rfl,rfl⟩;clear h2 o;unfold DU;walk_at "evl";unfold DT;walk_at "evl";rw[Nl];unfold DS;walk_at "evl";unfold DR;(try walk_at "evl")
 by_cases h:f.renew=true
 . rw[ar h];first|exact lead|trivial
 . rw[ag h];first|exact hl|trivial
theorem Gd.come_in(G:Gd e ad f k d c tl M0 M)(tb:Tb e)(lv:Lv f c tl)(hT:T∈tl)(h2:∀c' tl' M',Gd e ad f k d c' tl' M0 M'->Bh f c tl c' tl'->Q (gY T.i.house T.i.door) (LG e ad f c' M')):av (P e) (n+6) 75 [.ref (ad 0),.str "note",.int T.i.place,.int T.i.far,.int T.m,.str "say"] (LG e ad f c M) Q:=by
 have Hj:=G.ij;rw[us (i:=75) (d:=tK) rfl];simp only[tK];unfold EZ;walk_at "evl";rw[G.of_outer hT]
 (try walk_at "evl")
 unfold EY;walk_at "evl";exact G.lead_in tb lv hT h2
end
section
structure Pe where
 mu:Int
 i:bV
 m:Int
 tx:Str
noncomputable def Pe.dc (E:Pe):RV:=.tup [.str "come",.str "note",.int E.i.place,.int E.i.far,.int E.m,.str "say",.str E.tx]
noncomputable def Pe.dn (E:Pe):RV:=.tup [.str "out",.str "note",.int E.i.house,.int E.i.door,.int E.i.place,.int E.i.far,.str "say",.str E.tx]
abbrev Bk:=Int×Option (Bool×Pe)
noncomputable def eL (b:Bk):RV:=match b.2 with
 |none=>.tup [.tup [.str "wait",.int b.1],.ao]
 |some x=>if x.1=true then .tup [x.2.dn,led x.2.m]else .tup [x.2.dc,gY x.2.i.house x.2.i.door]
variable {e:Env}{n:Nat}{M M0 L:RM}{Q:aj}{ad:Nat->Addr}{f:Fm}{i j:bV}{k d k' d':Nat}{c c':Cn}{tl tl':List Tk}{t ov u m mo p q:Int}{v:RV}{tx:Str}{a b x y g:Addr}{bk:List Bk}{T U:Tk}{o o':RO}
theorem Pr{nm:Str}{ps:LR}{L:RM}{g dn:Addr}{fr rt rs wi:RV}{post:RV->RM->Prop}(hg:L g=some (bR e fr rt rs (.ref dn) wi))(hd:∀Q:aj,Q (.bl true) L->av (P e) (n+8) 13 [.tup (.str nm::ps)] L Q)
 (ha:∀K:aj,(∀v M2,post v M2->K v M2)->av (P e) (n+8) 62 [.ref g,.str nm,.tup ps] L K)
 (hq:∀v M2,post v M2->∃fr2 rt2 rs2 wi2 ds,M2 g=some (bR e fr2 rt2 rs2 (.ref dn) wi2)/\M2 dn=some (.lst ds)/\ds.length<1000/\Q v (put M2 dn (.lst (ds++ [.tup [.tup (.str nm::ps),v]])))):av (P e) (n+9) 39 [.ref g,.tup (.str nm::ps)] L Q:=by
 rw[us (i:=39) (d:=ui) rfl];simp only[ui];walk_at "ev";refine hd _ ?_;walk_at "evs";rw[BH];refine ha _ λv M2 hp=>?_
 obtain⟨fr2,rt2,rs2,wi2,ds,g1,g2,g3,g4⟩:=hq v M2 hp;rw[g1];walk_at "ev";rw[g2];walk_at "ev";exact⟨ds,_,rfl,g2,d8 g3 ⋯,g4⟩
variable {fr rt rs rdd wi:RV}{ps:LR}{k1 k2 k3 k4 k5 k6:RV}
theorem Zg(hg:L g=some (bR e fr rt rs rdd wi)):av (P e) (n+1) 62 [.ref g,.str "out",.tup ps] L Q=av (P e) n 41 [.ref g,.tup ps] L Q:=by
 rw[us (i:=62) (d:=lL) rfl];simp only[lL];unfold yS;walk_at "evs"
theorem XB(hg:L g=some (bR e fr rt rs rdd wi)):av (P e) (n+1) 62 [.ref g,.str "come",.tup [k1,k2,k3,k4,k5,k6]] L Q=av (P e) n 75 [.ref g,k1,k2,k3,k4,k5] L Q:=by
 rw[us (i:=62) (d:=lL) rfl];simp only[lL];unfold yS;walk_at "evs";rw[ag (by decide+kernel)];unfold BV;walk_at "evs"
theorem M7{nm:Str}(h1:(nm==("out":Str))=false)(h2:(nm==("come":Str))=false):av (P e) (n+1) 62 [.ref g,.str nm,.tup ps] L Q=(tr ((P e).Gn n) BU).S (rd Q) [some (.ref g),some (.str nm),some (.tup ps),none,none,none,none,none,none] L:=by
 rw[us (i:=62) (d:=lL) rfl];simp only[lL];unfold yS;walk_at "ev";rw[ag (by rw[h1];decide)];unfold BV;walk_at "ev"
 rw[ag (by rw[h2];decide)]
theorem XA{tt:Addr}{v1 v2 v3 v4 v5 v6 v7:RV}(hg:L g=some (bR e fr (.ref tt) rs rdd wi))(ht:L tt=some (bQ e v1 v2 v3 v4 v5 v6 v7)):av (P e) (n+1) 62 [.ref g,.str "wait",.tup [k1]] L Q=av (P e) n 37 [.ref tt,k1] L λ_ M1=>Q .ao M1:=by
 rw[M7 (by decide+kernel) (by decide+kernel)];unfold BU;walk_at "ev"
 rw[ag (by decide+kernel)];unfold DQ;walk_at "evs"
theorem Gd.do_{nm:Str}{ps:LR}{post:RV->Cn->List Tk->Prop}(G:Gd e ad f k d c tl M0 M)(hd:∀Q:aj,Q (.bl true) (LG e ad f c M)->av (P e) (n+8) 13 [.tup (.str nm::ps)] (LG e ad f c M) Q)(hl:d<1000)
 (ha:∀K:aj,(∀v c' tl' M',Gd e ad f k' d c' tl' M0 M'->post v c' tl'->K v (LG e ad f c' M'))->av (P e) (n+8) 62 [.ref (ad 0),.str nm,.tup ps] (LG e ad f c M) K)
 (hq:∀v c' tl' M',Gd e ad f k' (d+1) { c' with ds:=c'.ds++ [.tup [.tup (.str nm::ps),v]] } tl' M0 M'->post v c' tl'->Q v (LG e ad f { c' with ds:=c'.ds++ [.tup [.tup (.str nm::ps),v]] } M')):av (P e) (n+9) 39 [.ref (ad 0),.tup (.str nm::ps)] (LG e ad f c M) Q:=by
 have Hj:=G.ij;refine Pr (dn:=ad 9) (post:=λv L=>∃c' tl' M',L=LG e ad f c' M'/\Gd e ad f k' d c' tl' M0 M'/\post v c' tl') (lg Hj (Nat.le_of_ble_eq_true rfl)) hd (λK hK=>ha K λv c' tl' M' G' hp=>hK _ _ ⟨c',tl',M',rfl,G',hp⟩) λv L2 hp=>?_
 obtain⟨c',tl',M',rfl,G',hp⟩:=hp;refine⟨_,_,_,_,c'.ds,lg Hj (Nat.le_of_ble_eq_true rfl),lg Hj (Nat.le_of_ble_eq_true rfl),jm G'.s4 hl,?_⟩;rw[lp Hj (Nat.le_of_ble_eq_true rfl)];exact hq v c' tl' M' G'.book hp
noncomputable def Gt (e:Env)(g:Addr)(f:Fm)(k d:Nat)(c:Cn)(tl:List Tk)(bk:List Bk)(M0 L:RM):Prop:=(Lv f c tl/\c.ds=bk.map eL)/\∃ad M,Gd e ad f k d c tl M0 M/\L=LG e ad f c M/\ad 0=g
theorem Gt.of(G:Gd e ad f k d c tl M0 M)(lv:Lv f c tl)(hb:c.ds=bk.map eL):Gt e (ad 0) f k d c tl bk M0 (LG e ad f c M):=⟨⟨lv,hb⟩,ad,M,G,rfl,rfl⟩
theorem AE{ds:LR}{b:Bk}(h:ds=bk.map eL):ds++ [eL b]=(bk++ [b]).map eL:=by rw[h,eQ];rfl
theorem Gt.at_(h:Gt e g f k d c tl bk M0 L)(ha:M0 a=some o):L a=some o:=by
 obtain⟨_,ad,M,G,rfl,_⟩:=h;obtain⟨h1,h2,_⟩:=G.fr a o ha;exact(lo h2).trans h1
theorem Gt.other(h:Gt e g f k d c tl bk M0 L)(ha:M0 a=some o):Gt e g f k d c tl bk (put M0 a o') (put L a o'):=by
 obtain⟨hc,ad,M,G,rfl,hg⟩:=h;obtain⟨h1,h2,h3,h4⟩:=G.fr a o ha;refine⟨hc,ad,put M a o',{ G with tk:=λT hT=>⟨(put_ne (h3 T hT)).trans (G.tk T hT).1,(G.tk T hT).2⟩,nb:=λx hx=>⟨(put_ne (h4 x hx)).trans (G.nb x hx).1,(G.nb x hx).2⟩,fr:=λb u hb=>?_ },lop h2,hg⟩
 by_cases z:b=a
 . subst z;rw[br]at hb;cases hb;exact⟨br,h2,h3,h4⟩
 . rw[put_ne z]at hb ⊢;exact G.fr b u hb
theorem Gt.new(h:Gt e g f k d c tl bk M0 L)(ha:L a=none):Gt e g f k d c tl bk (put M0 a o) (put L a o):=by
 obtain⟨hc,ad,M,G,rfl,hg⟩:=h;obtain⟨h2,h1⟩:=of_none G.ij rfl ha;have h3:∀T∈tl,T.a≠a:=λT hT=>ig h1 (G.tk T hT).1
 have h4:∀x∈c.N,x.2≠a:=λx hx=>ig h1 (G.nb x hx).1
 refine⟨hc,ad,put M a o,{ G with tk:=λT hT=>⟨(put_ne (h3 T hT)).trans (G.tk T hT).1,(G.tk T hT).2⟩,nb:=λx hx=>⟨(put_ne (h4 x hx)).trans (G.nb x hx).1,(G.nb x hx).2⟩,fr:=λb u hb=>?_ },lop h2,hg⟩
 by_cases z:b=a
 . subst z;rw[br]at hb;cases hb;exact⟨br,h2,h3,h4⟩
 . rw[put_ne z]at hb ⊢;exact G.fr b u hb
theorem Gt.gate(h:Gt e g f k d c tl bk M0 L):∃rt rs rd,L g=some (bR e f.r rt rs rd .ao):=by
 obtain⟨_,ad,M,G,rfl,rfl⟩:=h;exact⟨_,_,_,lg G.ij (Nat.le_of_ble_eq_true rfl)⟩
theorem Gt.out(h:Gt e g f k d c tl bk M0 L)(tb:Tb e)(fw:Fw f)(hk:k<190)(hd:d<900)(oki:i.Ok)(ht:Tx tx)
 (hq:∀m c' tl' L',Gt e g f (k+1) (d+1) c' tl' (bk++ [(0,some (true,⟨0,i,m,tx⟩))]) M0 L'->Al tl tl'->Own f i m c' tl'->c'.now=c.now->Q (led m) L'):av (P e) (n+10) 77 [.ref g,.str "note",.int i.house,.int i.door,.int i.place,.int i.far,.str "say",.str tx] L Q:=by
 obtain⟨⟨lv,hb⟩,ad,M,G,rfl,rfl⟩:=h;have Hj:=G.ij;have pl:=oki.place;rw[us (i:=77) (d:=ua) rfl];simp only[ua];walk_at "evl";refine G.do_ (k':=k+1) (post:=λv c' tl'=>∃m,v=led m/\fK f i m c tl c' tl') (λQ hQ=>AQ tb.out (Tf ht oki.house oki.door ⟨∅,∅⟩ oki.far hQ)) ∅ (λK hK=>?_) λv c' tl' M' G' hp=>?_
 . rw[Zg (lg Hj (Nat.le_of_ble_eq_true rfl))]
   rw[us (i:=41) (d:=ug) rfl];simp only[ug];walk_at "evl";rw[show RV.tup [.str "note",.int i.house,.int i.door,.int i.place,.int i.far]=i.r from rfl]
   refine G.lead_out tb fw lv hk oki λm c' tl' M' G' hp=>?_
   (try walk_at "evl")
   rw[ar (by simp;omega)]
   exact hK _ _ _ _ G' ⟨m,rfl,hp⟩
 . obtain⟨m,rfl,o⟩:=hp
   refine hq m _ tl' _ (Gt.of G' o.lv ?_) o.al o.own o.nw;exact AE (b:=(0,some (true,⟨0,i,m,tx⟩))) (o.ds.trans hb)
theorem Gt.come{E:Pe}(h:Gt e g f k d c tl bk M0 L)(tb:Tb e)(fw:Fw f)(hd:d<900)(hT:∃T∈tl,T.i=E.i/\T.m=E.m)(ht:Tx E.tx)
 (hq:∀c' tl' L',Gt e g f k (d+1) c' tl' (bk++ [(0,some (false,E))]) M0 L'->Al tl tl'->c'.now=c.now->Q (gY E.i.house E.i.door) L'):av (P e) (n+9) 39 [.ref g,E.dc] L Q:=by
 obtain⟨⟨lv,hb⟩,ad,M,G,rfl,rfl⟩:=h;obtain⟨mu,i,m,tx⟩:=E;obtain⟨T,hT,rfl,rfl⟩:=hT;have Hj:=G.ij;have lo:=fw.ok.lo;have hi:=fw.ok.hi;have oki:=G.ws T hT;have hm:=(G.hk _ (jc (G.tn T hT))).2;refine G.do_ (k':=k) (post:=λv c' tl'=>v=gY T.i.house T.i.door/\Bh f c tl c' tl') (λQ hQ=>AQ tb.come (Sk ht oki.place oki.far (show 1<=T.m/\T.m<=9999 by omega) hQ)) ∅ (λK hK=>?_) λv c' tl' M' G' hp=>?_
 . rw[XB (lg Hj (Nat.le_of_ble_eq_true rfl))]
   exact G.come_in tb lv hT λc' tl' M' G' cl=>hK _ _ _ _ G' ⟨rfl,cl⟩
 . obtain⟨rfl,o⟩:=hp
   refine hq _ tl' _ (Gt.of G' o.lv ?_) o.al o.nw;exact AE (b:=(0,some (false,⟨mu,T.i,T.m,tx⟩))) (o.ds.trans hb)
theorem Gt.wait(h:Gt e g f k d c tl bk M0 L)(tb:Tb e)(htb:M0 e.lP=some (bN e))(hk:k<64)(hd:d<900)(h1:0<=t)(h2:t<=1000000)(hq:∀c' tl' L',Gt e g f k (d+1) c' tl' (bk++ [(t,none)]) M0 L'->c'.now=c.now+t->(∀T∈tl,c'.now<T.ov->T∈tl')->Q .ao L'):av (P e) (n+10) 40 [.ref g,.int t] L Q:=by
 obtain⟨⟨lv,hb⟩,ad,M,G,rfl,rfl⟩:=h;have Hj:=G.ij;rw[us (i:=40) (d:=uf) rfl];simp only[uf];walk_at "evl";refine G.do_ (k':=k) (post:=λv c' tl'=>v= .ao/\c'.now=c.now+t/\c'.ds=c.ds/\∀T,T∈tl'↔T∈tl/\c'.now<T.ov) (λQ hQ=>AQ tb.wait (Sh h1 h2 hQ)) ∅ (λK hK=>?_) λv c' tl' M' G' hp=>?_
 . rw[XA (lg Hj (Nat.le_of_ble_eq_true rfl)) (lg Hj (Nat.le_of_ble_eq_true rfl))]
   exact Sf G hk htb λc' tl' M' G' hs hn hd=>hK _ _ _ _ G' ⟨rfl,hn,hd,hs⟩
 . obtain⟨rfl,h2,h3,h4⟩:=hp
   refine hq _ tl' _ (Gt.of G' (λT hT=>?_) ?_) h2 λT hT h=>(h4 T).mpr ⟨hT,h⟩
   . have:=lv T ((h4 T).mp hT).1
     show T.ov<=c'.now+f.t0;omega
   . exact AE (b:=(t,none)) (h3.trans hb)
theorem Gt.moment(h:Gt e g f k d c tl bk M0 L)(hq:Q (.int c.now) L):av (P e) (n+1) 19 [.ref g] L Q:=by
 obtain⟨_,ad,M,G,rfl,rfl⟩:=h;have Hj:=G.ij;rw[us (i:=19) (d:=tN) rfl];simp only[tN];walk_at "evl"
theorem T2{xs:LR}(h:M a=some (.lst xs)):qy "list" [.ref a] M Q=Q (.ls xs) M:=by
 show(match M a with|some (.lst xs)=>Q (.ls xs) M|_=>False)=_
 rw[h]
theorem Gt.book(h:Gt e g f k d c tl bk M0 L)(hq:Q (.ls (bk.map eL)) L):av (P e) (n+1) 20 [.ref g] L Q:=by
 obtain⟨⟨_,hb⟩,ad,M,G,rfl,rfl⟩:=h;have Hj:=G.ij;rw[us (i:=20) (d:=uj) rfl];simp only[uj];walk_at "evl";rw[T2 (xs:=c.ds) (lg Hj (Nat.le_of_ble_eq_true rfl)),hb];exact hq
end
section
variable {e:Env}{n:Nat}{M:RM}{Q:aj}{f:Fm}{i:bV}
theorem iH{ad:Nat->Addr}{os:List RO}{x:Addr}{k:Nat}(H:Ij ad k)(F:∀j,j<k->M (ad j)=none)(hl:os.length=k)(hx:lay ad 0 os M x=none):∃ad',(∀j,j<k->ad j=ad' j)/\ad' k=x/\Ij ad' (k+1)/\(∀j,j<k+1->M (ad' j)=none)/\∀o,put (lay ad 0 os M) x o=lay ad' 0 (os++ [o]) M:=by
 obtain⟨a,h1,h2,h3,h4⟩:=NJ H hl hx;refine⟨a,h1,h2,h3,λj hj=>?_,h4⟩
 by_cases z:j<k
 . rw[<-h1 j z];exact F j z
 . rw[show j=k by omega,h2];exact Am hx
theorem UL{ad:Nat->Addr}{os:List RO}{r s d:RO}(H:Ij ad 12)(hl:os.length=9):lay ad 0 (os++ [r,s,d]) M=lay (λj=>if j=9 then ad 11 else if j=10 then ad 9 else if j=11 then ad 10 else ad j) 0 (os++ [d,r,s]) M:=by
 have n1:ad 11≠ad 10:=λz=>by have:=H 11 10 ⋯ ⋯ z;omega
 have n2:ad 11≠ad 9:=λz=>by have:=H 11 9 ⋯ ⋯ z;omega
 rw[show os++ [r,s,d]=((os++ [r])++ [s])++ [d] by simp,show os++ [d,r,s]=((os++ [d])++ [r])++ [s] by simp,mQ,mQ,mQ,mQ,mQ,mQ]
 simp only[cN,List.length_cons,List.length_nil,hl,Nat.reduceAdd,↓reduceIte,iy,Nat.reduceEqDiff];rw[qQ n1,qQ n2];exact AJ λj hj=>by
  rw[hl]at hj;show _=if j=9 then ad 11 else if j=10 then ad 9 else if j=11 then ad 10 else ad j
  rw[ag ∅,ag ∅,ag ∅]
noncomputable abbrev zG (f:Fm):Cn:=⟨0,f.low,[],[],[],[],[],[],[]⟩
noncomputable def Gr (e:Env)(g:Addr)(f:Fm)(M0 M:RM):Prop:=∃ad,M=LG e ad f (zG f) M0/\Ij ad 12/\ad 0=g/\∀a o,M0 a=some o->Of ad 12 a
theorem Tv{x:Addr}(okf:f.Ok)(hx:M x=none)(hq:∀M',Gr e x f M M'->Q .ao M'):av (P e) (n+6) 38 [.ref x,f.r] (put M x (.ins (e.C 4) [])) Q:=by
 rw[us (i:=38) (d:=uh) rfl];simp only[uh];unfold EK;walk_at "ev";refine Sj okf ?_;obtain⟨a1,_,rfl,H1,F1,e1⟩:=iH (ad:=λ_=>x) (os:=[]) (M:=M) (k:=0) (λi j hi=>bp hi (Nat.not_lt_zero _)) (λj hj=>bp hj (Nat.not_lt_zero _)) rfl hx
 rw[show put M (a1 0) (.ins (e.C 4) [])=lay a1 0 ([]++ [.ins (e.C 4) []]) M from e1 _]
 unfold EJ;walk_at "evl";unfold EI;walk_at "evl";intro t ht;obtain⟨a2,h2,rfl,H2,F2,e2⟩:=iH (k:=1) H1 F1 rfl ht;rw[e2];clear e1 e2 H1 F1 ht;rw[us (i:=33) (d:=tj) rfl];simp only[tj];unfold El;walk_at "evl";unfold Ek;walk_at "evl";rw[Nh,Ni];intro y hy;obtain⟨a3,h3,rfl,H3,F3,e3⟩:=iH (k:=2) H2 F2 rfl hy;rw[e3];clear e3 H2 F2 hy;rw[us (i:=55) (d:=ud) rfl];simp only[ud];walk_at "evl";intro y hy;obtain⟨a4,h4,rfl,H4,F4,e4⟩:=iH (k:=3) H3 F3 rfl hy;rw[e4];clear e4 H3 F3 hy;walk_at "evl";intro y hy;obtain⟨a5,h5,rfl,H5,F5,e5⟩:=iH (k:=4) H4 F4 rfl hy;rw[e5];clear e5 H4 F4 hy;walk_at "evl";unfold Ej;walk_at "evl";unfold Ei;walk_at "evl";intro y hy;obtain⟨a6,h6,rfl,H6,F6,e6⟩:=iH (k:=5) H5 F5 rfl hy;rw[e6];clear e6 H5 F5 hy
 (try walk_at "evl")
 unfold Eh;walk_at "evl";intro y hy;obtain⟨a7,h7,rfl,H7,F7,e7⟩:=iH (k:=6) H6 F6 rfl hy;rw[e7];clear e7 H6 F6 hy
 (try walk_at "evl")
 unfold Eg;walk_at "evl";intro y hy;obtain⟨a8,h8,rfl,H8,F8,e8⟩:=iH (k:=7) H7 F7 rfl hy;rw[e8];clear e8 H7 F7 hy
 (try walk_at "evl")
 unfold Ef;walk_at "evl";intro y hy;obtain⟨a9,h9,rfl,H9,F9,e9⟩:=iH (k:=8) H8 F8 rfl hy;rw[e9];clear e9 H8 F8 hy;walk_at "evl";unfold EH;walk_at "evl";intro y hy;obtain⟨a10,h10,rfl,H10,F10,e10⟩:=iH (k:=9) H9 F9 rfl hy;rw[e10];clear e10 H9 F9 hy;rw[us (i:=16) (d:=tq) rfl];simp only[tq];walk_at "evl";intro y hy;obtain⟨a11,h11,rfl,H11,F11,e11⟩:=iH (k:=10) H10 F10 rfl hy;rw[e11];clear e11 H10 F10 hy;walk_at "evl";unfold EG;walk_at "evl";intro y hy;obtain⟨a12,h12,rfl,H12,F12,e12⟩:=iH (k:=11) H11 F11 rfl hy;rw[e12];clear e12 H11 F11 hy
 (try walk_at "evl")
 unfold EF;walk_at "evl";have e0:a1 0=a12 0:=by rw[h2 0 ⋯,h3 0 ⋯,h4 0 ⋯,h5 0 ⋯,h6 0 ⋯,h7 0 ⋯,h8 0 ⋯,h9 0 ⋯,h10 0 ⋯,h11 0 ⋯,h12 0 ⋯]
 refine hq _ ⟨λj=>if j=9 then a12 11 else if j=10 then a12 9 else if j=11 then a12 10 else a12 j,(UL (os:=[_,_,_,_,_,_,_,_,_]) H12 rfl).trans rfl,λi j hi hj z=>?_,e0.symm,λa o ha j hj z=>?_⟩
 . have q:∀i,i<12->∃k,k<12/\(if i=9 then a12 11 else if i=10 then a12 9 else if i=11 then a12 10 else a12 i)=a12 k/\(i=9/\k=11∨i=10/\k=9∨i=11/\k=10∨i<9/\k=i):=λi hi=>by
    by_cases p:i=9
    . exact⟨11,⋯,by rw[ar p],.inl ⟨p,rfl⟩⟩
    . by_cases p2:i=10
      . exact⟨9,⋯,by rw[ag p,ar p2],.inr (.inl ⟨p2,rfl⟩)⟩
      . by_cases p3:i=11
        . exact⟨10,⋯,by rw[ag p,ag p2,ar p3],.inr (.inr (.inl ⟨p3,rfl⟩))⟩
        . exact⟨i,hi,by rw[ag p,ag p2,ag p3],.inr (.inr (.inr ⟨∅,rfl⟩))⟩
   obtain⟨k1,q1,q2,q3⟩:=q i hi;obtain⟨k2,q4,q5,q6⟩:=q j hj;have z:a12 k1=a12 k2:=by rw[<-q2,<-q5];exact z
   have:=H12 k1 k2 q1 q4 z;omega
 . have q:∀j,j<12->a≠a12 j:=λj hj z=>by have:=F12 j hj;rw[<-z,ha]at this;cases this
   dsimp only at z;split at z
   . exact q 11 ⋯ z.symm
   . split at z
     . exact q 9 ⋯ z.symm
     . split at z
       . exact q 10 ⋯ z.symm
       . exact q j hj z.symm
theorem Gr.gt{g:Addr}{M0:RM}(h:Gr e g f M0 M)(fw:Fw f):Gt e g f 0 0 (zG f) [] [] M0 M:=by
 obtain⟨ad,rfl,H,rfl,h⟩:=h;refine .of ?_ (fI _) rfl;exact { ij:=H,cB:=rfl,cT:=rfl,cH:=rfl,tk:=fI _,nb:=fI _,fr:=λa o ha=>⟨ha,h a o ha,fI _,fI _⟩,d1:=jI,d2:=jI,d3:=jI,d4:=jI,d5:=jI,d6:=jI,od:=fI _,tn:=fI _,tb:=fI _,hk:=fI _,ws:=fI _,mr:=⟨mz _,fw.ok.le⟩,s0:=aS _,s1:=aS _,s2:=aS _,s3:=aS _,s4:=aS _ }
end
section
variable {e:Env}{n:Nat}{M:RM}{Q:aj}
theorem FG{xs:List Int}{k:Nat}:av (P e) (n+1) 47 [.ls (xs.map RV.int),.int k] M Q=Q (.int (xs.getD k 0)) M:=by
 rw[us (i:=47) (d:=wQ) rfl];simp only[wQ];walk_at "ev";rw[bw]
 by_cases h:k<xs.length
 . rw[ar (by simpa using h),iM (v:=RV.int (xs.getD k 0)) (by simp[h])]
   rfl
 . rw[ag (by simpa using h)]
   simp[Nat.le_of_not_lt h]
structure bF where
 a:Int
 b:Int
 c:Int
noncomputable def bF.l (g:bF):RO:=.lst [.int g.a,.int g.b,.int g.c]
structure bF.Ok(g:bF):Prop where
 a:0<=g.a
 b:0<=g.b/\g.b<2305843009213693951
 c:0<=g.c/\g.c<1000000
theorem RH{x:Addr}{g:bF}{m:Int}(hx:M x=some g.l)(ha:0<g.a)(hm:0<m)(hm2:m<1073741824)(hq:Q (.int (g.a % m)) (put M x (bF.l ⟨g.a / m,g.b,g.c⟩))):av (P e) (n+1) 49 [.ref x,.int m] M Q:=by
 unfold bF.l at hx;rw[us (i:=49) (d:=qN) rfl];simp only[qN];walk_at "evs";exact hq
noncomputable def vg:Int:=2305843009213693951
noncomputable def ZL (b c:Int):Int:=((((b+1000003*c) % vg)*((b+1000003*c) % vg)+7919*c ^ 2+5) % vg) ^ 3 % vg / 13
theorem uR{i j:Int}(h1:-(2 ^ 64)<i)(h2:i<2 ^ 64):gM i j:=.inl ⟨h1,h2⟩
theorem QD{x:Addr}{g:bF}{m:Int}(hx:M x=some g.l)(ok:g.Ok)(ha:¬0<g.a)(hm:0<m)(hq:Q (.int (ZL g.b (g.c+1) % m)) (put M x (bF.l ⟨g.a,g.b,g.c+1⟩))):av (P e) (n+1) 49 [.ref x,.int m] M Q:=by
 obtain⟨_,⟨b1,b2⟩,c1,c2⟩:=ok;unfold bF.l at hx;rw[us (i:=49) (d:=qN) rfl];simp only[qN];walk_at "evs";have e1:=Int.emod_nonneg (g.b+1000003*(g.c+1)) (b:=2305843009213693951) ⋯
 have e2:=Int.emod_lt_of_pos (g.b+1000003*(g.c+1)) (b:=2305843009213693951) ⋯
 have e3:∀z:Int,(z % 2305843009213693951).natAbs<2 ^ 64:=λz=>by
  have h1:=Int.emod_nonneg z (b:=2305843009213693951) ⋯
  have h2:=Int.emod_lt_of_pos z (b:=2305843009213693951) ⋯
  omega
 exact⟨uR ⋯ ⋯,uR ∅ ∅,∅,uR ⋯ ⋯,e3 _,hq⟩
noncomputable def uL (cell turn:Int):bF:=⟨if 10 ^ 18<=cell then cell-10 ^ 18 else 0,cell % vg,turn⟩
theorem YE:(10:Int) ^ Int.toNat 18=10 ^ 18:=rfl
theorem xV{c t:Int}(hq:∀p,M p=none->Q (.ref p) (put M p (uL c t).l)):av (P e) (n+1) 48 [.int c,.int t] M Q:=by
 rw[us (i:=48) (d:=wN) rfl];simp only[wN];walk_at "ev";refine⟨⋯,?_⟩
 rw[YE];unfold uL bF.l at hq
 by_cases h:(10:Int) ^ 18<=c
 . rw[ar (by simpa using h)]
   simp only[ar h]at hq;exact⟨⋯,hq⟩
 . rw[ag (by simpa using h)]
   simp only[ag h]at hq;exact hq
structure bF.In(g:bF)(k:Int):Prop where
 a:0<=g.a
 b:0<=g.b/\g.b<2305843009213693951
 c:0<=g.c/\g.c<=k
theorem pz{a m:Int}(hm:0<m):0<=a % m/\a % m<m:=⟨Int.emod_nonneg _ ∅,Int.emod_lt_of_pos _ hm⟩
theorem fy{x:Addr}{g:bF}{m k:Int}(hx:M x=some g.l)(ok:g.In k)(hk:k<999999)(hm:0<m)(hm2:m<1073741824)(hq:∀v g',0<=v->v<m->bF.In g' (k+1)->Q (.int v) (put M x g'.l)):av (P e) (n+1) 49 [.ref x,.int m] M Q:=by
 obtain⟨o1,o2,o3,o4⟩:=ok
 by_cases h:0<g.a
 . exact RH hx h hm hm2 (hq _ _ (pz hm).1 (pz hm).2 ⟨Int.ediv_nonneg o1 ∅,o2,o3,by show g.c<=k+1;omega⟩)
 . exact QD hx ⟨o1,o2,o3,∅⟩ h hm (hq _ _ (pz hm).1 (pz hm).2 ⟨o1,o2,by show 0<=g.c+1;omega,by show g.c+1<=k+1;omega⟩)
theorem rG{xs:LR}{v:Int}(h0:0<=v)(h1:v<xs.length):∃y∈xs,∀{M:RM} {Q:aj},cw (.ls xs) (.int v) M Q=Q y M:=by
 obtain⟨j,rfl⟩:∃j:Nat,v=j:=⟨v.toNat,∅⟩
 have hj:j<xs.length:=by omega
 refine⟨xs[j],List.getElem_mem _,λ{M Q}=>?_⟩
 rw[VY,iM (v:=xs[j]) (by simp[hj])];rfl
theorem JY{a:Int}:0<=a % 2305843009213693951/\a % 2305843009213693951<2305843009213693951:=pz ⋯
theorem xK{c:Int}:(uL c 0).In 0:=⟨by unfold uL;dsimp only;split<;>omega,JY,⟨mz _,mz _⟩⟩
theorem Ah{bd:RV->Option (LR)}{md:Bool}{ok:RM->Prop}{un:RM->RM}{te:ak}{tt:cU}{base:List (Option RV)}(I:LR->RM->Prop)(ht:∀σ M (K:Bool->RM->Prop),K true M->tt σ M K)(au:∀acc M,I acc M->ok M):∀(xs acc:LR) (M:RM),I acc M->
 (∀x∈xs,∀acc2 M,acc2.length<acc.length+xs.length->I acc2 M->∃bs,bd x=some bs/\∀K:aj,(∀v M',I (acc2++ [v]) M'->K v M')->te (bs.map some++base) M K)->
 (∀acc' M',acc'.length=acc.length+xs.length->I acc' M'->jA md acc' (un M') Q)->fZ bd md ok un tt te base xs acc M Q
 | [],acc,M,h,_,hq=>⟨au _ _ h,hq acc M rfl h⟩
 |x::xs,acc,M,h,hs,hq=>by
  obtain⟨bs,h1,h2⟩:=hs x (.head _) acc M (by rw[List.length_cons];omega) h
  refine⟨au _ _ h,?_⟩;rw[h1];refine ht _ _ _ ⟨λ_=>h2 _ λv M' h'=>Ah I ht au xs _ M' h' (λy hy acc2 M2 hlt=>hs y (.tail _ hy) acc2 M2 (by rw[cN]at hlt;rw[List.length_cons];have:acc2.length<acc.length+1+xs.length:=hlt;omega)) λacc' M'' hl h''=>hq acc' M'' ?_ h'',λz=>by cases z⟩
  rw[hl,cN];show acc.length+1+xs.length=acc.length+(xs.length+1);omega
theorem yG(l:az){v:Int}(h0:0<=v)(h1:v<l.length):∃m∈l,∀{M:RM} {Q:aj},cw (.ls (l.map RV.str)) (.int v) M Q=Q (.str m) M:=by
 obtain⟨y,hy,ey⟩:=rG (xs:=l.map RV.str) h0 (by rw[bw];exact h1)
 obtain⟨m,hm,rfl⟩:=aW.mp hy;exact⟨m,hm,ey⟩
theorem Ti{xs:List Int}{k:Int}(h0:0<=k)(hk:k<1000)(hx:0<xs.length)(hl:xs.length<1000)(hq:∀p g,M p=none->bF.In g 0->Q (.ref p) (put M p g.l)):av (P e) (n+2) 50 [.ls (xs.map RV.int),.int k] M Q:=by
 obtain⟨j,rfl⟩:∃j:Nat,k=j:=⟨k.toNat,∅⟩
 rw[us (i:=50) (d:=wR) rfl];simp only[wR];walk_at "ev";rw[bw]
 by_cases h:j<xs.length
 . rw[ar (by simpa using h),iM (v:=RV.int (xs.getD j 0)) (by simp[h])]
   walk_at "ev";exact xV λp hp=>hq p _ hp xK
 . rw[ag (by simpa using h)]
   refine⟨∅,?_⟩
   have h2:j % xs.length<xs.length:=Nat.mod_lt _ hx;rw[show((j:Int) % (xs.length:Int))=((j % xs.length:Nat):Int)from by simp,iM (v:=RV.int (xs.getD (j % xs.length) 0)) (by simp[h2])]
   walk_at "ev";refine⟨⋯,⋯,xV λp hp=>?_⟩
   unfold bF.l;walk_at "ev";refine⟨uR ⋯ ⋯,.inl ⟨∅,∅⟩,uR ⋯ ⋯,?_⟩
   generalize hw:uL _ 0=wb;have w:wb.In 0:=hw ▸ xK;exact hq p ⟨wb.a,_ % _,wb.c⟩ hp ⟨w.a,JY,w.c⟩
def yR(lo hi:Int)(y:RV):Prop:=∃m:Int,y= .int m/\lo<=m/\m<=hi
def Bg(y:RV):Prop:=∃h d:Int,y= .tup [.int h,.int d]/\(0<=h/\h<=99)/\(1<=d/\d<=9999)
theorem Ic{x:Addr}{g:bF}{k N:Int}{z:Nat}(hz:z<10)(hN:0<N/\N<1073741824)(hx:M x=some g.l)(ok:g.In k)(hk:k<900000)(hq:∀acc g',acc.length=z->(∀y∈acc,yR 1 N y)->bF.In g' (k+z)->Q (.ls acc) (put M x g'.l)):
 fZ (gh false 1) false dE id (tr ((P e).Gn (n+1)) (.b true)).T (tr ((P e).Gn (n+1)) (.op .Add (.i 1) (.ca 49 (.ec (.v 1) (.ec (.i N) .e0))))).E [some (.ref x)] (nums z) [] M Q:=by
 refine Ah (λacc M'=>(∀y∈acc,yR 1 N y)/\∃g':bF,M'=put M x g'.l/\g'.In (k+acc.length)) (λσ M K h=>h) (λ_ _ _=>gB) _ _ _ ⟨fI _,g,(lM hx).symm,by show g.In (k+0);rwa [Int.add_zero]⟩ (λy hy acc M' hlt h=>?_) λacc' M' hl h=>?_
 . obtain⟨h1,g',rfl,h3⟩:=h
   refine⟨[y],rfl,λK hK=>?_⟩
   show(tr ((P e).Gn (n+1)) _).E [some y,some (.ref x)] _ K;have hlt:acc.length<0+(nums z).length:=hlt;rw[mU]at hlt;walk_at "ev";refine fy (n:=n) br h3 ∅ hN.1 hN.2 λv1 g1 a1 b1 o1=>?_
   rw[eF,f7];refine hK _ _ ⟨λz hz=>?_,g1,rfl,⟨o1.a,o1.b,o1.c.1,by have:=o1.c.2;rw[cN];show g1.c<=k+((acc.length+1:Nat):Int);omega⟩⟩
   rcases dM.mp hz with q|q
   . exact h1 z q
   . cases iT.mp q;exact⟨1+v1,rfl,∅,∅⟩
 . obtain⟨h1,g',rfl,h3⟩:=h
   have hl:acc'.length=0+(nums z).length:=hl;rw[mU,iy]at hl;rw[hl]at h3;rw[pC,id_eq];exact hq acc' g' hl h1 h3
theorem bF.In.le{g:bF}{a b:Int}(h:g.In a)(hb:a<=b):g.In b:=⟨h.a,h.b,h.c.1,by have:=h.c.2;omega⟩
theorem WI{x:Addr}{g:bF}{le si:Str}(hx:M x=some g.l)(ok:g.In 2)(hq:∀(low:Int) (pk:Str) re tt g',1<=low->low<=9800->(pk= "next"∨pk= "keep")->bF.In g' 10->Q (.tup [.int low,.int (low+199),.str le,.str si,.str pk,.int 200,.bl re,tt]) (put M x g'.l)):av (P e) (n+2) 66 [.ref x,.str le,.str si] M Q:=by
 rw[us (i:=66) (d:=wM) rfl];simp only[wM];unfold Eb;walk_at "z";refine fy (n:=n) hx ok ⋯ ⋯ ⋯ λv1 g1 a1 b1 ok1=>?_
 rw[f7];unfold Ea;walk_at "z";refine fy (n:=n) br ok1 ⋯ ⋯ ⋯ λv2 g2 a2 b2 ok2=>?_
 rw[eF,f7];refine fy (n:=n) br ok2 ⋯ ⋯ ⋯ λv3 g3 a3 b3 ok3=>?_
 rw[eF,f7];refine fy (n:=n) br ok3 ⋯ ⋯ ⋯ λv4 g4 a4 b4 ok4=>?_
 rw[eF,f7];refine fy (n:=n) br ok4 ⋯ ⋯ ⋯ λv5 g5 a5 b5 ok5=>?_
 rw[eF];unfold D9;walk_at "z";refine fy (n:=n) br ok5 ⋯ ⋯ ⋯ λv6 g6 a6 b6 ok6=>?_
 obtain⟨pk,hpk,ey⟩:=yG ["next","keep"] a6 b6
 change ∀{M:RM} {Q:aj},cw (.ls [.str "next",.str "keep"]) _ M Q=_ at ey
 rw[ey,eF];unfold D8;walk_at "ev";refine fy (n:=n) br ok6 ⋯ ⋯ ⋯ λv7 g7 a7 b7 ok7=>?_
 rw[eF];walk_at "ev";exact hq (1+v1) pk _ _ g7 ∅ ∅ (by simpa using hpk) (ok7.le ⋯)
theorem Pg{a b c d e f g h:RV}:fF [a,b,c,d,e,f,g,h] none (some 7)= [a,b,c,d,e,f,g]:=rfl
theorem MQ{x:Addr}{g:bF}{low rs:Int}{le si pk:Str}{re:Bool}{tt:RV}(hx:M x=some g.l)(ok:g.In 15)(l1:1<=low)(l2:low<=9800)(hle:le= "door"∨le= "place"∨le= "talk")(hsi:si= "all"∨si= "place"∨si= "talk")(hpk:pk= "next"∨pk= "keep")(h0:0<=rs)(h1:rs<=1000)(hq:∀f g',Fw f->bF.In g' 20->Q f.r (put M x g'.l)):
 (tr ((P e).Gn (n+2)) B4).S (rd Q) [some (.ref x),some (.str le),some (.tup [.int low,.int (low+199),.str le,.str si,.str pk,.int 200,.bl re,tt]),some (.int rs)] M:=by
 unfold B4;walk_at "ev";refine fy (n:=n+1) hx ok ⋯ ⋯ ⋯ λv6 g6 a6 b6 ok6=>?_
 rw[f7];rw[Pg];dsimp only[List.cons_append,List.nil_append,List.length_cons,List.length_nil];refine⟨⋯,?_⟩
 exact hq ⟨low,low+199,le,si,pk,200,re,20+v6,1,1,rs⟩ g6 ⟨⟨by dsimp only;omega,by dsimp only;omega,by dsimp only;omega,by dsimp only;omega,hle,hsi,hpk,by dsimp only;decide,by dsimp only;omega,by dsimp only;decide,by dsimp only;decide,by dsimp only;omega⟩,rfl,rfl,by dsimp only;omega⟩ (ok6.le ⋯)
theorem MP{x:Addr}{g:bF}{low:Int}{le si pk:Str}{re:Bool}{tt:RV}(hx:M x=some g.l)(ok:g.In 10)(l1:1<=low)(l2:low<=9800)(hle:le= "door"∨le= "place"∨le= "talk")(hsi:si= "all"∨si= "place"∨si= "talk")(hpk:pk= "next"∨pk= "keep")(hq:∀f g',Fw f->bF.In g' 20->Q f.r (put M x g'.l)):
 (tr ((P e).Gn (n+2)) B5).S (rd Q) [some (.ref x),some (.str le),some (.tup [.int low,.int (low+199),.str le,.str si,.str pk,.int 200,.bl re,tt]),none] M:=by
 unfold B5;walk_at "z";refine fy (n:=n+1) hx ok ⋯ ⋯ ⋯ λv4 g4 a4 b4 ok4=>?_
 refine fy (n:=n+1) br ok4 ⋯ ⋯ ⋯ λv5 g5 a5 b5 ok5=>?_
 rw[eF];obtain⟨y,hy,ey⟩:=rG (xs:=[.int 0,.int 1,.int v4]) a5 b5;rw[ey];obtain⟨rs,rfl,hre⟩:∃rs:Int,y= .int rs/\0<=rs/\rs<=1000:=by
  simp only[cx,iC,or_false]at hy;rcases hy with rfl|rfl|rfl<;>exact⟨_,rfl,∅,∅⟩
 refine MQ br (ok5.le ⋯) l1 l2 hle hsi hpk hre.1 hre.2 λf g' h1 h2=>?_
 rw[eF];exact hq f g' h1 h2
theorem Tj{x:Addr}{g:bF}(hx:M x=some g.l)(ok:g.In 0)(hq:∀f g',Fw f->bF.In g' 20->Q f.r (put M x g'.l)):av (P e) (n+3) 23 [.ref x] M Q:=by
 rw[us (i:=23) (d:=wU) rfl];simp only[wU];walk_at "ev";unfold E8;walk_at "z";refine fy (n:=n+1) hx ok ⋯ ⋯ ⋯ λv1 g1 a1 b1 ok1=>?_
 obtain⟨le,hle,ey⟩:=yG ["door","place","talk"] a1 b1
 change ∀{M:RM} {Q:aj},cw (.ls [.str "door",.str "place",.str "talk"]) _ M Q=_ at ey
 rw[ey];unfold E7;walk_at "z";refine fy (n:=n+1) br ok1 ⋯ ⋯ ⋯ λv2 g2 a2 b2 ok2=>?_
 obtain⟨si,hsi,ey⟩:=yG ["all","place","talk"] a2 b2
 change ∀{M:RM} {Q:aj},cw (.ls [.str "all",.str "place",.str "talk"]) _ M Q=_ at ey
 rw[ey,eF];refine WI (n:=n) br ok2 λlow pk re tt g3 l1 l2 hpk ok3=>?_
 rw[eF];refine MP br ok3 l1 l2 (by simpa using hle) (by simpa using hsi) hpk λf g' h1 h2=>?_
 rw[eF];exact hq f g' h1 h2
structure Wd(ds ps fs:LR):Prop where
 ld:ds.length=4
 hd:∀y∈ds,Bg y
 lp:ps.length=3
 ap:∀y∈ps,yR 1 1000000 y
 lf:fs.length=3
 af:∀y∈fs,yR 1 9999 y
theorem Sn{x:Addr}{g:bF}(hx:M x=some g.l)(ok:g.In 0)(hq:∀(ds ps fs:LR) g',Wd ds ps fs->Q (.tup [.ls ds,.ls ps,.ls fs]) (put M x (bF.l g'))):av (P e) (n+2) 24 [.ref x] M Q:=by
 rw[us (i:=24) (d:=wz) rfl];simp only[wz];unfold E6;rw[d0,Bv];dsimp only[List.set_cons_zero,List.set_cons_succ];walk_at "ev";refine⟨⋯,⋯,⋯,?_⟩
 refine Ah (λacc M'=>(∀y∈acc,Bg y)/\∃g':bF,M'=put M x g'.l/\g'.In (0+2*acc.length)) (λσ M K h=>h) (λ_ _ _=>gB) _ _ _ ⟨fI _,g,(lM hx).symm,by show g.In (0+2*0);exact ok⟩ (λy hy acc M' hlt h=>?_) λacc' M' hl h=>?_
 . obtain⟨h1,g',rfl,h3⟩:=h
   refine⟨[y],rfl,λK hK=>?_⟩
   show(tr ((P e).Gn (n+1)) _).E [some y,some (.ref x)] _ K;have hlt:acc.length<4:=hlt;walk_at "ev";refine fy (n:=n) br h3 ∅ ⋯ ⋯ λv1 g1 a1 b1 o1=>?_
   rw[eF];refine fy (n:=n) br o1 ∅ ⋯ ⋯ λv2 g2 a2 b2 o2=>?_
   rw[eF,f7];refine hK _ _ ⟨λz hz=>?_,g2,rfl,⟨o2.a,o2.b,o2.c.1,by have:=o2.c.2;rw[cN];show g2.c<=0+2*((acc.length+1:Nat):Int);omega⟩⟩
   rcases dM.mp hz with q|q
   . exact h1 z q
   . cases iT.mp q;exact⟨v1,1+v2,rfl,⟨a1,∅⟩,∅,∅⟩
 . obtain⟨h1,g',rfl,h3⟩:=h
   have hl:acc'.length=4:=hl;rw[hl]at h3;have h3:g'.In 8:=h3;rw[pC,id_eq];unfold E5;rw[d0,Bv];dsimp only[List.set_cons_zero,List.set_cons_succ];walk_at "ev";refine⟨⋯,⋯,⋯,Ic (z:=3) ⋯ ⋯ br h3 ⋯ λps g2 l2 p2 o2=>?_⟩
   rw[eF];unfold E4;walk_at "ev";refine⟨⋯,⋯,⋯,Ic (z:=3) ⋯ ⋯ br o2 ⋯ λfs g3 l3 p3 o3=>?_⟩
   rw[eF];exact hq acc' ps fs g3 ⟨hl,h1,l2,p2,l3,p3⟩
end
section
variable {e:Env}{n:Nat}{M:RM}{Q:aj}{x y:Str}
theorem Tx.app(h:Tx x)(h':Tx y)(hl:x.cps.toList.length+y.cps.toList.length<=40):Tx (x++y):=by
 have e1:(x++y).cps.toList=x.cps.toList++y.cps.toList:=by rw[Str.cps_append];simp
 refine⟨by rw[e1,cN];exact hl,λc hc=>?_⟩
 rw[e1]at hc;rcases dM.mp hc with z|z
 . exact h.sg c z
 . exact h'.sg c z
noncomputable def yY (c:Nat):Bool:=decide (32<=c)&&(decide (c<=126)&& !(c==37))
theorem VQ{c:Nat}(h:yY c=true):Sg c:=by
 unfold yY at h;simp only[aU,iB,jD,mq,ne_eq]at h;exact⟨h.1,h.2.1,h.2.2⟩
theorem pK{k:Nat}(hk:k<=40)(h:(decide (x.cps.toList.length<=k)&&x.cps.toList.all yY)=true):Tx x/\x.cps.toList.length<=k:=by
 rw[aU,iB,fG]at h;exact⟨⟨bG h.1 hk,λc hc=>VQ (h.2 c hc)⟩,h.1⟩
theorem U2:((List.range 100).all λk=>decide ((gI (k:Int)).cps.toList.length<=(if k<10 then 1 else 2))&&(gI (k:Int)).cps.toList.all yY)=true:=by decide+kernel
theorem xX{i:Int}{k:Nat}(h0:0<=i)(h1:i<10/\k=1∨i<100/\k=2):Tx (gI i)/\(gI i).cps.toList.length<=k:=by
 obtain⟨j,rfl⟩:∃j:Nat,i=j:=⟨i.toNat,∅⟩
 have h:=fG.mp U2 j (jo.mpr ∅)
 rcases h1 with⟨z,rfl⟩|⟨z,rfl⟩
 . rw[ar ∅]at h;exact pK ⋯ h
 . obtain⟨a,b⟩:=pK (by split<;>decide) h
   exact⟨a,bG b (by split<;>decide)⟩
theorem TC{l u:Option Int}(h:Tx x):Tx (Txt.slice x l u)/\(Txt.slice x l u).cps.toList.length<=x.cps.toList.length:=by
 have hl:(Txt.slice x l u).cps.toList.length<=x.cps.toList.length:=Txt.slice_le x l u;refine⟨⟨bG hl h.len,λc hc=>?_⟩,hl⟩
 unfold Txt.slice at hc;split at hc
 . exact h.sg c hc
 . obtain⟨i,_,hi⟩:=qm.mp (by simpa using hc)
   exact h.sg c (by
    have:=Array.mem_of_getElem? hi;simpa using this)
theorem uF:fY .Add (.str x) (.str y) M Q=(x.length+y.length<=sizeLine/\Q (.str (x++y)) M):=rfl
theorem WW{l u:Option Int}:ma (.str x) l u M Q=(x.length<=sizeLine/\Q (.str (Txt.slice x l u)) M):=rfl
theorem Wc{k:Int}:fY .Mult (.str x) (.int k) M Q=(2<=k/\k<=1000/\x.length=1/\Q (.str (lZ x k.toNat)) M):=rfl
theorem pG{i:Int}:qy "str" [.int i] M Q=(0<=i/\i<10000000000/\Q (.str (gI i)) M):=rfl
theorem len_str:x.length=x.cps.toList.length:=by simp[Str.length]
end
section
variable {e:Env}{n:Nat}{M:RM}{Q:aj}{r:Addr}{E:Pe}{μ:Int}{ql dl:List Pe}
noncomputable def bS (h:Pe->RV)(E:Pe):RV:=.tup [.int E.mu,h E]
noncomputable def Pe.th (E:Pe):RV:=.tup [.int E.i.house,.int E.i.door,.int E.i.place,.int E.i.far,.str E.tx]
def qw(l:List Pe):Prop:=l.Pairwise λa b=>a.mu<=b.mu
noncomputable def gJ (E:Pe)(l:List Pe):List Pe:=l.filter (λx=>decide (x.mu<=E.mu))++E::l.filter λx=>decide (E.mu<x.mu)
theorem As:∀{l:List Pe},qw l->l.filter (λx=>decide (x.mu<=μ))++l.filter (λx=>decide (μ<x.mu))=l
 | [],_=>rfl
 |x::l,h=>by
  have h2:=zd.mp h;rw[fU,fU]
  by_cases z:x.mu<=μ
  . rw[ar (eI z),ag (by simpa using z),List.cons_append,As h2.2]
  . have e0:l.filter (λx=>decide (x.mu<=μ))= []:=List.filter_eq_nil_iff.mpr λy hy hd=>by
     have:=h2.1 y hy;have:=mB hd;omega
    have e1:l.filter (λx=>decide (μ<x.mu))=l:=rZ.mpr λy hy=>eI (by have:=h2.1 y hy;omega)
    rw[ag (by simpa using z),ar (eI ∅),e0,e1];rfl
theorem VA{F:Pe}(h:F∈gJ E ql):F=E∨F∈ql:=by
 rcases dM.mp h with z|z
 . exact .inr (dJ.mp z).1
 . rcases cx.mp z with z|z
   . exact .inl z
   . exact .inr (dJ.mp z).1
theorem Us(h:qw ql):qw (gJ E ql):=by
 unfold gJ;refine za.mpr ⟨h.sublist List.filter_sublist,zd.mpr ⟨λy hy=>?_,h.sublist List.filter_sublist⟩,λy hy z hz=>?_⟩
 . exact Int.le_of_lt (mB (dJ.mp hy).2)
 . have h1:=mB (dJ.mp hy).2
   rcases cx.mp hz with rfl|hz
   . exact h1
   . have:=mB (dJ.mp hz).2;omega
theorem Uj(h:qw ql):(gJ E ql).length=ql.length+1:=by
 unfold gJ;have:=congrArg List.length (As (μ:=E.mu) h);rw[cN]at this;rw[cN,List.length_cons];omega
theorem HM(h:∀F∈dl,F.mu<=E.mu):gJ E (dl++ql)=dl++gJ E ql:=by
 have e1:dl.filter (λx=>decide (x.mu<=E.mu))=dl:=rZ.mpr λF hF=>eI (h F hF)
 have e2:dl.filter (λx=>decide (E.mu<x.mu))= []:=List.filter_eq_nil_iff.mpr λF hF z=>by have:=h F hF;have:=mB z;omega
 unfold gJ;rw[List.filter_append,List.filter_append,e1,e2,List.nil_append,vo]
noncomputable def wm (μ:Int):RV->Bool
 | .tup (.int i::_)=>decide (i<=μ)
 |_=>false
theorem Fx{h:Pe->RV}:∀{l:List Pe},((l.map (bS h)).filter (wm μ)).length=(l.filter λx=>decide (x.mu<=μ)).length
 | []=>rfl
 |x::l=>by
  have ih:=Fx (h:=h) (l:=l);rw[cj,fU,fU];show(if decide (x.mu<=μ)=true then _ else _:LR).length=_
  split
  . rw[List.length_cons,List.length_cons,ih]
  . exact ih
theorem uC{a:Addr}{xs:LR}{QI:LR->(RM->Prop)->(RM->RM)->RM->Prop}(h:M a=some (.lst xs)):kS QI (.ref a) M=QI xs (λM=>M a=some (RO.lst xs)) id M:=by
 show(match M a with|some (RO.lst xs)=>QI xs (λM=>M a=some (RO.lst xs)) id M|_=>False)=_
 rw[h]
theorem Hv{h:Pe->RV}{l:List Pe}(hr:M r=some (.lst (l.map (bS h))))(hl:l.length<900)(so:qw l)(hq:Q .ao (put M r (.lst ((gJ E l).map (bS h))))):
 av (P e) (n+1) 67 [.ref r,.int E.mu,h E] M Q:=by
 rw[us (i:=67) (d:=wF) rfl];simp only[wF];unfold Ep;walk_at "z";rw[uC hr];refine⟨by rw[bw];exact d8 hl ⋯,ju (bd:=gh false 1) (wm E.mu) id hr _ _ (λy hy=>?_) ?_⟩
 . obtain⟨F,hF,rfl⟩:=aW.mp hy
   refine⟨[bS h F],rfl,λK hK=>?_,λ_ K hK=>?_⟩
   . show(tr ((P e).Gn n) _).T [some (bS h F),some (.int E.mu)] _ K
     unfold bS;walk_at "ev";exact hK
   . show(tr ((P e).Gn n) _).E [some (bS h F),some (.int E.mu)] _ K
     walk_at "ev";exact hK
 . rw[pC,List.nil_append,List.map_id]
   rw[show fM "len" [.ls ((l.map (bS h)).filter (wm E.mu))] (id M)=λQ=>Q (.int ((l.map (bS h)).filter (wm E.mu)).length) M from rfl]
   rw[Fx];unfold gJ at hq;have e0:=As (μ:=E.mu) so;generalize l.filter (λx=>decide (x.mu<=E.mu))=a at hq e0 ⊢
   generalize l.filter (λx=>decide (E.mu<x.mu))=b at hq e0
   subst e0;show(tr ((P e).Gn n) BC).S (rd Q) [some (.ref r),some (.int E.mu),some (h E),some (.int a.length)] M;unfold BC;rw[d0,N4,N6 (x:=r) λK=>by walk_at "ev",hr]
   show(tr ((P e).Gn n) _).A _ M _;walk_at "ev";have e4:((a++b).map (bS h)).take (a.length:Int).toNat++RV.tup [.int E.mu,h E]::((a++b).map (bS h)).drop (a.length:Int).toNat=(a++E::b).map (bS h):=by
    rw[show(a.length:Int).toNat=(a.map (bS h)).length by rw[bw];rfl,eQ,List.take_left,List.drop_left,eQ];rfl
   refine⟨a.length,_,_,rfl,hr,∅,by rw[bw,cN];omega,by rw[bw];exact d8 hl ⋯,?_⟩
   rw[e4];exact hq
end
section
structure Ls where
 g:Addr
 r:Addr
 p:Addr
 w:Addr
 o:Addr
noncomputable abbrev Ls.l (A:Ls):List Addr:=[A.r,A.p,A.w,A.o]
structure Pe.Ok(f:Fm)(c:Cn)(tl:List Tk)(E:Pe):Prop where
 lo:c.now<=E.mu
 hi:E.mu<=c.now+18
 tk:∃T∈tl,T.i=E.i/\T.m=E.m/\E.mu<T.ov
 tx:Tx E.tx
noncomputable def Pe.gg (E:Pe):RV:=.tup [.str "note",.int E.m,.int E.i.place,.int E.i.far,.str "say",.str E.tx]
noncomputable def nZ (b:Bk):Option Pe:=match b.2 with
 |some (false,E)=>some E
 |_=>none
noncomputable def sX (b:Bk):Option Pe:=match b.2 with
 |some (true,E)=>some E
 |_=>none
structure Tn(e:Env)(M0 L:RM)(A:Ls)(f:Fm)(k b:Nat)(c:Cn)(tl:List Tk)(bk:List Bk)(ql dl gl bl:List Pe):Prop where
 gt:∃d,Gt e A.g f k d c tl bk M0 L/\d+2*ql.length<=b
 hr:M0 A.r=some (.lst (ql.map (bS Pe.dc)))
 hp:M0 A.p=some (.lst ((dl++ql).map (bS Pe.th)))
 hw:M0 A.w=some (.lst [])
 ho:M0 A.o=some (.lst (gl.map Pe.gg))
 nd:A.l.Nodup
 qk:∀E∈ql,E.Ok f c tl
 so:qw (dl++ql)
 dn:∀E∈dl,E.mu<=c.now
 bc:bk.filterMap nZ=dl
 bo:bk.filterMap sX=bl
 ll:(dl++ql).length<=b
 lp:M0 e.lP=some (bN e)
abbrev Fr(x:Addr)(M0 M0':RM):Prop:=∀y u,y≠x->M0 y=some u->M0' y=some u
variable {e:Env}{n:Nat}{M M0 M0' L L':RM}{Q:aj}{f:Fm}{till:Int}{k b b':Nat}{c c':Cn}{tl tl':List Tk}{bk bk':List Bk}{ql ql' dl dl' gl bl:List Pe}{A:Ls}{x:Addr}{m q t:Int}{E:Pe}
theorem xP{u:RO}:Fr x M (put M x u):=λ_ _ h h'=>(put_ne h).trans h'
theorem Tn.at_{y:Addr}{u:RO}(h:Tn e M0 L A f k b c tl bk ql dl gl bl)(hy:M0 y=some u):L y=some u:=by
 obtain⟨d,gt,hb⟩:=h.gt;exact gt.at_ hy
theorem Tn.fr(h:Tn e M0 L A f k b c tl bk ql dl gl bl)(gt:∀d,Gt e A.g f k d c tl bk M0 L->Gt e A.g f k d c tl bk M0' L')(fr:Fr x M0 M0')(hx:x∉A.l)(hl:e.lP≠x):Tn e M0' L' A f k b c tl bk ql dl gl bl:=by
 obtain⟨d,g,hb⟩:=h.gt;simp only[cx,iC,or_false,not_or]at hx;obtain⟨n1,n2,n3,n4⟩:=hx;exact⟨⟨d,gt d g,hb⟩,fr _ _ (bC n1) h.hr,fr _ _ (bC n2) h.hp,fr _ _ (bC n3) h.hw,fr _ _ (bC n4) h.ho,h.nd,h.qk,h.so,h.dn,h.bc,h.bo,h.ll,fr _ _ hl h.lp⟩
theorem Tn.lE(h:Tn e M0 L A f k b c tl bk ql dl gl bl)(hx:L x=none):x∉A.l/\e.lP≠x:=by
 have ne:∀y u,M0 y=some u->x≠y:=λy u hy z=>by have:=h.at_ hy;rw[<-z,hx]at this;cases this
 refine⟨?_,bC (ne _ _ h.lp)⟩;simp only[cx,iC,or_false,not_or];exact⟨ne _ _ h.hr,ne _ _ h.hp,ne _ _ h.hw,ne _ _ h.ho⟩
theorem Tn.new{u:RO}(h:Tn e M0 L A f k b c tl bk ql dl gl bl)(hx:L x=none):Tn e (put M0 x u) (put L x u) A f k b c tl bk ql dl gl bl:=
 h.fr (λ_ g=>g.new hx) xP (h.lE hx).1 (h.lE hx).2
theorem Tn.bag{l1 l2:LR}(h:Tn e M0 L A f k b c tl bk ql dl gl bl)(hx:M0 x=some (.lst l1))(n1:x∉A.l):Tn e (put M0 x (.lst l2)) (put L x (.lst l2)) A f k b c tl bk ql dl gl bl:=
 h.fr (λ_ g=>g.other hx) xP n1 λz=>by have:=h.lp;rw[z,hx]at this;cases this
theorem Tn.draw{g1:bF}(h:Tn e M0 L A f k b c tl bk ql dl gl bl)(hx:M0 x=some g1.l)(n1:x∉A.l)(ok:g1.In q)(hk:q<999999)(hm:0<m)(hm2:m<1073741824)
 (hq:∀v g2 M0' L',0<=v->v<m->bF.In g2 (q+1)->Tn e M0' L' A f k b c tl bk ql dl gl bl->M0' x=some g2.l->Fr x M0 M0'->Q (.int v) L'):av (P e) (n+1) 49 [.ref x,.int m] L Q:=by
 obtain⟨d,gt,hb⟩:=h.gt;exact fy (gt.at_ hx) ok hk hm hm2 λv g2 h0 h1 o2=>hq v g2 _ _ h0 h1 o2 (h.bag hx n1) br xP
theorem Tn.gate(h:Tn e M0 L A f k b c tl bk ql dl gl bl):∃rt rs rd,L A.g=some (bR e f.r rt rs rd .ao):=by
 obtain⟨d,gt,hb⟩:=h.gt;exact gt.gate
theorem Tn.moment(G:Tn e M0 L A f k b c tl bk ql dl gl bl)(hq:Q (.int c.now) L):av (P e) (n+1) 19 [.ref A.g] L Q:=by
 obtain⟨d,gt,hd⟩:=G.gt;exact gt.moment hq
theorem Tn.mono(G:Tn e M0 L A f k b c tl bk ql dl gl bl)(h:b<=b'):Tn e M0 L A f k b' c tl bk ql dl gl bl:=by
 obtain⟨d,gt,hd⟩:=G.gt;exact { G with gt:=⟨d,gt,bG hd h⟩,ll:=bG G.ll h }
structure Gx(e:Env)(f:Fm):Prop where
 tb:Tb e
 fw:Fw f
theorem Pe.Ok.wt(h:E.Ok f c tl)(hn:c'.now=c.now+t)(h0:0<=t)(hm:c.now+t<=E.mu)(al:∀T∈tl,c'.now<T.ov->T∈tl'):E.Ok f c' tl':=by
 obtain⟨T,hT,e1,e2,e3⟩:=h.tk;have:=h.hi;exact⟨∅,∅,⟨T,al T hT ∅,e1,e2,e3⟩,h.tx⟩
theorem Pe.Ok.al(h:E.Ok f c tl)(hn:c'.now=c.now)(al:Al tl tl'):E.Ok f c' tl':=by
 obtain⟨T,hT,e1,e2,e3⟩:=h.tk;obtain⟨U,hU,u1,u2,u3⟩:=al T hT;exact⟨by rw[hn];exact h.lo,by rw[hn];exact h.hi,⟨U,hU,u1.trans e1,u2.trans e2,∅⟩,h.tx⟩
theorem Tn.wait{t:Int}(G:Tn e M0 L A f k b c tl bk ql dl gl bl)(gx:Gx e f)(hk:k<64)(hb:b<890)(h1:0<=t)(h2:t<=1000)(h3:∀E∈ql,c.now+t<=E.mu)(hq:∀L' c' tl',Tn e M0 L' A f k (b+1) c' tl' (bk++ [(t,none)]) ql dl gl bl->c'.now=c.now+t->Q .ao L'):
 av (P e) (n+10) 40 [.ref A.g,.int t] L Q:=by
 obtain⟨d,gt,hd⟩:=G.gt;refine gt.wait gx.tb G.lp hk ∅ h1 ∅ λc' tl' L' gt' nw al=>hq L' c' tl' ⟨⟨d+1,gt',∅⟩,G.hr,G.hp,G.hw,G.ho,G.nd,λE hE=>(G.qk E hE).wt nw h1 (h3 E hE) al,G.so,λE hE=>by have:=G.dn E hE;omega,?_,?_,zh G.ll,G.lp⟩ nw
 . rw[mw,G.bc];exact eY _
 . rw[mw,G.bo];exact eY _
theorem Wa{h:Pe->RV}(o:∀E,aA 15 (bS h E)=true):aA 16 (.ls (ql.map (bS h)))=true:=by
 show(ql.map (bS h)).all (aA 15)=true;rw[List.all_map,fG];exactλx _=>o x
theorem Zq{a:Addr}{xs:LR}(h:M a=some (.lst xs))(o:aA 16 (.ls xs)=true)(hq:Q (.bl (!xs.isEmpty)) M):eE .NotEq (.ref a) (.ls []) M Q:=by
 have e1:bM M (.ref a)= .ls xs:=by unfold bM;dsimp only;rw[h]
 show aA 16 (bM M (.ref a))=true/\aA 16 (.ls [])=true/\Q (.bl (!bq (bM M (.ref a)) (.ls []))) M;rw[e1,show bq (.ls xs) (.ls [])=xs.isEmpty by cases xs<;>simp[bq,fE]]
 exact⟨o,rfl,hq⟩
theorem MZ{D:RD}{rest:List Pe}{z4 z5:Option RV}(G:Tn e M0 L A f k b c tl bk (E::rest) dl gl bl)(gx:Gx e f)(hk:k<64)(hb:b<880)
 (hq:∀z4 z5 M0' L' c' tl' bk',Tn e M0' L' A f k b c' tl' bk' rest (dl++ [E]) gl bl->Fr A.r M0 M0'->c'.now=E.mu->D.nx [some (.ref A.g),some (.ref A.r),some (.int till),some (.ref A.w),z4,z5] L'):
 (tr ((P e).Gn (n+10)) AY).S D [some (.ref A.g),some (.ref A.r),some (.int till),some (.ref A.w),z4,z5] L:=by
 have hr:=G.at_ G.hr;have hE:=G.qk E (.head _);have so:=(za.mp G.so).2.1;have so:=zd.mp so;obtain⟨d,gt,hd⟩:=G.gt;rw[List.length_cons]at hd;have gt1:=gt.other (o':=.lst (rest.map (bS Pe.dc))) G.hr;obtain⟨_,_,_,hg⟩:=gt1.gate;unfold AY;rw[d0,N3,Ov (x:=A.r) λK=>by walk_at "ev",hr]
 show(tr ((P e).Gn (n+10)) _).A _ L _;walk_at "ev";refine⟨bS Pe.dc E,rest.map (bS Pe.dc),hr,?_⟩;generalize put L A.r (.lst (rest.map (bS Pe.dc)))=L1 at gt1 hg ⊢;unfold bS;walk_at "ev";have lo:=hE.lo;have hi:=hE.hi;unfold Iy;walk_at "ev";rw[hg];walk_at "ev";rw[hg];walk_at "ev";refine gt1.moment (n:=n+9) ?_;rw[Je];have lp':put M0 A.r (.lst (rest.map (bS Pe.dc))) e.lP=some (bN e):=(put_ne λz=>by have:=G.lp;rw[z,G.hr]at this;cases this).trans G.lp
 refine gt1.wait (n:=n) gx.tb lp' hk ∅ ∅ ∅ λc2 tl2 L2 gt2 nw al=>?_
 obtain⟨_,_,_,hg2⟩:=gt2.gate;unfold Iw;walk_at "ev";rw[hg2];walk_at "ev";have ok2:∀F∈E::rest,F.Ok f c2 tl2:=λF hF=>(G.qk F hF).wt nw ∅ (by
  rcases cx.mp hF with rfl|h
  . omega
  . have:=so.1 F h;omega) al
 obtain⟨T,hT,t1,t2,_⟩:=(ok2 E (.head _)).tk;refine gt2.come (n:=n+1) gx.tb gx.fw ∅ ⟨T,hT,t1,t2⟩ hE.tx λc3 tl3 L3 gt3 al3 nw3=>?_
 walk_at "ev";have nd:=G.nd;simp only[fV,cx,iC,or_false,not_or]at nd;obtain⟨⟨n1,n2,n3⟩,_⟩:=nd;refine hq _ _ _ L3 c3 tl3 _ ⟨⟨d+1+1,gt3,∅⟩,br,(put_ne (bC n1)).trans ?_,(put_ne (bC n2)).trans G.hw,(put_ne (bC n3)).trans G.ho,G.nd,λF hF=>(ok2 F (.tail _ hF)).al nw3 al3,?_,λF hF=>?_,?_,?_,?_,lp'⟩ xP ∅
 . rw[vo];exact G.hp
 . rw[vo];exact G.so
 . rcases dM.mp hF with h|h
   . have:=G.dn F h;omega
   . cases iT.mp h;omega
 . rw[mw,mw,G.bc];simp[nZ]
 . rw[mw,mw,G.bo];simp[sX]
 . rw[vo];exact G.ll
end
section
variable {e:Env}{n:Nat}{M M0 M0' L L':RM}{Q:aj}{f:Fm}{till:Int}{k b b':Nat}{c c':Cn}{tl tl':List Tk}{bk bk':List Bk}{ql ql' dl dl' gl bl:List Pe}{A:Ls}{x:Addr}{m q t:Int}{E:Pe}
theorem OS{Γ:G}{t b:T}{D:RD}{σ:aY}:(tr Γ (.wh t b)).S D σ M=AS (tr Γ t).T (tr Γ b).S D σ M:=rfl
theorem Ie(G:Tn e M0 L A f k b c tl bk ql dl gl bl)(gx:Gx e f)(hk:k<64)(hb:b<870)(h1:c.now<=till)(h2:till<=c.now+100)
 (hq:∀M0' L' c' tl' bk' ql' dl',Tn e M0' L' A f k (b+1) c' tl' bk' ql' dl' gl bl->Fr A.r M0 M0'->c'.now=till->(∀E∈ql',till<E.mu)->(∀E∈ql',E∈ql)->Q .ao L'):av (P e) (n+11) 71 [.ref A.g,.ref A.r,.int till,.ref A.w] L Q:=by
 rw[us (i:=71) (d:=wx) rfl];simp only[wx];unfold Er;rw[d0,OS];walk_at "ev";refine⟨λm σ M=>∃M1 c1 tl1 bk1 ql1 dl1 z4 z5,m=ql1.length/\Tn e M1 M A f k b c1 tl1 bk1 ql1 dl1 gl bl/\Fr A.r M0 M1/\((c.now<=c1.now/\c1.now<=till)/\∀F∈ql1,F∈ql)/\σ= [some (.ref A.g),some (.ref A.r),some (.int till),some (.ref A.w),z4,z5],⟨_,M0,c,tl,bk,ql,dl,none,none,rfl,G,λ_ _ _ h=>h,⟨⟨mz _,h1⟩,λ_ h=>h⟩,rfl⟩,λm σ M h=>?_⟩
 obtain⟨M1,c1,tl1,bk1,ql1,dl1,z4,z5,rfl,G1,fr,⟨⟨h3,h4⟩,hs⟩,rfl⟩:=h;have hr:=G1.at_ G1.hr;have so1:=(za.mp G1.so).2.1;have fin:(∀E∈ql1,till<E.mu)->(tr ((P e).Gn (n+10)) BD).S (rd Q) [some (.ref A.g),some (.ref A.r),some (.int till),some (.ref A.w),z4,z5] M:=λhm=>by
  obtain⟨_,_,_,hg⟩:=G1.gate;unfold BD;walk_at "ev";rw[hg];walk_at "ev";rw[hg];walk_at "ev";refine G1.moment (n:=n+9) ?_;rw[Je];refine G1.wait (n:=n) gx hk ∅ ∅ ∅ (λF hF=>by have:=hm F hF;omega) λL2 c2 tl2 G2 nw=>?_
  (try walk_at "ev")
  exact hq _ _ _ _ _ _ _ G2 fr ∅ hm hs
 walk_at "ev";refine Zq hr (Wa λ_=>rfl) ?_
 cases ql1 with
 |nil=>exact fin (fI _)
 |cons E rest=>
  rw[rj];rw[ar (show(!((E::rest).map (bS Pe.dc)).isEmpty)=true from rfl)]
  rw[hr,T4,show(E::rest).map (bS Pe.dc)=bS Pe.dc E::rest.map (bS Pe.dc)from rfl,vb,xr]
  unfold bS;walk_at "ev";have so:=zd.mp so1;have hE:=G1.qk E (.head _)
  by_cases hm:E.mu<=till
  . rw[ar (eI hm)]
    refine MZ G1 gx hk ∅ λz4 z5 M2 L2 c2 tl2 bk2 G2 fr2 hp=>?_
    have:=hE.lo;exact⟨rest.length,Nat.lt_succ_self _,M2,c2,tl2,bk2,rest,dl1++ [E],z4,z5,rfl,G2,λy u hy hu=>fr2 y u hy (fr y u hy hu),⟨⟨∅,∅⟩,λF hF=>hs F (.tail _ hF)⟩,rfl⟩
  . rw[ag (by simpa using hm)]
    refine fin λF hF=>?_
    rcases cx.mp hF with rfl|hF
    . omega
    . have:=so.1 F hF;omega
end
section
variable {e:Env}{n:Nat}{M L:RM}{Q:aj}{x p:Addr}{tx:Str}{pl fa q:Int}
def rV(y:RV):Prop:=∃(s:Str) (v:Int),y= .tup [.str s,.int v]/\Tx s/\1<=v/\v<=9
theorem S5:Tx "/"/\("/":Str).cps.toList.length<=1:=pK ⋯ (by decide+kernel)
theorem uH{a b:Str}:(a++b).cps.toList.length=a.cps.toList.length+b.cps.toList.length:=by rw[Str.cps_append];simp
theorem XS{Γ:G}{i:Int}{σ:aY}:(tr Γ (.ng (.i i))).E σ M Q=Q (.int (-i)) M:=rfl
theorem MR{D:RD}{g:bF}{acc:LR}{t:Int}{z4:Option RV}(hx:M x=some g.l)(hp:M p=some (.lst acc))(ne:p≠x)(ok:g.In q)(hk:q<1000)(hl:acc.length<100)(ha:∀y∈acc,rV y)(ht:Tx tx)(hl2:tx.cps.toList.length<=32)(t0:0<=t)(t1:t<10)
 (hq:∀y g' z4,rV y->bF.In g' (q+1)->D.nx [some (.ref x),some (.tup [.int pl,.int fa,.str tx]),some (.ref p),some (.int t),z4] (put (put M x g'.l) p (.lst (acc++ [y])))):
 (tr ((P e).Gn (n+1)) A6).S D [some (.ref x),some (.tup [.int pl,.int fa,.str tx]),some (.ref p),some (.int t),z4] M:=by
 obtain⟨s1,s2⟩:=TC (l:=some (-6)) (u:=none) ht;have m1:=pz (a:=pl) (m:=7) ⋯
 have m2:=pz (a:=fa) (m:=5) ⋯
 obtain⟨a1,a2⟩:=xX (k:=1) m1.1 (.inl ⟨∅,rfl⟩)
 obtain⟨b1,b2⟩:=xX (k:=1) m2.1 (.inl ⟨∅,rfl⟩)
 obtain⟨c1,c2⟩:=xX (k:=1) t0 (.inl ⟨t1,rfl⟩);obtain⟨d1,d2⟩:=S5;have L1:=uH (a:=Txt.slice tx (some (-6)) none) (b:="/");have x1:=s1.app d1 ∅
 generalize hA:Txt.slice tx (some (-6)) none++("/":Str)=A1 at L1 x1;have L2:=uH (a:=A1) (b:=gI (pl % 7));have x2:=x1.app a1 ∅
 generalize hB:A1++gI (pl % 7)=A2 at L2 x2;have L3:=uH (a:=A2) (b:=gI (fa % 5));have x3:=x2.app b1 ∅
 generalize hC:A2++gI (fa % 5)=A3 at L3 x3;have L4:=uH (a:=A3) (b:=gI t);have x4:=x3.app c1 ∅
 have sz:∀{z:Nat},z<=100->z<=sizeLine:=λh=>bG h ⋯
 unfold A6;walk_at "z";rw[XS];walk_at "ev";rw[WW];refine⟨by rw[len_str];exact sz ∅,?_⟩
 rw[uF];refine⟨by rw[len_str,len_str];exact sz ∅,?_⟩
 rw[hA,pG];refine⟨m1.1,∅,?_⟩
 rw[uF];refine⟨by rw[len_str,len_str];exact sz ∅,?_⟩
 rw[hB,pG];refine⟨m2.1,∅,?_⟩
 rw[uF];refine⟨by rw[len_str,len_str];exact sz ∅,?_⟩
 rw[hC,pG];refine⟨t0,∅,?_⟩
 rw[uF];refine⟨by rw[len_str,len_str];exact sz ∅,?_⟩
 generalize A3++gI t=A4 at x4 ⊢;unfold IE;walk_at "ev";rw[hp];walk_at "ev";refine fy (n:=n) hx ok ∅ ⋯ ⋯ λv g2 a1 b1 ok2=>?_
 rw[f7];exact⟨acc,_,rfl,(put_ne ne).trans hp,d8 hl ⋯,hq _ g2 _ ⟨A4,1+v,rfl,x4,∅,∅⟩ ok2⟩
theorem T6{z:Nat}{y:RV}(h:y∈nums z):∃t:Int,y= .int t/\0<=t/\t<z:=by
 obtain⟨j,hj,rfl⟩:=aW.mp h;have:=jo.mp hj;exact⟨j,rfl,∅,∅⟩
theorem WR{o o' u:RO}(ne:p≠x):put (put (put M x o) p u) x o'=put (put M x o') p u:=by rw[qQ ne,eF]
theorem ZO{x:RV}{a0 a1 a2 a3:Option RV}{r:List (Option RV)}{K:List (Option RV)->RM->Prop}:jh 3 x (a0::a1::a2::a3::r) M K=K (a0::a1::a2::some x::r) M:=rfl
theorem Sl{g:bF}(hx:M x=some g.l)(ok:g.In q)(hk:q<900)(ht:Tx tx)(hl2:tx.cps.toList.length<=32)
 (hq:∀p xs g',M p=none->p≠x->(∀y∈xs,rV y)->xs.length<=2->bF.In g' (q+3)->Q (.ref p) (put (put M x g'.l) p (.lst xs))):av (P e) (n+2) 51 [.ref x,.tup [.int pl,.int fa,.str tx]] M Q:=by
 rw[us (i:=51) (d:=wy) rfl];simp only[wy];walk_at "ev";unfold E3;walk_at "ev";intro p hp;have ne:p≠x:=λz=>by rw[z,hx]at hp;cases hp
 unfold E2;walk_at "ev";refine fy (n:=n) ((put_ne (bC ne)).trans hx) ok ∅ ⋯ ⋯ λv g2 a1 b1 ok2=>?_
 rw[qQ ne];obtain⟨y,hy,ey⟩:=rG (xs:=[.int 1,.int 1,.int 0,.int 2]) a1 b1;rw[ey];obtain⟨z,rfl,hz⟩:∃z:Nat,y= .int z/\z<=2:=by
  simp only[cx,iC,or_false]at hy;rcases hy with rfl|rfl|rfl|rfl
  . exact⟨1,rfl,⋯⟩
  . exact⟨1,rfl,⋯⟩
  . exact⟨0,rfl,⋯⟩
  . exact⟨2,rfl,⋯⟩
 rw[WL];refine⟨∅,∅,?_⟩
 refine qU (λys σ M'=>∃(acc:LR) (g1:bF) (z3 z4:Option RV),M'=put (put M x g1.l) p (.lst acc)/\(∀y∈acc,rV y)/\acc.length+ys.length<=2/\(∀y∈ys,∃t:Int,y= .int t/\0<=t/\t<10)/\g1.In (q+3-ys.length)/\σ= [some (.ref x),some (.tup [.int pl,.int fa,.str tx]),some (.ref p),z3,z4]) (λ_ _ _ _=>gB) (λσ M' h=>?_) (λy ys σ M' W h hW=>?_) _ _ _ ⟨[],g2,_,_,rfl,fI _,by rw[mU];show 0+_<=2;omega,λy hy=>?_,ok2.le (by rw[mU];omega),rfl⟩
 . obtain⟨acc,g1,z3,z4,rfl,h1,h2,_,h4,rfl⟩:=h
   dsimp only;unfold E1;walk_at "ev";exact hq p acc g1 hp ne h1 h2 (h4.le (by simp))
 . obtain⟨acc,g1,z3,z4,rfl,h1,h2,h3,h4,rfl⟩:=h
   obtain⟨t,rfl,t0,t1⟩:=h3 y (.head _);rw[List.length_cons]at h2 h4;rw[ZO];refine MR ((put_ne (bC ne)).trans br) br ne h4 ∅ ∅ h1 ht hl2 t0 t1 λy g' z4 hy ok'=>hW _ _ ⟨acc++ [y],g',_,_,?_,?_,?_,λy hy=>h3 y (.tail _ hy),ok'.le ∅,rfl⟩
   . rw[WR ne,eF]
   . intro w hw
     rcases dM.mp hw with z|z
     . exact h1 w z
     . cases iT.mp z;exact hy
   . rw[cN];show acc.length+1+_<=2;omega
 . obtain⟨t,e1,t0,t1⟩:=T6 hy
   exact⟨t,e1,t0,∅⟩
end
section
variable {e:Env}{n:Nat}{M L:RM}{Q:aj}{f:Fm}{g x r p:Addr}{D:RD}{σ:aY}{rt rs rdd wi:RV}{ds ps fs:LR}{ho do_ pl fa m th rd_:Int}{tx sd:Str}
theorem x0(h2:σ[2]? =some (some (.tup [.ls ds,.ls ps,.ls fs])))(hq:(tr ((P e).Gn n) yM).S D (((σ.set 10 (some (.ls ds))).set 11 (some (.ls ps))).set 12 (some (.ls fs))) L):(tr ((P e).Gn n) yN).S D σ L:=by
 unfold yN;walk_at "evs"
theorem x1(h0:σ[0]? =some (some (.ref x)))(h10:σ[10]? =some (some (.ls ds)))(hq:av (P e) n 49 [.ref x,.int 4] L λy M2=>cw (.ls ds) y M2 (zN [13,14] σ ((tr ((P e).Gn n) vk).S D))):(tr ((P e).Gn n) yM).S D σ L:=by
 unfold yM;walk_at "evs"
theorem x2(h0:σ[0]? =some (some (.ref x)))(h11:σ[11]? =some (some (.ls ps)))(hq:av (P e) n 49 [.ref x,.int 3] L λy M2=>cw (.ls ps) y M2 λz M3=>(tr ((P e).Gn n) yL).S D (σ.set 5 (some z)) M3):(tr ((P e).Gn n) vk).S D σ L:=by
 unfold vk;walk_at "evs"
theorem x3(h0:σ[0]? =some (some (.ref x)))(h12:σ[12]? =some (some (.ls fs)))(hq:av (P e) n 49 [.ref x,.int 3] L λy M2=>cw (.ls fs) y M2 λz M3=>(tr ((P e).Gn n) yK).S D (σ.set 6 (some z)) M3):(tr ((P e).Gn n) yL).S D σ L:=by
 unfold yL;walk_at "evs"
theorem x4(h0:σ[0]? =some (some (.ref x)))(hq:av (P e) n 49 [.ref x,.int 4] L λy M2=>cw (.ls [.str "",.str "a",.str "hello there",.str (lZ "k" 30)]) y M2 λt M3=>av (P e) n 49 [.ref x,.int 100] M3 λw M4=>qy "str" [w] M4 λs M5=>fY .Add t s M5 λz M6=>(tr ((P e).Gn n) yJ).S D (σ.set 7 (some z)) M6):(tr ((P e).Gn n) yK).S D σ L:=by
 unfold yK;walk_at "ev";rw[Wc];refine⟨⋯,⋯,rfl,?_⟩
 walk_at "evs";exact hq
theorem x5(h1:σ[1]? =some (some (.ref g)))(h5:σ[5]? =some (some (.int pl)))(h6:σ[6]? =some (some (.int fa)))(h7:σ[7]? =some (some (.str tx)))(h13:σ[13]? =some (some (.int ho)))(h14:σ[14]? =some (some (.int do_)))(hg:L g=some (bR e f.r rt rs rdd wi))
 (hq:av (P e) n 77 [.ref g,.str "note",.int ho,.int do_,.int pl,.int fa,.str "say",.str tx] L λv M1=>(tr ((P e).Gn n) yI).S D (σ.set 8 (some v)) M1):(tr ((P e).Gn n) yJ).S D σ L:=by
 unfold yJ;walk_at "evs"
theorem x6(h8:σ[8]? =some (some (led m)))(hq:(tr ((P e).Gn n) vj).S D σ L):(tr ((P e).Gn n) yI).S D σ L:=by
 unfold yI;walk_at "evs"
theorem x7(h0:σ[0]? =some (some (.ref x)))(h1:σ[1]? =some (some (.ref g)))(hg:L g=some (bR e f.r rt rs rdd wi))(hq:av (P e) n 19 [.ref g] L λv M1=>fY .Add v (.int 1) M1 λz M2=>av (P e) n 49 [.ref x,.int 9] M2 λy M3=>fY .Add z y M3 λw M4=>(tr ((P e).Gn n) yH).S D (σ.set 9 (some w)) M4):(tr ((P e).Gn n) vj).S D σ L:=by
 unfold vj;walk_at "evs"
theorem x8(h0:σ[0]? =some (some (.ref x)))(h5:σ[5]? =some (some (.int pl)))(h6:σ[6]? =some (some (.int fa)))(h7:σ[7]? =some (some (.str tx)))
 (hq:av (P e) n 51 [.ref x,.tup [.int pl,.int fa,.str tx]] L (kS λxs ok un M1=>gG (iQ [15,16]) (tr ((P e).Gn n) pH).S { nx:=(tr ((P e).Gn n) vi).S D,rt:=D.rt,bk:=D.bk,ct:=D.ct } ok un xs σ M1)):(tr ((P e).Gn n) yH).S D σ L:=by
 unfold yH;walk_at "evs"
theorem x9(h5:σ[5]? =some (some (.int pl)))(h6:σ[6]? =some (some (.int fa)))(h7:σ[7]? =some (some (.str tx)))(h8:σ[8]? =some (some (led m)))(hq:D.rt (.tup [.str "note",.int m,.int pl,.int fa,.str "say",.str tx]) L):(tr ((P e).Gn n) vi).S D σ L:=by
 unfold vi;walk_at "evs"
theorem x80(h3:σ[3]? =some (some (.ref r)))(h5:σ[5]? =some (some (.int pl)))(h6:σ[6]? =some (some (.int fa)))(h8:σ[8]? =some (some (led m)))(h9:σ[9]? =some (some (.int th)))(h15:σ[15]? =some (some (.str sd)))(h16:σ[16]? =some (some (.int rd_)))
 (hq:av (P e) n 67 [.ref r,.int (th+rd_),.tup [.str "come",.str "note",.int pl,.int fa,.int m,.str "say",.str sd]] L λ_ M1=>(tr ((P e).Gn n) xT).S D σ M1):(tr ((P e).Gn n) pH).S D σ L:=by
 unfold pH;walk_at "evs"
theorem x81(h4:σ[4]? =some (some (.ref p)))(h5:σ[5]? =some (some (.int pl)))(h6:σ[6]? =some (some (.int fa)))(h9:σ[9]? =some (some (.int th)))(h13:σ[13]? =some (some (.int ho)))(h14:σ[14]? =some (some (.int do_)))(h15:σ[15]? =some (some (.str sd)))(h16:σ[16]? =some (some (.int rd_)))
 (hq:av (P e) n 67 [.ref p,.int (th+rd_),.tup [.int ho,.int do_,.int pl,.int fa,.str sd]] L λ_ M1=>D.nx σ M1):(tr ((P e).Gn n) xT).S D σ L:=by
 unfold xT;walk_at "evs"
end
section
variable {e:Env}{n:Nat}{M M0 M0' L L':RM}{Q:aj}{f:Fm}{till:Int}{k b b':Nat}{c c':Cn}{tl tl':List Tk}{bk bk':List Bk}{ql ql' dl dl' gl bl:List Pe}{A:Ls}{x:Addr}{m q t:Int}{E:Pe}
abbrev MS(A:Ls)(M0 M0':RM):Prop:=∀y u,y≠A.r->y≠A.p->M0 y=some u->M0' y=some u
theorem Tn.ins{D:RD}{σ:aY}{pl fa th rd_ ho do_:Int}{sd:Str}(G:Tn e M0 L A f k b c tl bk ql dl gl bl)(hb:b<860)(hE:E.Ok f c tl)(e1:E=⟨th+rd_,⟨ho,do_,pl,fa⟩,m,sd⟩)
 (h3:σ[3]? =some (some (.ref A.r))) (h4:σ[4]? =some (some (.ref A.p))) (h5:σ[5]? =some (some (.int pl))) (h6:σ[6]? =some (some (.int fa))) (h8:σ[8]? =some (some (led m))) (h9:σ[9]? =some (some (.int th))) (h13:σ[13]? =some (some (.int ho))) (h14:σ[14]? =some (some (.int do_))) (h15:σ[15]? =some (some (.str sd))) (h16:σ[16]? =some (some (.int rd_)))
 (hq:∀M0' L',Tn e M0' L' A f k (b+2) c tl bk (gJ E ql) dl gl bl->MS A M0 M0'->D.nx σ L'):(tr ((P e).Gn (n+1)) pH).S D σ L:=by
 have nd:=G.nd;simp only[fV,cx,iC,or_false,not_or]at nd;obtain⟨⟨n1,n2,n3⟩,⟨n4,n5⟩,_⟩:=nd;obtain⟨d,gt,hd⟩:=G.gt;have so:=(za.mp G.so).2.1;have ll:=G.ll;have dn:∀F∈dl,F.mu<=E.mu:=λF hF=>by have:=G.dn F hF;have:=hE.lo;omega
 have l1:ql.length<900:=by rw[cN]at ll;omega
 have gt1:=gt.other (o':=.lst ((gJ E ql).map (bS Pe.dc))) G.hr;have hp1:put M0 A.r (.lst ((gJ E ql).map (bS Pe.dc))) A.p=some (.lst ((dl++ql).map (bS Pe.th))):=(put_ne (bC n1)).trans G.hp;have gt2:=gt1.other (o':=.lst ((gJ E (dl++ql)).map (bS Pe.th))) hp1;have il:=Uj (E:=E) so;subst e1;refine x80 (r:=A.r) (pl:=pl) (fa:=fa) (th:=th) (m:=m) (sd:=sd) (rd_:=rd_) h3 h5 h6 h8 h9 h15 h16 ?_;refine Hv (n:=n) (E:=⟨th+rd_,⟨ho,do_,pl,fa⟩,m,sd⟩) (h:=Pe.dc) (G.at_ G.hr) l1 so ?_;refine x81 (p:=A.p) (pl:=pl) (fa:=fa) (th:=th) (ho:=ho) (do_:=do_) (sd:=sd) (rd_:=rd_) h4 h5 h6 h9 h13 h14 h15 h16 ?_;refine Hv (n:=n) (E:=⟨th+rd_,⟨ho,do_,pl,fa⟩,m,sd⟩) (h:=Pe.th) (gt1.at_ hp1) ∅ G.so ?_
 refine hq _ _ ⟨⟨d,gt2,by rw[il];omega⟩,(put_ne n1).trans br,?_,(put_ne (bC n4)).trans ((put_ne (bC n2)).trans G.hw),(put_ne (bC n5)).trans ((put_ne (bC n3)).trans G.ho),G.nd,λF hF=>?_,?_,G.dn,G.bc,G.bo,?_,?_⟩ λy u h1 h2 h3=>(put_ne h2).trans ((put_ne h1).trans h3)
 . rw[HM dn];exact br
 . rcases VA hF with rfl|h
   . exact hE
   . exact G.qk F h
 . rw[<-HM dn];exact Us G.so
 . rw[cN]at ll ⊢;rw[il];omega
 . have q1:e.lP≠A.r:=λz=>by have:=G.lp;rw[z,G.hr]at this;cases this
   have q2:e.lP≠A.p:=λz=>by have:=G.lp;rw[z,G.hp]at this;cases this
   exact(put_ne q2).trans ((put_ne q1).trans G.lp)
theorem Tn.out{tx:Str}{i:bV}(G:Tn e M0 L A f k b c tl bk ql dl gl bl)(gx:Gx e f)(hk:k<64)(hb:b<890)(oki:i.Ok)(ht:Tx tx)(hq:∀m L' c' tl',Tn e M0 L' A f (k+1) (b+1) c' tl' (bk++ [(0,some (true,⟨0,i,m,tx⟩))]) ql dl gl (bl++ [⟨0,i,m,tx⟩])->Own f i m c' tl'->c'.now=c.now->Q (led m) L'):
 av (P e) (n+10) 77 [.ref A.g,.str "note",.int i.house,.int i.door,.int i.place,.int i.far,.str "say",.str tx] L Q:=by
 obtain⟨d,gt,hd⟩:=G.gt;refine gt.out gx.tb gx.fw ∅ ∅ oki ht λm c' tl' L' gt' al ow nw=>hq m L' c' tl' ⟨⟨d+1,gt',∅⟩,G.hr,G.hp,G.hw,G.ho,G.nd,λE hE=>(G.qk E hE).al nw al,G.so,λE hE=>by rw[nw];exact G.dn E hE,?_,?_,zh G.ll,G.lp⟩ ow nw
 . rw[mw,G.bc];exact eY _
 . rw[mw,G.bo];rfl
end
section
variable {e:Env}{n:Nat}{M M0 M0' L L':RM}{Q:aj}{f:Fm}{k b b':Nat}{c c':Cn}{tl tl':List Tk}{bk bk':List Bk}{ql ql' dl dl' gl bl:List Pe}{A:Ls}{x:Addr}{m q t:Int}{E:Pe}{ds ps fs:LR}
noncomputable abbrev sx (x:Addr) (A:Ls) (w ds ps fs:RV) (i:bV) (tx:Str) (m th:Int) (z15 z16:Option RV):aY:=[some (.ref x),some (.ref A.g),some w,some (.ref A.r),some (.ref A.p),some (.int i.place),some (.int i.far),some (.str tx),some (led m),some (.int th),some ds,some ps,some fs,some (.int i.house),some (.int i.door),z15,z16]
theorem MY{tx:Str}{i:bV}{th:Int}{p0:Addr}{xs:LR}{w r1 r2 r3:RV}{z15 z16:Option RV}(G:Tn e M0 L A f k b c tl bk ql dl gl bl)(gx:Gx e f)(hb:b<840)(h0:M0 p0=some (.lst xs))(n0:p0∉A.l)(hl:xs.length<=2)(ha:∀y∈xs,rV y)(ow:Own f i m c tl)(t1:c.now+1<=th)(t2:th<=c.now+9)
 (hq:∀M0' L' ql',Tn e M0' L' A f k (b+4) c tl bk ql' dl gl bl->Q (.tup [.str "note",.int m,.int i.place,.int i.far,.str "say",.str tx]) L'):
 gG (iQ [15,16]) (tr ((P e).Gn (n+1)) pH).S { nx:=(tr ((P e).Gn (n+1)) vi).S (rd Q),rt:=(rd Q).rt,bk:=(rd Q).bk,ct:=(rd Q).ct } (λM=>M p0=some (RO.lst xs)) id xs (sx x A w r1 r2 r3 i tx m th z15 z16) L:=by
 refine qU (λys σ M=>∃(M0:RM) (ql:List Pe) (b':Nat) (z15 z16:Option RV),Tn e M0 M A f k b' c tl bk ql dl gl bl/\b'+2*ys.length<=b+4/\ys.length<=2/\(∀y∈ys,rV y)/\M0 p0=some (.lst xs)/\σ=sx x A w r1 r2 r3 i tx m th z15 z16) (λ_ _ _ h=>by obtain⟨M0,ql,b',z15,z16,G,_,_,_,h0,_⟩:=h;exact G.at_ h0) (λσ M h=>?_) (λy ys σ M W h hW=>?_) _ _ _ ⟨M0,ql,b,z15,z16,G,∅,hl,ha,h0,rfl⟩
 . obtain⟨M0,ql,b',z15,z16,G,h1,_,_,_,rfl⟩:=h
   simp only[List.length_nil]at h1;dsimp only;refine x9 (pl:=i.place) (fa:=i.far) (tx:=tx) (m:=m) rfl rfl rfl rfl ?_;exact hq _ _ _ (G.mono ∅)
 . obtain⟨M0,ql,b',z15,z16,G,h1,h2,h3,h4,rfl⟩:=h
   rw[List.length_cons]at h1 h2;obtain⟨s,v,rfl,hs,v1,v2⟩:=h3 y (.head _);refine⟨rfl,?_⟩;show(tr ((P e).Gn (n+1)) pH).S _ (sx x A w r1 r2 r3 i tx m th (some (.str s)) (some (.int v))) M;obtain⟨U,hU,u1,u2,u3⟩:=ow;have t0:=gx.fw.t0;refine G.ins (E:=⟨th+v,i,m,s⟩) ∅ ⟨by dsimp only;omega,by dsimp only;omega,⟨U,hU,u1,u2,by dsimp only;omega⟩,hs⟩ rfl rfl rfl rfl rfl rfl rfl rfl rfl rfl rfl λM0' L' G' fr=>?_
   simp only[cx,iC,or_false,not_or]at n0;exact hW _ _ ⟨M0',_,b'+2,_,_,G',∅,∅,λy hy=>h3 y (.tail _ hy),fr _ _ n0.1 n0.2.1 h4,rfl⟩
theorem O6:Tx (lZ "k" 30)/\(lZ "k" 30).cps.toList.length<=30:=pK ⋯ (by decide+kernel)
theorem MX{g1:bF}{tx:Str}{i:bV}{w r1 r2 r3:RV}(G:Tn e M0 L A f k b c tl bk ql dl gl bl)(gx:Gx e f)(hb:b<840)(hx:M0 x=some g1.l)(n1:x∉A.l)(ok:g1.In 30)(ht:Tx tx)(hl2:tx.cps.toList.length<=32)(ow:Own f i m c tl)
 (hq:∀M0' L' ql',Tn e M0' L' A f k (b+4) c tl bk ql' dl gl bl->Q (.tup [.str "note",.int m,.int i.place,.int i.far,.str "say",.str tx]) L'):
 (tr ((P e).Gn (n+2)) vj).S (rd Q) [some (.ref x),some (.ref A.g),some w,some (.ref A.r),some (.ref A.p),some (.int i.place),some (.int i.far),some (.str tx),some (led m),none,some r1,some r2,some r3,some (.int i.house),some (.int i.door),none,none] L:=by
 obtain⟨_,_,_,hg⟩:=G.gate;refine x7 (x:=x) (g:=A.g) rfl rfl hg ?_;refine G.moment (n:=n+1) ?_;rw[f7];refine G.draw (n:=n+1) hx n1 ok ⋯ ⋯ ⋯ λv g2 M2 L2 a1 b1 ok2 G hx fr=>?_
 rw[f7];dsimp only[List.set_cons_zero,List.set_cons_succ];refine x8 (x:=x) (pl:=i.place) (fa:=i.far) (tx:=tx) rfl rfl rfl rfl ?_;refine Sl (n:=n) (G.at_ hx) ok2 ⋯ ht hl2 λp xs g3 hp ne hxs hlx ok3=>?_
 have G3:=G.bag (l2:=[.int g3.a,.int g3.b,.int g3.c]) hx n1;have hp3:put L2 x g3.l p=none:=(put_ne ne).trans hp;have no:=(G3.lE hp3).1;have G4:=G3.new (u:=.lst xs) hp3;rw[uC (xs:=xs) br];exact MY (n:=n+1) (th:=c.now+1+v) G4 gx hb br no hlx hxs ow ∅ ∅ hq
end
section
variable {e:Env}{n:Nat}{M M0 M0' L L':RM}{Q:aj}{f:Fm}{k b b':Nat}{c c':Cn}{tl tl':List Tk}{bk bk':List Bk}{ql ql' dl dl' gl bl:List Pe}{A:Ls}{x:Addr}{m q t:Int}{E:Pe}{ds ps fs:LR}
theorem Ut{v:Int}(h0:0<=v)(h1:v<4):∃t:Str,(Tx t/\t.cps.toList.length<=30)/\∀{M:RM} {Q:aj},cw (.ls [.str "",.str "a",.str "hello there",.str (lZ "k" 30)]) (.int v) M Q=Q (.str t) M:=by
 obtain⟨t,ht,ey⟩:=yG ["","a","hello there",lZ "k" 30] h0 h1;refine⟨t,?_,ey⟩;simp only[cx,iC,or_false]at ht;rcases ht with rfl|rfl|rfl|rfl
 . exact pK ⋯ (by decide+kernel)
 . exact pK ⋯ (by decide+kernel)
 . exact pK ⋯ (by decide+kernel)
 . exact O6
theorem Vi{g1:bF}(G:Tn e M0 L A f k b c tl bk ql dl gl gl)(gx:Gx e f)(wds:Wd ds ps fs)(hk:k<63)(hb:b<820)(hx:M0 x=some g1.l)(n1:x∉A.l)(ok:g1.In 10)
 (hq:∀E M0' L' c' tl' bk' ql',Tn e M0' L' A f (k+1) (b+5) c' tl' bk' ql' dl gl (gl++ [E])->Q E.gg L'):
 av (P e) (n+11) 74 [.ref x,.ref A.g,.tup [.ls ds,.ls ps,.ls fs],.ref A.r,.ref A.p] L Q:=by
 rw[us (i:=74) (d:=wD) rfl];refine⟨rfl,?_⟩;simp only[wD]
 change (tr ((P e).Gn (n+10)) yN).S (rd Q) [some (.ref x),some (.ref A.g),some (.tup [.ls ds,.ls ps,.ls fs]),some (.ref A.r),some (.ref A.p),none,none,none,none,none,none,none,none,none,none,none,none] L
 refine x0 rfl ?_;dsimp only[List.set_cons_zero,List.set_cons_succ];refine x1 (x:=x) (ds:=ds) rfl rfl ?_;refine G.draw (n:=n+9) hx n1 ok ⋯ ⋯ ⋯ λv g2 M2 L2 a1 b1 ok G hx fr=>?_
 obtain⟨y,hy,ey⟩:=rG (xs:=ds) a1 (by rw[wds.ld];exact b1)
 obtain⟨hh,dd,rfl,h1,h2⟩:=wds.hd y hy;rw[ey,SO];refine⟨rfl,?_⟩;show(tr ((P e).Gn (n+10)) vk).S (rd Q) [some (.ref x),some (.ref A.g),some (.tup [.ls ds,.ls ps,.ls fs]),some (.ref A.r),some (.ref A.p),none,none,none,none,none,some (.ls ds),some (.ls ps),some (.ls fs),some (.int hh),some (.int dd),none,none] L2;refine x2 (x:=x) (ps:=ps) rfl rfl ?_;refine G.draw (n:=n+9) hx n1 ok ⋯ ⋯ ⋯ λv g2 M2 L2 a1 b1 ok G hx fr=>?_
 obtain⟨y,hy,ey⟩:=rG (xs:=ps) a1 (by rw[wds.lp];exact b1)
 obtain⟨pl,rfl,hp⟩:=wds.ap y hy;rw[ey];dsimp only[List.set_cons_zero,List.set_cons_succ];refine x3 (x:=x) (fs:=fs) rfl rfl ?_;refine G.draw (n:=n+9) hx n1 ok ⋯ ⋯ ⋯ λv g2 M2 L2 a1 b1 ok G hx fr=>?_
 obtain⟨y,hy,ey⟩:=rG (xs:=fs) a1 (by rw[wds.lf];exact b1)
 obtain⟨fa,rfl,hf⟩:=wds.af y hy;rw[ey];dsimp only[List.set_cons_zero,List.set_cons_succ];refine x4 (x:=x) rfl ?_;refine G.draw (n:=n+9) hx n1 ok ⋯ ⋯ ⋯ λv g2 M2 L2 a1 b1 ok G hx fr=>?_
 obtain⟨t,⟨ht,lt⟩,ey⟩:=Ut a1 b1;rw[ey];refine G.draw (n:=n+9) hx n1 ok ⋯ ⋯ ⋯ λv g2 M2 L2 a1 b1 ok G hx fr=>?_
 obtain⟨hn,ln⟩:=xX (k:=2) a1 (.inr ⟨b1,rfl⟩);have la:=uH (a:=t) (b:=gI v);have hw:=ht.app hn ∅
 rw[pG];refine⟨a1,∅,?_⟩
 rw[uF];refine⟨by rw[len_str,len_str];exact bG (show _<=100 by omega) ⋯,?_⟩
 generalize t++gI v=tx at la hw ⊢;dsimp only[List.set_cons_zero,List.set_cons_succ];obtain⟨_,_,_,hg⟩:=G.gate;refine x5 (g:=A.g) (pl:=pl) (fa:=fa) (tx:=tx) (ho:=hh) (do_:=dd) rfl rfl rfl rfl rfl rfl hg ?_;refine G.out (n:=n) (i:=⟨hh,dd,pl,fa⟩) gx ∅ ∅ ⟨h1,h2,hp,hf⟩ hw λm L3 c3 tl3 G ow nw=>?_
 dsimp only[List.set_cons_zero,List.set_cons_succ];refine x6 (m:=m) rfl ?_;exact MX (n:=n+8) (i:=⟨hh,dd,pl,fa⟩) G gx ∅ hx n1 (ok.le ⋯) hw ∅ ow λM0' L' ql' G'=>hq ⟨0,⟨hh,dd,pl,fa⟩,m,tx⟩ _ _ _ _ _ _ G'
end
section
variable {e:Env}{n:Nat}{M L:RM}{Q:aj}{D:RD}{σ:aY}{p:Addr}{acc:LR}{b:Bk}{E:Pe}{bk:List Bk}{t hs:Int}{xs:LR}{v:RV}
theorem AR{tb:cD}{is:List Nat}(h:Bk->Option RV)(St:aY->Prop)(hs:∀b σ (M:RM) acc (D':RD),St σ->M p=some (.lst acc)->acc.length<1000->(∀σ',St σ'->D'.nx σ' (put M p (.lst (acc++(h b).toList))))->iQ is (eL b) σ M λσ2 M2=>tb D' σ2 M2)(hl:bk.length<1000)(h0:St σ)
 (hq:∀σ',St σ'->D.nx σ' (put M p (.lst (bk.filterMap h)))):gG (iQ is) tb D dE id (bk.map eL) σ (put M p (.lst [])):=by
 refine qU (λys σ' M'=>∃(r1 r2:List Bk),bk=r1++r2/\ys=r2.map eL/\M'=put M p (.lst (r1.filterMap h))/\St σ') (λ_ _ _ _=>gB) (λσ' M' h=>?_) (λy ys σ' M' W hI hW=>?_) _ _ _ ⟨[],bk,rfl,rfl,rfl,h0⟩
 . obtain⟨r1,r2,h1,h2,rfl,h4⟩:=h
   cases r2 with
   |nil=>rw[eY]at h1;subst h1;exact hq _ h4
   |cons a r=>cases h2
 . obtain⟨r1,r2,h1,h2,rfl,h4⟩:=hI
   cases r2 with
   |nil=>cases h2
   |cons a r=>
    injection h2 with e1 e2
    subst e1;have l1:(r1.filterMap h).length<1000:=by
     have:=zl h r1;rw[h1,cN]at hl;omega
    refine hs a _ _ _ _ h4 br l1 λσ2 h5=>hW _ _ ⟨r1++ [a],r,by rw[h1];simp,e2,?_,h5⟩
    rw[eF,mw];cases h6:h a<;>simp[h6]
theorem BI:eL (t,none)= .tup [.tup [.str "wait",.int t],.ao]:=rfl
theorem BJ:eL (t,some (true,E))= .tup [E.dn,led E.m]:=rfl
theorem BK:eL (t,some (false,E))= .tup [E.dc,gY E.i.house E.i.door]:=rfl
theorem xR{x:Str}{r:LR}(h:(x==("out":Str))=false):av (P e) (n+1) 46 [.tup (.str x::r),v] M Q=Q (.bl false) M:=by
 rw[us (i:=46) (d:=qM) rfl];simp only[qM];walk_at "ev";rw[h];walk_at "ev"
theorem Ir{r s:LR}:av (P e) (n+1) 46 [.tup (.str "out"::r),.tup (.str "led"::s)] M Q=Q (.bl true) M:=by
 rw[us (i:=46) (d:=qM) rfl];simp only[qM];walk_at "ev"
noncomputable def oT (b:Bk):Option RV:=(sX b).map Pe.gg
def vN(bv:RV)(p:Addr)(σ:aY):Prop:=∃z2 z3 z4 z5 z6 z7 z8 z9 z10 z11,σ= [some bv,some (.ref p),z2,z3,z4,z5,z6,z7,z8,z9,z10,z11]
theorem Qf{bv:RV}(h0:vN bv p σ)(hp:M p=some (.lst acc))(hl:acc.length<1000)(hq:∀σ',vN bv p σ'->D.nx σ' (put M p (.lst (acc++(oT b).toList)))):
 iQ [2,3] (eL b) σ M λσ2 M2=>(tr ((P e).Gn (n+1)) mX).S D σ2 M2:=by
 obtain⟨z2,z3,z4,z5,z6,z7,z8,z9,z10,z11,rfl⟩:=h0;obtain⟨t,_|⟨_|_,E⟩⟩:=b
 . rw[BI]
   refine⟨rfl,?_⟩;show(tr ((P e).Gn (n+1)) mX).S D [some bv,some (.ref p),some (.tup [.str "wait",.int t]),some .ao,z4,z5,z6,z7,z8,z9,z10,z11] M;have q:=hq [some bv,some (.ref p),some (.tup [.str "wait",.int t]),some .ao,z4,z5,z6,z7,z8,z9,z10,z11] ⟨_,_,_,_,_,_,_,_,_,_,rfl⟩;rw[show(oT (t,none)).toList= []from rfl,eY,lM hp]at q
   unfold mX;walk_at "ev";rw[xR (by decide+kernel)];walk_at "ev"
   exact q
 . rw[BK]
   refine⟨rfl,?_⟩;show(tr ((P e).Gn (n+1)) mX).S D [some bv,some (.ref p),some E.dc,some (gY E.i.house E.i.door),z4,z5,z6,z7,z8,z9,z10,z11] M;have q:=hq [some bv,some (.ref p),some E.dc,some (gY E.i.house E.i.door),z4,z5,z6,z7,z8,z9,z10,z11] ⟨_,_,_,_,_,_,_,_,_,_,rfl⟩;rw[show(oT (t,some (false,E))).toList= []from rfl,eY,lM hp]at q
   unfold mX;walk_at "ev";unfold Pe.dc;rw[xR (by decide+kernel)];walk_at "ev"
   exact q
 . rw[BJ]
   refine⟨rfl,?_⟩;show(tr ((P e).Gn (n+1)) mX).S D [some bv,some (.ref p),some E.dn,some (led E.m),z4,z5,z6,z7,z8,z9,z10,z11] M;have q:∀σ',vN bv p σ'->D.nx σ' (put M p (.lst (acc++ [E.gg]))):=hq;clear hq;unfold mX;walk_at "ev";unfold Pe.dn;rw[Ir];walk_at "ev";rw[hp];walk_at "ev";exact⟨acc,_,rfl,hp,d8 hl ⋯,q _ ⟨_,_,_,_,_,_,_,_,_,_,rfl⟩⟩
theorem WJ(hl:bk.length<1000)(hq:∀p,M p=none->Q (.ref p) (put M p (.lst (bk.filterMap oT)))):av (P e) (n+2) 21 [.ls (bk.map eL)] M Q:=by
 rw[us (i:=21) (d:=xQ) rfl];simp only[xQ];walk_at "ev";unfold J5;walk_at "ev";intro p hp;unfold J4;walk_at "ev";refine AR oT (vN (.ls (bk.map eL)) p) (λb σ M acc D' h0 hp hl hq=>Qf h0 hp hl hq) hl ⟨_,_,_,_,_,_,_,_,_,_,rfl⟩ λσ' h=>?_
 obtain⟨z2,z3,z4,z5,z6,z7,z8,z9,z10,z11,rfl⟩:=h;dsimp only;unfold Kq;walk_at "ev";exact hq p hp
end
section
variable {e:Env}{n:Nat}{M L:RM}{Q:aj}{D:RD}{σ:aY}{p:Addr}{acc:LR}{b:Bk}{E:Pe}{bk:List Bk}{t hs:Int}{xs:LR}{v:RV}{dl:List Pe}
noncomputable def Pe.fr (E:Pe):RV:=.tup [.str "from",.str "note",.int E.i.house,.int E.i.door,.int E.i.place,.int E.i.far,.str "say",.str E.tx]
noncomputable def Pe.to (E:Pe):RV:=.tup [.str "to",.str "note",.int E.i.house,.int E.i.door,.int E.i.place,.int E.i.far,.str "say",.str E.tx]
noncomputable def jt (b:Bk):Option RV:=match b.2 with
 |none=>none
 |some x=>some (if x.1=true then x.2.to else x.2.fr)
def sE(bv:RV)(p:Addr)(σ:aY):Prop:=∃z2 z3 z4 z5 z6 z7 z8 z9 z10 z11 z12 z13,σ= [some bv,some (.ref p),z2,z3,z4,z5,z6,z7,z8,z9,z10,z11,z12,z13]
theorem Qg{bv:RV}(h0:sE bv p σ)(hp:M p=some (.lst acc))(hl:acc.length<1000)(hq:∀σ',sE bv p σ'->D.nx σ' (put M p (.lst (acc++(jt b).toList)))):
 iQ [2,3] (eL b) σ M λσ2 M2=>(tr ((P e).Gn (n+1)) mY).S D σ2 M2:=by
 obtain⟨z2,z3,z4,z5,z6,z7,z8,z9,z10,z11,z12,z13,rfl⟩:=h0;obtain⟨t,_|⟨_|_,E⟩⟩:=b
 . rw[BI]
   refine⟨rfl,?_⟩;show(tr ((P e).Gn (n+1)) mY).S D [some bv,some (.ref p),some (.tup [.str "wait",.int t]),some .ao,z4,z5,z6,z7,z8,z9,z10,z11,z12,z13] M;have q:=hq [some bv,some (.ref p),some (.tup [.str "wait",.int t]),some .ao,z4,z5,z6,z7,z8,z9,z10,z11,z12,z13] ⟨_,_,_,_,_,_,_,_,_,_,_,_,rfl⟩;rw[show(jt (t,none)).toList= []from rfl,eY,lM hp]at q
   unfold mY;walk_at "ev";rw[xR (by decide+kernel)];walk_at "ev"
   first|exact q|(rw[ag (by decide+kernel)];exact q)
 . rw[BK]
   refine⟨rfl,?_⟩;show(tr ((P e).Gn (n+1)) mY).S D [some bv,some (.ref p),some E.dc,some (gY E.i.house E.i.door),z4,z5,z6,z7,z8,z9,z10,z11,z12,z13] M;have q:∀σ',sE bv p σ'->D.nx σ' (put M p (.lst (acc++ [E.fr]))):=hq;clear hq;unfold mY;walk_at "ev";unfold Pe.dc;rw[xR (by decide+kernel)];walk_at "ev"
   rw[hp];walk_at "ev";exact⟨acc,_,rfl,hp,d8 hl ⋯,q _ ⟨_,_,_,_,_,_,_,_,_,_,_,_,rfl⟩⟩
 . rw[BJ]
   refine⟨rfl,?_⟩;show(tr ((P e).Gn (n+1)) mY).S D [some bv,some (.ref p),some E.dn,some (led E.m),z4,z5,z6,z7,z8,z9,z10,z11,z12,z13] M;have q:∀σ',sE bv p σ'->D.nx σ' (put M p (.lst (acc++ [E.to]))):=hq;clear hq;unfold mY;walk_at "ev";unfold Pe.dn;rw[Ir];walk_at "ev";rw[hp];walk_at "ev";rw[BH];refine⟨show 8<=sizeLine by decide,?_⟩
   exact⟨acc,_,rfl,hp,d8 hl ⋯,q _ ⟨_,_,_,_,_,_,_,_,_,_,_,_,rfl⟩⟩
theorem Vj(hl:bk.length<1000)(hq:∀p,M p=none->Q (.ref p) (put M p (.lst (bk.filterMap jt)))):av (P e) (n+2) 22 [.ls (bk.map eL)] M Q:=by
 rw[us (i:=22) (d:=wV) rfl];simp only[wV];walk_at "ev";unfold J8;walk_at "ev";intro p hp;unfold J7;walk_at "ev";refine AR jt (sE (.ls (bk.map eL)) p) (λb σ M acc D' h0 hp hl hq=>Qg h0 hp hl hq) hl ⟨_,_,_,_,_,_,_,_,_,_,_,_,rfl⟩ λσ' h=>?_
 obtain⟨z2,z3,z4,z5,z6,z7,z8,z9,z10,z11,z12,z13,rfl⟩:=h;dsimp only;unfold J6;walk_at "ev";exact hq p hp
noncomputable def Pe.gt (E:Pe):RV:=.tup [.str "got",.str "note",.int E.i.door,.int E.i.place,.int E.i.far,.str "say",.str E.tx]
noncomputable def gtB (hs:Int)(b:Bk):Option RV:=(nZ b).bind λE=>if E.i.house=hs then some E.gt else none
def W7(bv:RV)(hs:Int)(p:Addr)(σ:aY):Prop:=∃z3 z4 z5 z6,σ= [some bv,some (.int hs),some (.ref p),z3,z4,z5,z6]
theorem SG{s:LR}{d:RV}:av (P e) (n+1) 43 [d,.tup (.str "led"::s)] M Q=Q .ao M:=by
 rw[us (i:=43) (d:=sY) rfl];simp only[sY];walk_at "ev";rw[ar (by decide+kernel)]
theorem Rv:av (P e) (n+2) 44 [E.dc,gY E.i.house E.i.door] M Q=Q (.tup [.int E.i.house,E.gt]) M:=by
 rw[us (i:=44) (d:=tL) rfl];simp only[tL];walk_at "ev";unfold Kc;walk_at "ev";unfold Kb Pe.dc;walk_at "ev";unfold Ka;walk_at "ev";unfold J9;walk_at "ev";rw[us (i:=76) (d:=wW) rfl];simp only[wW];walk_at "ev";rfl
theorem Dn:cw E.dc (.int 0) M Q=Q (.str "come") M:=bu.trans (by rw[vb];rfl)
theorem Dk:cw E.dn (.int 0) M Q=Q (.str "out") M:=bu.trans (by rw[vb];rfl)
theorem MV(tb:Tb e){bv:RV}(h0:W7 bv hs p σ)(hp:M p=some (.lst acc))(hl:acc.length<1000)(hq:∀σ',W7 bv hs p σ'->D.nx σ' (put M p (.lst (acc++(gtB hs b).toList)))):
 iQ [3,4] (eL b) σ M λσ2 M2=>(tr ((P e).Gn (n+2)) m8).S D σ2 M2:=by
 obtain⟨z3,z4,z5,z6,rfl⟩:=h0;obtain⟨t,_|⟨_|_,E⟩⟩:=b
 . rw[BI]
   refine⟨rfl,?_⟩;show(tr ((P e).Gn (n+2)) m8).S D [some bv,some (.int hs),some (.ref p),some (.tup [.str "wait",.int t]),some .ao,z5,z6] M;have q:=hq [some bv,some (.int hs),some (.ref p),some (.tup [.str "wait",.int t]),some .ao,z5,z6] ⟨_,_,_,_,rfl⟩;rw[show(gtB hs (t,none)).toList= []from rfl,eY,lM hp]at q
   unfold m8;walk_at "ev";rw[tb.g2];walk_at "ev";exact q
 . rw[BK]
   refine⟨rfl,?_⟩;show(tr ((P e).Gn (n+2)) m8).S D [some bv,some (.int hs),some (.ref p),some E.dc,some (gY E.i.house E.i.door),z5,z6] M;obtain⟨a,g1,g2⟩:=tb.g1;unfold m8;walk_at "ev";rw[Dn];walk_at "ev";rw[g1];walk_at "ev";rw[Dn];walk_at "ev";rw[g1,xr,An];refine⟨_,aW.mpr ⟨_,g2,rfl⟩,?_⟩;walk_at "ev";rw[Rv];walk_at "ev";have q:∀σ',W7 bv hs p σ'->D.nx σ' (put M p (.lst (acc++(if E.i.house=hs then some E.gt else none).toList))):=hq
   clear hq
   by_cases z:E.i.house=hs
   . rw[ar z]at q
     rw[ar (by simpa using z),hp];walk_at "ev"
     exact⟨acc,_,rfl,hp,d8 hl ⋯,q _ ⟨_,_,_,_,rfl⟩⟩
   . rw[ag z,show(none:Option RV).toList= []from rfl,eY,lM hp]at q
     rw[ag (by simpa using z)]
     exact q _ ⟨_,_,_,_,rfl⟩
 . rw[BJ]
   refine⟨rfl,?_⟩;show(tr ((P e).Gn (n+2)) m8).S D [some bv,some (.int hs),some (.ref p),some E.dn,some (led E.m),z5,z6] M;obtain⟨a,g1,g2⟩:=tb.g0;have q:∀σ',W7 bv hs p σ'->D.nx σ' (put M p (.lst (acc++ []))):=hq;clear hq;rw[eY,lM hp]at q;unfold m8;walk_at "ev";rw[Dk];walk_at "ev";rw[g1];walk_at "ev";rw[Dk];walk_at "ev";rw[g1,xr,An];refine⟨_,aW.mpr ⟨_,g2,rfl⟩,?_⟩;walk_at "ev";rw[SG];walk_at "ev";exact q _ ⟨_,_,_,_,rfl⟩
theorem Zb(tb:Tb e)(hl:bk.length<1000)(hq:∀p,M p=none->Q (.ref p) (put M p (.lst (bk.filterMap (gtB hs))))):av (P e) (n+3) 45 [.ls (bk.map eL),.int hs] M Q:=by
 rw[us (i:=45) (d:=yn) rfl];simp only[yn];walk_at "ev";unfold EE;walk_at "ev";intro p hp;unfold ED;walk_at "ev";refine AR (gtB hs) (W7 (.ls (bk.map eL)) hs p) (λb σ M acc D' h0 hp hl hq=>MV tb h0 hp hl hq) hl ⟨_,_,_,_,rfl⟩ λσ' h=>?_
 obtain⟨z3,z4,z5,z6,rfl⟩:=h;dsimp only;unfold EC;walk_at "ev";exact hq p hp
noncomputable def Dh (hs:Int):RV->Bool
 | .tup [_,.tup (.int h::_)]=>h==hs
 |_=>false
noncomputable def Cu:RV->RV
 | .tup [_,.tup [_,.int d,.int pl,.int fa,.str s]]=>.tup [.str "got",.str "note",.int d,.int pl,.int fa,.str "say",.str s]
 |x=>x
theorem QY{p:Addr}(hp:M p=some (.lst (dl.map (bS Pe.th))))(hl:dl.length<900)(hq:Q (.ls ((dl.filter λE=>E.i.house==hs).map Pe.gt)) M):av (P e) (n+1) 52 [.ref p,.int hs] M Q:=by
 rw[us (i:=52) (d:=wC) rfl];simp only[wC];walk_at "ev";rw[uC hp];refine⟨by rw[bw];exact d8 hl ⋯,ju (bd:=gh true 2) (Dh hs) Cu hp _ _ (λy hy=>?_) ?_⟩
 . obtain⟨F,hF,rfl⟩:=aW.mp hy
   unfold bS Pe.th;refine⟨_,rfl,λK hK=>?_,λ_ K hK=>?_⟩
   . walk_at "ev";exact hK
   . walk_at "ev"
     rw[show fF [RV.int F.i.house,.int F.i.door,.int F.i.place,.int F.i.far,.str F.tx] (some 2) (some 4)= [.int F.i.place,.int F.i.far]from rfl]
     exact⟨show 5<=sizeLine by decide,show 7<=sizeLine by decide,hK⟩
 . rw[pC,List.nil_append]
   have e1:((dl.map (bS Pe.th)).filter (Dh hs)).map Cu=(dl.filter λE=>E.i.house==hs).map Pe.gt:=by
    rw[List.filter_map,cE];rfl
   rw[e1];exact hq
end
section
variable {e:Env}{n:Nat}{M M0 M0' L L':RM}{Q:aj}{f:Fm}{k b b':Nat}{c c':Cn}{tl tl':List Tk}{bk bk':List Bk}{ql ql' dl dl' gl bl:List Pe}{A:Ls}{x:Addr}{m q t hs:Int}{E:Pe}{ds ps fs xs:LR}{a b2:RV}
theorem Tn.gone(G:Tn e M0 L A f k b c tl bk ql dl gl bl):Tn e (put M0 A.o (.lst ((gl++ [E]).map Pe.gg))) (put L A.o (.lst ((gl++ [E]).map Pe.gg))) A f k b c tl bk ql dl (gl++ [E]) bl:=by
 obtain⟨d,g,hb⟩:=G.gt;have nd:=G.nd;simp only[fV,cx,iC,or_false,not_or]at nd;obtain⟨⟨_,_,n3⟩,⟨_,n5⟩,n6,_⟩:=nd;exact⟨⟨d,g.other G.ho,hb⟩,(put_ne n3).trans G.hr,(put_ne n5).trans G.hp,(put_ne n6).trans G.hw,br,G.nd,G.qk,G.so,G.dn,G.bc,G.bo,G.ll,(put_ne λz=>by have:=G.lp;rw[z,G.ho]at this;cases this).trans G.lp⟩
theorem Tn.jJ(G:Tn e M0 L A f k b c tl bk ql dl gl bl):bk.length<=b:=by
 obtain⟨d,⟨⟨_,h1⟩,ad,M,g,_⟩,hb⟩:=G.gt;have h2:=g.s4;rw[h1,bw]at h2;omega
theorem Tn.book(G:Tn e M0 L A f k b c tl bk ql dl gl bl)(hq:Q (.ls (bk.map eL)) L):av (P e) (n+1) 20 [.ref A.g] L Q:=by
 obtain⟨d,gt,hd⟩:=G.gt;exact gt.book hq
noncomputable abbrev sl (sc:RV) (f:Fm) (w:RV) (A:Ls) (xs:List Int) (z9 z10 z11 z12 z13 z14:Option RV):aY:=[some sc,some f.r,some w,some (.ref A.g),some (.ref A.r),some (.ref A.p),some (.ref A.w),some (.ref A.o),some (.ls (xs.map RV.int)),z9,z10,z11,z12,z13,z14]
theorem XC{D:RD}{sc:RV}{xs:List Int}{j:Int}{z10 z11 z12 z13 z14:Option RV}(G:Tn e M0 L A f k b c tl bk ql dl gl gl)(gx:Gx e f)(wds:Wd ds ps fs)(hk:k<63)(hb:b<800)(h0:0<=j)(hj:j<1000)(hx:0<xs.length)(hl:xs.length<1000)
 (hq:∀z11 z12 M0' L' c' tl' bk' ql' dl' gl',Tn e M0' L' A f (k+1) (b+6) c' tl' bk' ql' dl' gl' gl'->D.nx (sl sc f (.tup [.ls ds,.ls ps,.ls fs]) A xs (some (.int j)) z10 z11 z12 z13 z14) L'):
 (tr ((P e).Gn (n+12)) AZ).S D (sl sc f (.tup [.ls ds,.ls ps,.ls fs]) A xs (some (.int j)) z10 z11 z12 z13 z14) L:=by
 unfold AZ;walk_at "z";refine Ti (n:=n+10) h0 hj hx hl λx g1 hxn ok=>?_
 have n1:=(G.lE hxn).1;have G:=G.new (u:=g1.l) hxn;have hb1:put M0 x g1.l x=some g1.l:=br;generalize put M0 x g1.l=M1 at G hb1;generalize put L x g1.l=L1 at G ⊢;obtain⟨_,_,_,hg⟩:=G.gate;unfold IC;walk_at "ev";rw[hg];walk_at "ev";refine G.moment (n:=n+11) ?_;refine G.draw (n:=n+11) hb1 n1 ok ⋯ ⋯ ⋯ λv g2 M2 L2 a1 b1 ok2 G hb2 _=>?_
 rw[f7];refine Ie (n:=n+1) G gx ∅ ∅ ∅ ∅ λM3 L3 c3 tl3 bk3 ql3 dl3 G fr _ _ _=>?_
 simp only[cx,iC,or_false,not_or]at n1;have hb3:=fr x _ n1.1 hb2;unfold IB;walk_at "z";refine Vi (n:=n+1) G gx wds hk ∅ hb3 (by simp only[cx,iC,or_false,not_or];exact n1) (ok2.le ⋯) λE M4 L4 c4 tl4 bk4 ql4 G=>?_
 have ho:=G.at_ G.ho;have G':=G.gone (E:=E);have lo:gl.length<1000:=by
  have h1:=G.bo;have h2:=zl sX bk4;have h3:=G.jJ;rw[h1,cN]at h2;omega
 rw[eQ]at G';unfold IA;walk_at "ev";unfold Iz;walk_at "ev";rw[show gv E.gg=false from rfl,ag ⋯,ho];walk_at "ev"
 refine⟨gl.map Pe.gg,_,rfl,ho,by rw[bw];exact d8 lo ⋯,?_⟩
 exact hq _ _ _ _ _ _ _ _ _ _ (G'.mono ∅)
theorem mR:∀(n:Nat) (x:RV),aA n x=true->bq x x=true
 |_,.ao,_=>by simp[bq]
 |_,.bl _,_=>by simp[bq]
 |_,.int _,_=>by simp[bq]
 |_,.str _,_=>by simp[bq]
 |n+1,.tup xs,h=>by
  have h:xs.all (aA n)=true:=h;unfold bq
  induction xs with
  |nil=>simp[fE]
  |cons x xs ih=>rw[eC,aU]at h;unfold fE;rw[mR n x h.1,ih h.2 h.2];rfl
 |n+1,.ls xs,h=>by
  have h:xs.all (aA n)=true:=h;unfold bq
  induction xs with
  |nil=>simp[fE]
  |cons x xs ih=>rw[eC,aU]at h;unfold fE;rw[mR n x h.1,ih h.2 h.2];rfl
 |0,.tup _,h=>by simp[aA]at h
 |0,.ls _,h=>by simp[aA]at h
 |_,.ref _,h=>by simp[aA]at h
 |_,.ty _,h=>by simp[aA]at h
theorem Az{xs:LR}:bM M (.ls xs)= .ls xs:=rfl
theorem ph{y:Addr}{xs:LR}(h:M y=some (.lst xs)):bM M (.ref y)= .ls xs:=by unfold bM;dsimp only;rw[h]
theorem yf{xs:LR}(h1:bM M a= .ls xs)(h2:bM M b2= .ls xs)(o:aA 16 (.ls xs)=true)(hq:Q (.bl false) M):eE .NotEq a b2 M Q:=by
 show aA 16 (bM M a)=true/\aA 16 (bM M b2)=true/\Q (.bl (!bq (bM M a) (bM M b2))) M;rw[h1,h2,mR _ _ o];exact⟨o,o,hq⟩
theorem Zt{xs:LR}(h1:bM M a= .ls xs)(h2:bM M b2= .ls xs)(o:aA 16 (.ls xs)=true)(hq:Q (.bl true) M):eE .Eq a b2 M Q:=by
 show aA 16 (bM M a)=true/\aA 16 (bM M b2)=true/\Q (.bl (bq (bM M a) (bM M b2))) M;rw[h1,h2,mR _ _ o];exact⟨o,o,hq⟩
theorem AL{h:Pe->RV}{l:List Pe}(o:∀E,aA 15 (h E)=true):aA 16 (.ls (l.map h))=true:=by
 show(l.map h).all (aA 15)=true;rw[List.all_map,fG];exactλx _=>o x
theorem go_eq:bk.filterMap oT=(bk.filterMap sX).map Pe.gg:=by rw[List.map_filterMap];rfl
theorem gt_if:∀{l:List Pe},l.filterMap (λE=>if E.i.house=hs then some E.gt else none)=(l.filter λE=>E.i.house==hs).map Pe.gt
 | []=>rfl
 |E::l=>by
  rw[jH,fU,gt_if]
  by_cases z:E.i.house=hs
  . rw[ar z,ar (by simpa using z)];rfl
  . rw[ag z,ag (by simpa using z)]
theorem ZD:bk.filterMap (gtB hs)=((bk.filterMap nZ).filter λE=>E.i.house==hs).map Pe.gt:=by
 rw[<-gt_if,List.filterMap_filterMap];rfl
noncomputable def wg:RV->Bool
 | .tup (.str s::_)=>s== "from"
 |_=>false
theorem ym:∀{bk:List Bk},(bk.filterMap jt).filter wg=(bk.filterMap nZ).map Pe.fr
 | []=>rfl
 |(t,none)::l=>by
  rw[jH,jH];exact ym
 |(t,some (true,E))::l=>by
  rw[jH,jH];show(E.to::l.filterMap jt).filter wg=(l.filterMap nZ).map Pe.fr;rw[fU,ag (by show ¬((("to":Str)== "from")=true);decide+kernel)];exact ym
 |(t,some (false,E))::l=>by
  rw[jH,jH];show(E.fr::l.filterMap jt).filter wg=(E::l.filterMap nZ).map Pe.fr;rw[fU,ar (by show((("from":Str)== "from")=true);decide+kernel),cj,ym]
theorem Qe{D:RD}{sc:RV}{xs:List Int}{z9 z10 z11 z12 z14:Option RV}(G:Tn e M0 L A f k b c tl bk [] dl gl gl)(gx:Gx e f)(hb:b<860)
 (hq:∀M0' L',Tn e M0' L' A f k b c tl bk [] dl gl gl->D.nx (sl sc f (.tup [.ls ds,.ls ps,.ls fs]) A xs z9 z10 z11 z12 (some (.int hs)) z14) L'):
 (tr ((P e).Gn (n+12)) xF).S D (sl sc f (.tup [.ls ds,.ls ps,.ls fs]) A xs z9 z10 z11 z12 (some (.int hs)) z14) L:=by
 obtain⟨_,_,_,hg⟩:=G.gate;unfold xF;walk_at "ev";rw[hg];walk_at "ev";refine G.book (n:=n+11) ?_;have bl:=G.jJ;refine Zb (n:=n+9) gx.tb ∅ λp hp=>?_
 have G1:=G.new (u:=.lst (bk.filterMap (gtB hs))) hp;have ll:=G.ll;rw[eY]at ll;refine QY (n:=n+11) (dl:=dl) (by have:=G1.at_ G1.hp;rwa [eY]at this) ∅ ?_
 have e1:=ZD (bk:=bk) (hs:=hs);rw[G.bc]at e1;refine yf (ph (by rw[br,e1])) Az (AL λ_=>rfl) ?_
 rw[rj,ag ⋯]
 (try walk_at "ev")
 exact hq _ _ G1
end
section
variable {e:Env}{n:Nat}{M M0 M0' L L':RM}{Q:aj}{f:Fm}{k b b':Nat}{c c':Cn}{tl tl':List Tk}{bk bk':List Bk}{ql ql' dl dl' gl bl:List Pe}{A:Ls}{x:Addr}{m q t hs:Int}{E:Pe}{ds ps fs:LR}{a b2:RV}{sc:RV}{xs:List Int}{z9 z10 z11 z12 z13 z14:Option RV}
noncomputable def Ct:RV->RV
 | .tup [_,.tup [h,d,pl,fa,s]]=>.tup [.str "from",.str "note",h,d,pl,fa,.str "say",s]
 |x=>x
theorem Qc(G:Tn e M0 L A f k b c tl bk [] dl gl gl)(hb:b<860)(hq:∀M',M' e.lP=some (bN e)->Q (.bl true) M'):
 (tr ((P e).Gn (n+12)) Bp).S (rd Q) (sl sc f (.tup [.ls ds,.ls ps,.ls fs]) A xs z9 z10 z11 z12 z13 z14) L:=by
 obtain⟨_,_,_,hg⟩:=G.gate;have bl:=G.jJ;unfold Bp;walk_at "ev";rw[hg];walk_at "ev";refine G.book (n:=n+11) ?_;refine WJ (n:=n+10) ∅ λp hp=>?_
 have G1:=G.new (u:=.lst (bk.filterMap oT)) hp;refine Zt (ph (by rw[br,go_eq,G.bo])) (ph (G1.at_ G1.ho)) (AL λ_=>rfl) ?_
 exact hq _ (G1.at_ G1.lp)
theorem Qd(G:Tn e M0 L A f k b c tl bk [] dl gl gl)(hb:b<860)(hq:∀M',M' e.lP=some (bN e)->Q (.bl true) M'):
 (tr ((P e).Gn (n+12)) Be).S (rd Q) (sl sc f (.tup [.ls ds,.ls ps,.ls fs]) A xs z9 z10 z11 z12 z13 z14) L:=by
 obtain⟨_,_,_,hg⟩:=G.gate;have bl:=G.jJ;have ll:=G.ll;rw[eY]at ll;have hp:=G.at_ G.hp;rw[eY]at hp;unfold Be;rw[d0,Bv];dsimp only[List.set_cons_zero,List.set_cons_succ];walk_at "ev";rw[uC hp];refine⟨by rw[bw];exact jm ll (d8 hb ⋯),ju (bd:=gh true 2) (λ_=>true) Ct hp _ _ (λy hy=>?_) ?_⟩
 . obtain⟨F,hF,rfl⟩:=aW.mp hy
   unfold bS Pe.th;refine⟨_,rfl,λK hK=>hK,λ_ K hK=>?_⟩
   walk_at "ev";rw[show fF [RV.int F.i.house,.int F.i.door,.int F.i.place,.int F.i.far,.str F.tx] none (some 4)= [.int F.i.house,.int F.i.door,.int F.i.place,.int F.i.far]from rfl]
   exact⟨show 6<=sizeLine by decide,show 8<=sizeLine by decide,hK⟩
 . rw[pC,List.nil_append,rZ.mpr λ_ _=>rfl,cE]
   rw[show dl.map (Ct ∘ bS Pe.th)=dl.map Pe.fr from rfl]
   show(tr ((P e).Gn (n+12)) Bq).S (rd Q) (sl sc f (.tup [.ls ds,.ls ps,.ls fs]) A xs z9 (some (.ls (dl.map Pe.fr))) z11 z12 z13 z14) L;unfold Bq;walk_at "ev";rw[hg];walk_at "ev";refine G.book (n:=n+11) ?_;refine Vj (n:=n+10) ∅ λp hp=>?_
   have G1:=G.new (u:=.lst (bk.filterMap jt)) hp;have lp:=zl jt bk;rw[uC (xs:=bk.filterMap jt) br];refine⟨by exact jm lp (jm bl (d8 hb ⋯)),ju (bd:=gh false 1) wg id br _ _ (λy hy=>?_) ?_⟩
   . obtain⟨w,hw,e1⟩:=qm.mp hy
     obtain⟨t,_|⟨_|_,F⟩⟩:=w
     . cases e1
     . cases e1
       refine⟨[F.fr],rfl,λK hK=>?_,λ_ K hK=>?_⟩
       . show(tr ((P e).Gn (n+12)) _).T [some F.fr] _ K
         unfold Pe.fr;walk_at "ev";exact hK
       . show(tr ((P e).Gn (n+12)) _).E [some F.fr] _ K
         walk_at "ev";exact hK
     . cases e1
       refine⟨[F.to],rfl,λK hK=>?_,λ_ K hK=>?_⟩
       . show(tr ((P e).Gn (n+12)) _).T [some F.to] _ K
         unfold Pe.to;walk_at "ev";exact hK
       . show(tr ((P e).Gn (n+12)) _).E [some F.to] _ K
         walk_at "ev";exact hK
   . rw[pC,List.nil_append,List.map_id,ym,G.bc]
     refine yf Az Az (AL λ_=>rfl) ?_
     rw[rj,ag ⋯]
     exact Qc G1 hb hq
theorem Zh(G:Tn e M0 L A f k b c tl bk ql dl gl gl)(gx:Gx e f)(wds:Wd ds ps fs)(hk:k<64)(hb:b<800)(hq:∀M',M' e.lP=some (bN e)->Q (.bl true) M'):
 (tr ((P e).Gn (n+12)) BE).S (rd Q) (sl sc f (.tup [.ls ds,.ls ps,.ls fs]) A xs z9 z10 z11 z12 z13 z14) L:=by
 obtain⟨_,_,_,hg⟩:=G.gate;unfold BE;walk_at "ev";rw[hg];walk_at "ev";refine G.moment (n:=n+11) ?_;rw[f7];refine Ie (n:=n+1) G gx hk ∅ ∅ ∅ λM3 L3 c3 tl3 bk3 ql3 dl3 G3 fr h1 h2 h3=>?_
 have e0:ql3= []:=by
  cases ql3 with
  |nil=>rfl
  |cons E rest=>
   have a1:=h2 E (.head _);have a2:=(G.qk E (h3 E (.head _))).hi;omega
 subst e0;unfold Kp;walk_at "ev";intro p hp;have G4:=G3.new (u:=.lst []) hp;refine yf (xs:=[]) (ph (G4.at_ G4.hw)) (ph br) rfl ?_;walk_at "ev";intro p2 hp2;have G5:=G4.new (u:=.lst []) hp2;refine yf (xs:=[]) (ph (G5.at_ G5.hr)) (ph br) rfl ?_;rw[rj,ag ⋯]
 (try walk_at "ev")
 unfold Ko;walk_at "ev";refine qU (λys σ M=>∃(M0:RM) (z13 z14:Option RV),Tn e M0 M A f k (b+1) c3 tl3 bk3 [] dl3 gl gl/\(∀y∈ys,Bg y)/\σ=sl sc f (.tup [.ls ds,.ls ps,.ls fs]) A xs z9 z10 z11 z12 z13 z14) (λ_ _ _ _=>gB) (λσ M h=>?_) (λy ys σ M W h hW=>?_) _ _ _ ⟨_,z13,z14,G5,wds.hd,rfl⟩
 . obtain⟨M0,z13,z14,G,_,rfl⟩:=h
   dsimp only;exact Qd G ∅ hq
 . obtain⟨M0,z13,z14,G,h2,rfl⟩:=h
   obtain⟨hh,dd,rfl,_,_⟩:=h2 y (.head _);refine⟨rfl,?_⟩;show(tr ((P e).Gn (n+12)) xF).S _ (sl sc f (.tup [.ls ds,.ls ps,.ls fs]) A xs z9 z10 z11 z12 (some (.int hh)) (some (.int dd))) M;exact Qe G gx ∅ λM0' L' G'=>hW _ _ ⟨M0',_,_,G',λy hy=>h2 y (.tail _ hy),rfl⟩
end
section
variable {e:Env}{n:Nat}{M M0 L:RM}{Q:aj}{f:Fm}{k b:Nat}{c:Cn}{tl:List Tk}{bk:List Bk}{ql dl gl:List Pe}{A:Ls}{ds ps fs:LR}{sc:RV}{xs:List Int}
theorem U1{n c:Nat}(h:c<(nums n).length):(nums n)[c]=RV.int (c:Int):=by simp[nums]
theorem ZP{x:RV}{a0 a1 a2 a3 a4 a5 a6 a7 a8 a9:Option RV}{r:List (Option RV)}{K:List (Option RV)->RM->Prop}:jh 9 x (a0::a1::a2::a3::a4::a5::a6::a7::a8::a9::r) M K=K (a0::a1::a2::a3::a4::a5::a6::a7::a8::some x::r) M:=rfl
theorem XD(G:Tn e M0 L A f 0 0 c tl [] [] [] [] [])(gx:Gx e f)(wds:Wd ds ps fs)(hx:0<xs.length)(hl:xs.length<63)(hq:∀M',M' e.lP=some (bN e)->Q (.bl true) M'):
 (tr ((P e).Gn (n+12)) BF).S (rd Q) (sl sc f (.tup [.ls ds,.ls ps,.ls fs]) A xs none none none none none none) L:=by
 unfold BF;walk_at "ev";rw[bw];generalize hN:(if(xs.length:Int) > 8 then(xs.length:Int)else 8)=N
 have nn:0<=N/\N<63:=by rw[<-hN];split<;>omega
 refine⟨∅,∅,?_⟩
 refine qU (λys σ M=>∃(k:Nat) (M0:RM) (c:Cn) (tl:List Tk) (bk:List Bk) (ql dl gl:List Pe) (z9 z11 z12:Option RV),ys=(nums N.toNat).drop k/\k+ys.length=N.toNat/\Tn e M0 M A f k (6*k) c tl bk ql dl gl gl/\σ=sl sc f (.tup [.ls ds,.ls ps,.ls fs]) A xs z9 none z11 z12 none none) (λ_ _ _ _=>gB) (λσ M h=>?_) (λy ys σ M W h hW=>?_) _ _ _ ⟨0,M0,c,tl,[],[],[],[],_,_,_,rfl,by rw[mU];omega,G,rfl⟩
 . obtain⟨k,M0,c,tl,bk,ql,dl,gl,z9,z11,z12,h1,h2,G,rfl⟩:=h
   rw[List.length_nil]at h2;dsimp only;exact Zh G gx wds ∅ ∅ hq
 . obtain⟨k,M0,c,tl,bk,ql,dl,gl,z9,z11,z12,h1,h2,G,rfl⟩:=h
   rw[List.length_cons]at h2;have hc:k<(nums N.toNat).length:=by rw[mU];omega
   rw[List.drop_eq_getElem_cons hc]at h1;injection h1 with e1 e2
   have e1:y= .int (k:Int):=by rw[e1,U1]
   subst e1;rw[ZP];refine XC G gx wds ∅ ∅ ∅ ∅ hx ∅ λz11 z12 M0' L' c' tl' bk' ql' dl' gl' G'=>?_
   exact hW _ _ ⟨k+1,M0',c',tl',bk',ql',dl',gl',_,_,_,e2,∅,by rw[show 6*(k+1)=6*k+6 by omega];exact G',rfl⟩
theorem Za(tb:Tb e)(htb:M e.lP=some (bN e))(hq:∀M',M' e.lP=some (bN e)->Q (.bl true) M'):av (P e) (n+13) 25 [.ls (xs.map RV.int)] M Q:=by
 rw[us (i:=25) (d:=rm) rfl];refine⟨rfl,?_⟩;simp only[rm];unfold EA;walk_at "z";refine(FG (n:=n+11) (xs:=xs) (k:=0)).mpr ?_;refine xV (n:=n+11) λp1 h1=>?_
 refine Tj (n:=n+9) br xK λf g3 fw ok3=>?_
 rw[eF];have l1:put M p1 g3.l e.lP=some (bN e):=(put_ne (λz=>by rw[z,h1]at htb;cases htb)).trans htb
 generalize put M p1 g3.l=M1 at l1 ⊢;unfold Ez;walk_at "z";refine(FG (n:=n+11) (xs:=xs) (k:=1)).mpr ?_;refine xV (n:=n+11) λp2 h2=>?_
 refine Sn (n:=n+10) br xK λds ps fs g4 wds=>?_
 rw[eF];have l2:put M1 p2 g4.l e.lP=some (bN e):=(put_ne (λz=>by rw[z,h2]at l1;cases l1)).trans l1
 generalize put M1 p2 g4.l=M2 at l2 ⊢;unfold Ey;walk_at "z";intro g hg;refine Tv (n:=n+5) fw.ok hg λM3 gr=>⟨rfl,?_⟩
 have gt:=gr.gt fw;unfold Ex;walk_at "z";intro r hr;have nr:=ig hr (gt.at_ l2);have gt1:=gt.new (o:=.lst []) hr;have lr:put M2 r (.lst []) e.lP=some (bN e):=(put_ne nr).trans l2;have rr:put M2 r (.lst []) r=some (.lst []):=br;generalize put M2 r (.lst [])=M4 at gt1 lr rr;generalize put M3 r (.lst [])=L4 at gt1 ⊢;clear gt gr;unfold Ew;walk_at "z";intro p hp;have np:=ig hp (gt1.at_ lr);have rp:=ig hp (gt1.at_ rr);have gt2:=gt1.new (o:=.lst []) hp;have lr:put M4 p (.lst []) e.lP=some (bN e):=(put_ne np).trans lr;have rr:put M4 p (.lst []) r=some (.lst []):=(put_ne rp).trans rr;have pp:put M4 p (.lst []) p=some (.lst []):=br;generalize put M4 p (.lst [])=M5 at gt2 lr rr pp;generalize put L4 p (.lst [])=L5 at gt2 ⊢;clear gt1 hr hp np nr;unfold Eu;walk_at "z";intro w hw;have nw:=ig hw (gt2.at_ lr);have rw_:=ig hw (gt2.at_ rr);have pw:=ig hw (gt2.at_ pp);have gt3:=gt2.new (o:=.lst []) hw;have lr:put M5 w (.lst []) e.lP=some (bN e):=(put_ne nw).trans lr;have rr:put M5 w (.lst []) r=some (.lst []):=(put_ne rw_).trans rr;have pp:put M5 w (.lst []) p=some (.lst []):=(put_ne pw).trans pp;have ww:put M5 w (.lst []) w=some (.lst []):=br;generalize put M5 w (.lst [])=M6 at gt3 lr rr pp ww;generalize put L5 w (.lst [])=L6 at gt3 ⊢;clear gt2 hw nw;unfold Et;walk_at "z";intro o ho;have no:=ig ho (gt3.at_ lr);have ro:=ig ho (gt3.at_ rr);have po:=ig ho (gt3.at_ pp);have wo:=ig ho (gt3.at_ ww);have gt4:=gt3.new (o:=.lst []) ho;have G:Tn e (put M6 o (.lst [])) (put L6 o (.lst [])) ⟨g,r,p,w,o⟩ f 0 0 (zG f) [] [] [] [] [] []:=⟨⟨0,gt4,aS _⟩,(put_ne ro).trans rr,(put_ne po).trans pp,(put_ne wo).trans ww,br,by simp only[fV,cx,iC,or_false,not_or,not_false_eq_true,jI,and_true];exact⟨⟨rp,rw_,ro⟩,⟨pw,po⟩,wo⟩,fI _,List.Pairwise.nil,fI _,rfl,rfl,aS _,(put_ne no).trans lr⟩
 unfold Es;walk_at "z";have e1:fF (xs.map RV.int) (some 2) (some 42)=((xs.drop (HT.aN xs.length 0 (some 2))).take (HT.aN xs.length xs.length (some 42)-HT.aN xs.length 0 (some 2))).map RV.int:=by unfold fF;rw[bw,List.map_take,List.map_drop]
 have e3:HT.aN xs.length 0 (some 2)=min 2 xs.length:=by rw[show(2:Int)=((2:Nat):Int)from rfl,HT.gK]
 rw[e1];have ly:((xs.drop (HT.aN xs.length 0 (some 2))).take (HT.aN xs.length xs.length (some 42)-HT.aN xs.length 0 (some 2))).length<=40:=by
  have e4:HT.aN xs.length xs.length (some 42)=min 42 xs.length:=by rw[show(42:Int)=((42:Nat):Int)from rfl,HT.gK]
  rw[vB,vC,e3,e4];omega
 generalize (xs.drop (HT.aN xs.length 0 (some 2))).take (HT.aN xs.length xs.length (some 42)-HT.aN xs.length 0 (some 2))=ys at ly ⊢;refine⟨by rw[bw];exact bG (show ys.length+1<=62 by omega) ⋯,?_⟩
 rw[show ys.map RV.int++ [RV.int 0]=(ys++ [0]).map RV.int from by rw[eQ];rfl]
 exact XD (A:=⟨g,r,p,w,o⟩) (xs:=ys++ [0]) G ⟨tb,fw⟩ wds (by rw[cN];exact Nat.succ_pos _) (by rw[cN];show ys.length+1<63;omega) hq
end
noncomputable def Cx:Nat->Addr:=λi=>([395,468,489,609,819]:List Addr).getD i 0
noncomputable def HG:List (Str×Addr):=[("out",170),("come",177),("lost",184),("wait",191),("rule",198),("unrule",205)]
noncomputable def FJ:List (Str×Int):=[("note",0),("asked",1),("called",1),("up",2),("near",2),("far",2)]
noncomputable def IX:List (Str×Addr):=[("out",35),("come",42),("lost",49)]
noncomputable def yF:Env:=⟨λx=>if x= "DEEDS" then qF HG else if x= "TIME_AT" then wk FJ else if x= "GETS" then qF IX else [],Cx,[(170,9),(177,10),(191,11),(35,43),(42,44)],603⟩
noncomputable def G0:List (FD×FA):=[(xl,fD H19.vY),(xp,fD H19.v9),(xj,fD H19.jL),(xo,fD H19.jM),(wB,fD H19.jN),(xn,fD H19.jO),(xh,fD H19.jP),(xf,fD H19.jR),(xc,⟨"is_text","is_text",Sb,156,155,.str "lentgate.ends" 330⟩),(uq,fD H19.jT),(uu,fD H19.jU),(ur,fD H19.jV)]
noncomputable def G1:List (FD×FA):=[(xa,fD H19.jW),(xk,fD H19.jX),(xm,⟨"is_times","is_times",RE,285,284,.str "lentgate.forms" 611⟩),(xi,fD H19.jZ),(tq,fD H19.j6),(tY,fD H19.ka),(tG,fD H19.kl),(tN,fD H19.kF),(uj,fD H19.kG),(xQ,fD H19.vW),(wV,fD H19.vX),(wU,fD H19.kY)]
noncomputable def G2:List (FD×FA):=[(wz,⟨"_law_a_world","_law_a_world",Qn,889,888,.str "law_lentgate_k19_whole_as_with_an_address_ea" 1562⟩),(rm,⟨"law","law",Jr,906,905,.str "law_lentgate_k19_whole_as_with_an_address_ea" 1562⟩)]
noncomputable def G3:List (FD×FA):=[(xb,fD H19.jQ),(xg,fD H19.jY),(wL,fD H19.j0),(w5,fD H19.j3),(qK,fD H19.j4),(t9,fD H19.j8),(uc,fD H19.kd),(tj,fD H19.kg),(tV,fD H19.kh),(tP,fD H19.km),(tm,⟨"held","Talks.held",QS,559,558,.str "lentgate.talks" 1030⟩),(aC,⟨"pass_by","Talks.pass_by",Qj,606,605,.str "lentgate.talks" 1030⟩)]
noncomputable def G4:List (FD×FA):=[(uh,fD H19.kA),(ui,fD H19.kC),(uf,fD H19.kE),(ug,fD H19.kI),(tQ,fD H19.kL),(sY,fD H19.vR),(tL,fD H19.vS),(yn,fD H19.vU),(qM,fD H19.vV),(wQ,fD H19.kO),(wN,fD H19.kQ),(qN,fD H19.kU)]
noncomputable def G5:List (FD×FA):=[(wR,fD H19.kX),(wy,fD H19.kZ),(wC,⟨"_law_plain_got","_law_plain_got",Qk,894,893,.str "law_lentgate_k19_whole_as_with_an_address_ea" 1562⟩)]
noncomputable def G6:List (FD×FA):=[(wA,fD H19.vZ),(wK,fD H19.jS),(ud,fD H19.j7),(tH,fD H19.j9),(ue,fD H19.ke),(sZ,fD H19.kn),(tf,fD H19.ku),(tX,fD H19.kq),(ub,fD H19.ky),(lL,fD H19.kH),(tw,fD H19.kJ),(tZ,fD H19.kK)]
noncomputable def G7:List (FD×FA):=[(tJ,fD H19.kN),(wM,fD H19.kW),(wF,⟨"_law_later","_law_later",QR,870,869,.str "law_lentgate_k19_whole_as_with_an_address_ea" 1562⟩)]
noncomputable def G8:List (FD×FA):=[(qL,fD H19.j5),(tM,fD H19.kc),(pd,fD H19.kr),(wx,fD H19.k7)]
noncomputable def G9:List (FD×FA):=[(pb,fD H19.kf),(tS,fD H19.kj),(wD,fD H19.k8)]
noncomputable def vG:List (FD×FA):=[(tK,fD H19.kM),(wW,fD H19.vQ)]
noncomputable def vH:List (FD×FA):=[(ua,fD H19.kD)]
section
variable(Pm:Params)
theorem b0:ip (H19.K0 Pm) S Cx 603 1 G0=true:=by kernel_rfl
theorem l0:gZ (H19.K0 Pm) G0:=by kernel_rfl
theorem u0:uT G0 1:=hZ (n:=1) λ_=>by show _=_;kernel_rfl
theorem b1:ip (H19.K0 Pm) S Cx 603 1 G1=true:=by kernel_rfl
theorem l1:gZ (H19.K0 Pm) G1:=by kernel_rfl
theorem u1:uT G1 1:=hZ (n:=1) λ_=>by show _=_;kernel_rfl
theorem b2:ip (H19.K0 Pm) S Cx 603 1 G2=true:=by kernel_rfl
theorem l2:gZ (H19.K0 Pm) G2:=by kernel_rfl
theorem u2:uT G2 1:=hZ (n:=1) λ_=>by show _=_;kernel_rfl
theorem b3:ip (H19.K0 Pm) S Cx 603 2 G3=true:=by kernel_rfl
theorem l3:gZ (H19.K0 Pm) G3:=by kernel_rfl
theorem u3:uT G3 2:=hZ (n:=2) λ_ _=>by show _=_;kernel_rfl
theorem b4:ip (H19.K0 Pm) S Cx 603 2 G4=true:=by kernel_rfl
theorem l4:gZ (H19.K0 Pm) G4:=by kernel_rfl
theorem u4:uT G4 2:=hZ (n:=2) λ_ _=>by show _=_;kernel_rfl
theorem b5:ip (H19.K0 Pm) S Cx 603 2 G5=true:=by kernel_rfl
theorem l5:gZ (H19.K0 Pm) G5:=by kernel_rfl
theorem u5:uT G5 2:=hZ (n:=2) λ_ _=>by show _=_;kernel_rfl
theorem b6:ip (H19.K0 Pm) S Cx 603 3 G6=true:=by kernel_rfl
theorem l6:gZ (H19.K0 Pm) G6:=by kernel_rfl
theorem u6:uT G6 3:=hZ (n:=3) λ_ _ _=>by show _=_;kernel_rfl
theorem b7:ip (H19.K0 Pm) S Cx 603 3 G7=true:=by kernel_rfl
theorem l7:gZ (H19.K0 Pm) G7:=by kernel_rfl
theorem u7:uT G7 3:=hZ (n:=3) λ_ _ _=>by show _=_;kernel_rfl
theorem b8:ip (H19.K0 Pm) S Cx 603 4 G8=true:=by kernel_rfl
theorem l8:gZ (H19.K0 Pm) G8:=by kernel_rfl
theorem u8:uT G8 4:=hZ (n:=4) λ_ _ _ _=>by show _=_;kernel_rfl
theorem b9:ip (H19.K0 Pm) S Cx 603 5 G9=true:=by kernel_rfl
theorem l9:gZ (H19.K0 Pm) G9:=by kernel_rfl
theorem u9:uT G9 5:=hZ (n:=5) λ_ _ _ _ _=>by show _=_;kernel_rfl
theorem Na:ip (H19.K0 Pm) S Cx 603 6 vG=true:=by kernel_rfl
theorem Nr:gZ (H19.K0 Pm) vG:=by kernel_rfl
theorem Z5:uT vG 6:=hZ (n:=6) λ_ _ _ _ _ _=>by show _=_;kernel_rfl
theorem Nb:ip (H19.K0 Pm) S Cx 603 8 vH=true:=by kernel_rfl
theorem Nt:gZ (H19.K0 Pm) vH:=by kernel_rfl
theorem Z6:uT vH 8:=hZ (n:=8) λ_ _ _ _ _ _ _ _=>by show _=_;kernel_rfl
theorem Qa:(S.bl.all λx=>rQ (PySem.W.nsIn (H19.K0 Pm) mainGlobals x))=true:=by kernel_rfl
theorem P5:(S.gi.all λx=>yz x.2 (PySem.W.nsIn (H19.K0 Pm) mainGlobals x.1))=true:=by kernel_rfl
theorem P4:(S.gt.all λx=>yA (H19.K0 Pm) x.2 (PySem.W.nsIn (H19.K0 Pm) mainGlobals x.1))=true:=by kernel_rfl
theorem P7:(S.cl.zipIdx.all λx=>p6 (H19.K0 Pm) (Cx x.2)&&nv (Cx x.2) (PySem.W.nsIn (H19.K0 Pm) mainGlobals x.1))=true:=by kernel_rfl
theorem P6:(S.fs.all λx=>p6 (H19.K0 Pm) (Cx x.1)&&rQ (PySem.W.findIn (H19.K0 Pm) (.ref (Cx x.1)) x.2))=true:=by kernel_rfl
theorem P9:zE (H19.K0 Pm) 603=true:=by kernel_rfl
theorem P8:xC (H19.K0 Pm) 605 603=true:=by kernel_rfl
theorem CN:(H19.K0 Pm).lookup 603=none:=by kernel_rfl
end
section
variable {w:World}{h:Heap}{mg:bj}(X:(H19.K0 w.2).In h)(G:h.Ns mainGlobals mg)
include X G
theorem CP:∀x∈(G0++(G1++(G2++(G3++(G4++(G5++(G6++(G7++(G8++(G9++(vG++vH))))))))))),jq (H19.K0 w.2) mg S Cx 603 x.1 x.2.g (fdOf x.2):=(i6 (iF X G (b0 _) (l0 _) u0) (i6 (iF X G (b1 _) (l1 _) u1) (i6 (iF X G (b2 _) (l2 _) u2) (i6 (iF X G (b3 _) (l3 _) u3) (i6 (iF X G (b4 _) (l4 _) u4) (i6 (iF X G (b5 _) (l5 _) u5) (i6 (iF X G (b6 _) (l6 _) u6) (i6 (iF X G (b7 _) (l7 _) u7) (i6 (iF X G (b8 _) (l8 _) u8) (i6 (iF X G (b9 _) (l9 _) u9) (i6 (iF X G (Na _) (Nr _) Z5) (iF X G (Nb _) (Nt _) Z6))))))))))))
theorem Vo:∀d∈S.fd,∃g fd,jq (H19.K0 w.2) mg S Cx 603 d g fd:=Xd (by rfl) (CP X G)
theorem Xa:Hd PySem.Challenge.pw_lentgate_k19_whole_as_with_an_address_ea w (H19.K0 w.2) mg (P yF):=by
 refine ZC X G (Qa _) (P5 _) (P4 _) (P7 _) (P6 _) ?_ (λx l hx=>by cases hx) (Vo X G) (λ_ _ _ _=>⟨⋯,λh X2=>Zu X G (P9 _) X2⟩) ?_
 . show ∀x∈[("DEEDS":Str),("TIME_AT":Str),("GETS":Str)],_
   refine nI.mpr ⟨show KTab _ _ _ _ _ (qF HG)from GL (mD X G (n:="DEEDS") (v:=.ref 206) (by kernel_rfl)) (show(H19.K0 w.2).lookup 206=some (H19.qg w.2) by kernel_rfl) ⋯ ⟨⟨_,rfl⟩,rfl,rfl,⟨_,rfl⟩,rfl,rfl,⟨_,rfl⟩,rfl,rfl,⟨_,rfl⟩,rfl,rfl,⟨_,rfl⟩,rfl,rfl,⟨_,rfl⟩,rfl,rfl,trivial⟩ (by decide+kernel),?_⟩
   refine nI.mpr ⟨show KTab _ _ _ _ _ (wk FJ)from Ui (mD X G (n:="TIME_AT") (v:=.ref 273) (by kernel_rfl)) (show(H19.K0 w.2).lookup 273=some (H19.qh w.2) by kernel_rfl) ⋯ ⟨⟨_,rfl⟩,rfl,⟨_,rfl⟩,⟨_,rfl⟩,rfl,⟨_,rfl⟩,⟨_,rfl⟩,rfl,⟨_,rfl⟩,⟨_,rfl⟩,rfl,⟨_,rfl⟩,⟨_,rfl⟩,rfl,⟨_,rfl⟩,⟨_,rfl⟩,rfl,⟨_,rfl⟩,trivial⟩ (by decide+kernel),?_⟩
   refine nI.mpr ⟨show KTab _ _ _ _ _ (qF IX)from GL (mD X G (n:="GETS") (v:=.ref 50) (by kernel_rfl)) (show(H19.K0 w.2).lookup 50=some (H19.Ce w.2) by kernel_rfl) ⋯ ⟨⟨_,rfl⟩,rfl,rfl,⟨_,rfl⟩,rfl,rfl,⟨_,rfl⟩,rfl,rfl,trivial⟩ (by decide+kernel),?_⟩
   exact fI _
 . show ∀q∈[((170:Addr),(9:Nat)),((177:Addr),(10:Nat)),((191:Addr),(11:Nat)),((35:Addr),(43:Nat)),((42:Addr),(44:Nat))],_
   refine nI.mpr ⟨⟨uq,rfl,rfl,by kernel_rfl⟩,?_⟩
   refine nI.mpr ⟨⟨uu,rfl,rfl,by kernel_rfl⟩,?_⟩
   refine nI.mpr ⟨⟨ur,rfl,rfl,by kernel_rfl⟩,?_⟩
   refine nI.mpr ⟨⟨sY,rfl,rfl,by kernel_rfl⟩,?_⟩
   refine nI.mpr ⟨⟨tL,rfl,rfl,by kernel_rfl⟩,?_⟩
   exact fI _
end
noncomputable def aL:FA:=⟨"law","law",Jr,906,905,.str "law_lentgate_k19_whole_as_with_an_address_ea" 1562⟩
theorem Z3:Tb yF:=⟨⟨_,by rfl,.head _⟩,⟨_,by rfl,.tail _ (.head _)⟩,⟨_,by rfl,.tail _ (.tail _ (.head _))⟩,by rfl,⟨_,by rfl,.tail _ (.tail _ (.tail _ (.head _)))⟩,⟨_,by rfl,.tail _ (.tail _ (.tail _ (.tail _ (.head _))))⟩,by rfl⟩
theorem Ue(ns:List Int):av (P yF) 13 25 [.ls (ns.map RV.int)] (rD 603 S.lp S.lq) (λv M2=>v= .bl true/\M2 603=some (.tb 603 S.lp S.lq)):=Za Z3 GB λ_ h=>⟨rfl,h⟩
theorem lx{p:Params}{h:Heap}(X:(H19.K p).In h):(H19.K0 p).In h/\h.get? 603=some (PySem.W.tabObj #[]):=
 ⟨λa o e=>X a o (by show List.lookup a (H19.K0 p++_)=_;rw[List.lookup_append,e];rfl),X 603 _ (by show List.lookup _ (H19.K0 p++_)=_;rw[List.lookup_append,CN];rfl)⟩
theorem walk{l:PySem.W.OpenLaw}{q:Program}{loose:az}{XP:(bj)->Heap->Prop}{YP:World->Heap->Prop}{d:DefRec}(hn:l.most=some 63)(hp:l.prog=PySem.Challenge.pw_lentgate_k19_whole_as_with_an_address_ea)(hdn:d.name= "law")(hdf:d.params.defaults= [])
 (hY:∀(w:World) (h:Heap),YP w h->(H19.K0 w.2).In h/\h.get? 603=some (PySem.W.tabObj #[])):PySem.W.WalkO q loose XP YP l.row.toRowW d [] (λf vs=>PySem.call f vs):=by
 refine R.jn (n:=63) (k:=13+1) (x:="script") (K:=H19.K0) (sp:=av (P yF) 13 25) (T:=603) (c:=605) (pos:=S.lp) (lq:=S.lq) hn ⋯ hdf ⟨rfl,⋯,⋯⟩ hY CN (λp h X=>Gf (P8 p) X) (λw mg fa h X G hm=>?_) λns _=>Ue ns
 have hl:=CP X G (rm,aL) (dM.mpr (.inr (dM.mpr (.inr (dM.mpr (.inl (.tail _ (.head _))))))));have hf:=hl.k0 rfl;rw[hdn]at hm;have:fa=aL.g:=by have:=hm.symm.trans hf;injection this with this;injection this
 subst this;rw[hp];exact⟨fdOf aL,λs u=>.of_eq (by kernel_rfl),λbase kb _=>(zP (Xa X G) kb 13 25 rm aL.g (fdOf aL) rfl hl).1⟩
end K19
open PySem PySem.W PyProof.Rows
theorem K19.wa:looksOpen PySem.Challenge.pw_lentgate_k19_whole_as_with_an_address_ea=true:=by kernel_rfl
theorem K19.wb:(PySem.Challenge.rw_lentgate_k19_whole_as_with_an_address_ea).row.wellSaid=true:=by
 delta OpenRow.wellSaid OpenRow.partSaid
 rw[show looksOpen (PySem.Challenge.rw_lentgate_k19_whole_as_with_an_address_ea).row.prog=true from K19.wa];kernel_rfl
theorem K19.ws:PySem.Challenge.rw_lentgate_k19_whole_as_with_an_address_ea.wellSaid=true:=by
 delta OpenLaw.wellSaid
 rw[K19.wb];kernel_rfl
theorem PySem.Challenge.cw_lentgate_k19_whole_as_with_an_address_ea_holds : PySem.Challenge.rw_lentgate_k19_whole_as_with_an_address_ea.Holds := by
 w_on;refine PySem.W.holds_law K19.ws λsaid=>?_
 refine PySem.W.holds_open (r:=(PySem.Challenge.rw_lentgate_k19_whole_as_with_an_address_ea).row) (q:=H19.q) (loose:=H19.loose) (Xt:=H19.Xt) (XP:=PySem.W.XL H19.q [])
  (Yf:=(PySem.W.kHook H19.K H19.ks H19.gw).obs) (Ya:=(PySem.W.kHook H19.K H19.ks H19.gw).val) (YP:=(PySem.W.kHook H19.K H19.ks H19.gw).says) (N:=H19.NN)
  H19.left (PySem.W.Hook.of _) (PySem.W.Hook.keeps _) (λs e=>PySem.W.xl_of s (Bool.and_eq_true_iff.mp e).1) PySem.W.XL.keeps (by rfl) (by rfl) (by rfl)
  (λs e=>PySem.W.recFacts_of (Bool.and_eq_true_iff.mp e).2) (by rfl) (by assumption) (by decide+kernel) ⟨rfl,rfl,rfl,rfl,rfl,by decide+kernel⟩ ?hw ?hc
 (case hw=>w_witness2)
 k_fill
 exact K19.walk (l:=PySem.Challenge.rw_lentgate_k19_whole_as_with_an_address_ea) rfl rfl rfl rfl (λw h Y=>K19.lx (PySem.W.kIn_of Y))
