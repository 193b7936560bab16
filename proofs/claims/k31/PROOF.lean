import PyProof.Rows.All
import Wide.All
import OpenK.AllK
import Wide.FinOn
import Lean
import PyProof.EqAt
import PyProof.EqKinds
import PyProof.TupleCall
import PyProof.NeKinds
import PyProof.ZipIter
import KE.KSortTup
import KE.KDictSum
import PyProof.FString5
import KE.KSortedM
import KE.KEqDict
import PyProof.DictWalks
import KE.KDictList
import PyProof.Conv_int_bool
import KE.KSortKey
import KE.KLam
import KE.KIntText
import PyProof.Rows.EnumRows
import PyProof.NsDelKeeps
import KE.KIsAll
import KE.KTryMore
import PySem.Challenge.RW_lentgate_k31_rules_by_the_hundred
set_option Elab.async false
set_option linter.all false
set_option maxRecDepth 100000
set_option genInjectivity false
set_option genSizeOfSpec false
set_option genSizeOf false
set_option bootstrap.genMatcherCode false
set_option maxHeartbeats 0
set_option autoImplicit true
local macro_rules|`(∅)=>`(by omega)
local macro_rules|`(⋯)=>`(by decide)
abbrev ag:=PySem.W.Frag
local macro_rules | `(tactic| walk_at "w9") => `(tactic| (rw [PySem.W.Fast.te10110043849684766642, PySem.W.Fast.te14364793385576792824]; kernel_rfl))
def ak:=@PySem.wpAny_bind
def bh:=@Bool.and_eq_true
def bS:=@PySem.Heap.get?_push_of_some
def aR:=@PySem.wpAny_pure
def ba:=@Nat.le_refl
def aj:=@if_neg
def bB:=@PySem.Heap.lt_size
def cb:=@List.length_map
def dz:=@PySem.Heap.get?_push_size
def az:=@if_pos
def dE:=@Nat.lt_of_lt_of_le
def dc:=@List.length_cons
def dW:=@List.size_toArray
def de:=@Option.some.inj
def cK:=@List.map_cons
def fM:=@List.mem_cons_of_mem
def lM:=@PySem.W.Fast.te10295753902157049106
def hU:=@List.getElem?_eq_some_iff
def cM:=@List.mem_cons
def cx:=@Nat.ne_of_lt
def gA:=@List.mem_append_right
def fy:=@List.getElem?_map
def c6:=@Nat.le_trans
def hW:=@List.mem_of_getElem?
def dH:=@List.mem_map
def fv:=@decide_eq_false
def eF:=@List.all_cons
def gZ:=@Bool.false_ne_true
def gk:=@List.all_eq_true
def jj:=@List.forall_mem_cons
def iB:=@List.mem_cons_self
def fx:=@Nat.zero_add
def bp:=@absurd
def fX:=@PySem.W.mg_of
def pN:=@List.getElem?_append_left
def jk:=@decide_eq_true_eq
def jF:=@List.length_append
def lF:=@Bool.false_eq_true
def iC:=@List.find?_cons
def jl:=@PySem.wpAny_call_entry
def eM:=@PySem.wpAny_mono
def jG:=@PySem.wpAny_truthy_bool
def eW:=@beq_iff_eq
def jm:=@List.append_nil
def mV:=@List.replicate_succ
def mW:=@beq_eq_false_iff_ne
def lG:=@PySem.W.emptyDict
def lH:=@PySem.wpAny_newObj_type
def jH:=@List.mem_append
def lJ:=@List.filter_cons
def lK:=@List.lookup_cons
def lA:=@List.not_mem_nil
def xE:=@PyProof.Rows.slot_tuple_getitem
def mU:=@Int.toNat_natCast
def jh:=@PySem.wpAny_holding
def lD:=@List.nodup_cons
def lE:=@PySem.W.kia_one
def iA:=@List.map_map
def tW:=@Option.isSome_iff_exists
def qI:=@List.mem_append_left
def ji:=@Nat.lt_trans
def mX:=@PySem.W.instObj
def qJ:=@List.filterMap_cons
def qK:=@List.forall_mem_nil
def lN:=@Nat.lt_irrefl
def gm:=@LawfulBEq.eq_of_beq
def d9:=@Ne.symm
def mY:=@decide_eq_true
def qL:=@List.flatten_cons
def qM:=@Option.isSome_map
def qN:=@Bool.not_eq_true'
def mZ:=@List.any_cons
def xI:=@Nat.add_sub_cancel_left
def tZ:=@PySem.W.callWith_K
def t6:=@List.mem_singleton
def m4:=@Nat.le_of_lt
def AE:=@PyProof.Rows.callWith_type1
def lQ:=@Nat.zero_le
def xJ:=@List.length_replicate
def t7:=@Option.some.injEq
def t8:=@PySem.wpAny_dictEntries
def qP:=@List.mem_range
def t9:=@PySem.W.plainGet
def xK:=@List.filter_eq_self
def xM:=@List.map_congr_left
def xN:=@List.nil_append
def xP:=@Nat.lt_of_le_of_lt
def tX:=@List.forIn_cons
def xF:=@PySem.W.hasDictIn
def xG:=@Nat.lt_succ_of_lt
def xH:=@List.length_range
def tY:=@List.map_nil
noncomputable section
abbrev aF:=List (PySem.Addr×PySem.Obj)
abbrev aP:=PySem.Value->PySem.Shared->Prop
abbrev aU:=PySem.Str->Option PySem.Value
abbrev ao:=List PySem.Value
abbrev aT:=List PySem.Expr
abbrev ay:=List PySem.Str
abbrev bU:=Option PySem.Value
namespace R
open PySem PySem.W PyProof.Rows
structure Ar(n:Nat)(p:Array Nat):Prop where
 sz:p.size=n
 pm:p.toList.Perm (List.range n)
section
variable {O:KeyOrd}{f:Nat->O.α}{n:Nat}{p:Array Nat}
end
end R
namespace L2
open PySem PySem.Spec PyProof.Rows
abbrev Key:=Sum Int Str
noncomputable def jx:Key->Value->Bool
 | .inl k,v=>Value.isInt k v
 | .inr x,v=>Value.isStrOf x v
noncomputable def JN (w:World):Key->Int
 | .inl k=>hashInt k
 | .inr x=>hashStr w x
theorem iw:∀{k:Key} {v:Value},jx k v=true->(∃i t,k=Sum.inl i/\v=Value.int i t)∨(∃x t,k=Sum.inr x/\v=Value.str x t)
 | .inl i,v,h=>by
  obtain⟨t,e⟩:=Value.isInt_shape (k:=i) (v:=v) h;exact .inl ⟨i,t,rfl,e⟩
 | .inr x,v,h=>by
  obtain⟨t,e⟩:=Value.isStrOf_shape (x:=x) (v:=v) h;exact .inr ⟨x,t,rfl,e⟩
theorem Pl(i:Int)(t:Tok):jx (.inl i) (.int i t)=true:=by simp[jx,Value.isInt]
theorem Pk(x:Str)(t:Tok):jx (.inr x) (.str x t)=true:=by simp[jx,Value.isStrOf]
theorem Uy(a b:Int):decide ((Sum.inl a:Key)=Sum.inl b)=(a==b):=by
 by_cases e:a=b
 . subst e;simp
 . have h:¬(Sum.inl a:Key)=Sum.inl b:=λq=>e (Sum.inl.inj q)
   rw[fv h];exact(mW.mpr e).symm
theorem Uv(a b:Str):decide ((Sum.inr a:Key)=Sum.inr b)=decide (a=b):=by
 by_cases e:a=b
 . subst e;simp
 . have h:¬(Sum.inr a:Key)=Sum.inr b:=λq=>e (Sum.inr.inj q)
   rw[fv h,fv e]
theorem Ux(a:Int)(b:Str):decide ((Sum.inl a:Key)=Sum.inr b)=false:=fv (λq=>nomatch q)
theorem Uw(a:Str)(b:Int):decide ((Sum.inr a:Key)=Sum.inl b)=false:=fv (λq=>nomatch q)
noncomputable def cH (prog:Program)(w:World):PySem.KeyKind prog w Key where
 is:=jx
 hash:=JN w
 inj:=λv a b ha hb=>by
  rcases iw ha with⟨i,t,rfl,rfl⟩|⟨x,t,rfl,rfl⟩
  . rcases iw hb with⟨j,u,rfl,e⟩|⟨y,u,rfl,e⟩
    . injection e with e1 _;rw[e1]
    . exact nomatch e
  . rcases iw hb with⟨j,u,rfl,e⟩|⟨y,u,rfl,e⟩
    . exact nomatch e
    . injection e with e1 _;rw[e1]
 byValue:=λk v h=>by
  rcases iw h with⟨i,t,rfl,rfl⟩|⟨x,t,rfl,rfl⟩<;>rfl
 pyHash:=λhv h=>by
  rcases iw hv with⟨i,t,rfl,rfl⟩|⟨x,t,rfl,rfl⟩
  . exact wpAny_pyHash_int h
  . exact wpAny_pyHash_str h
 eqBool:=λhu hv h=>by
  rcases iw hu with⟨i,t,rfl,rfl⟩|⟨x,t,rfl,rfl⟩
  . rcases iw hv with⟨j,u,rfl,rfl⟩|⟨y,u,rfl,rfl⟩
    . rw[Uy]at h;exact wpAny_eqBool_int h
    . rw[Ux]at h;exact SeqAt.EqAt.int_str i t y u _ _ _ _ h
  . rcases iw hv with⟨j,u,rfl,rfl⟩|⟨y,u,rfl,rfl⟩
    . rw[Uw]at h;exact SeqAt.EqAt.str_int x t j u _ _ _ _ h
    . rw[Uv]at h;exact wpAny_eqBool_str h
 «strs»:=λk x t v h=>by
  rcases iw h with⟨i,u,rfl,e⟩|⟨y,u,rfl,e⟩
  . exact nomatch e
  . injection e with e1 _
    subst e1;cases v<;>rfl
theorem Ov(prog:Program)(w:World)(i:Int)(t:Tok):(cH prog w).is (.inl i) (.int i t)=true:=Pl i t
theorem Ck(prog:Program)(w:World)(x:Str)(t:Tok):(cH prog w).is (.inr x) (.str x t)=true:=Pk x t
inductive V where
 |au|bl (b:Bool)|int (i:Int)|str (x:Str)|uh (b:Array UInt8)|kE (b:UInt64)|ref (a:Addr)|ty (n:String)
 deriving DecidableEq
abbrev LV:=List V
noncomputable def RelV:V->Value->Prop
 | .au,u=>u=Value.none
 | .bl b,u=>u=Value.bool b
 | .int i,u=>∃t,u=Value.int i t
 | .str x,u=>∃t,u=Value.str x t
 | .uh b,u=>∃t,u=Value.bytes b t
 | .kE b,u=>∃t,u=Value.float b t
 | .ref a,u=>u=Value.ref a
 | .ty n,u=>u=Value.type n
abbrev Vals:LV->ao->Prop:=Paired RelV
theorem Vals.length{xs:LV}{us:ao}(r:Vals xs us):xs.length=us.length:=Paired.length r
theorem Vals.get:∀{xs:LV} {us:ao} {i:Nat} {x:V},Vals xs us->xs[i]? =some x->∃u,us[i]? =some u/\RelV x u
 |_,_,_,_,.nil,e=>by simp at e
 |_,_,0,_,.cons r _,e=>by simp at e;subst e;exact⟨_,rfl,r⟩
 |_,_,i+1,x,.cons _ t,e=>by
  obtain⟨u,h1,h2⟩:=Vals.get (i:=i) (x:=x) t (by simpa using e)
  exact⟨u,by simpa using h1,h2⟩
theorem Vals.set{x:V}{u:Value}(r:RelV x u):∀{xs:LV} {us:ao} (i:Nat),Vals xs us->Vals (xs.set i x) (us.set i u)
 |_,_,_,.nil=>.nil
 |_,_,0,.cons _ t=>.cons r t
 |_,_,i+1,.cons q t=>.cons q (Vals.set r i t)
theorem Vals.append:∀{xs ys:LV} {us ws:ao},Vals xs us->Vals ys ws->Vals (xs++ys) (us++ws)
 |_,_,_,_,.nil,s=>s
 |_,_,_,_,.cons r t,s=>.cons r (Vals.append t s)
theorem Vals.take:∀{xs:LV} {us:ao} (n:Nat),Vals xs us->Vals (xs.take n) (us.take n)
 |_,_,0,_=>.nil
 |_,_,_+1,.nil=>.nil
 |_,_,n+1,.cons r t=>.cons r (Vals.take n t)
theorem Vals.drop:∀{xs:LV} {us:ao} (n:Nat),Vals xs us->Vals (xs.drop n) (us.drop n)
 |_,_,0,r=>r
 |_,_,_+1,.nil=>.nil
 |_,_,n+1,.cons _ t=>Vals.drop n t
def bG:Option V->bU->Prop
 |some v,some u=>RelV v u
 |none,none=>True
 |_,_=>False
def KV{κ:Type}:List (κ×V)->List (κ×Value)->Prop:=Paired λ(p:κ×V) (q:κ×Value)=>p.1=q.1/\RelV p.2 q.2
noncomputable def kV:Key->V
 | .inl i=>.int i
 | .inr x=>.str x
abbrev bC:=Option Key
noncomputable def oV:bC->V
 |none=>.au
 |some k=>kV k
noncomputable def xh:Option Key->Value->Bool
 |none,.none=>true
 |none,_=>false
 |some k,v=>jx k v
noncomputable def uD (w:World):Option Key->Int
 |none=>0xFCA86420
 |some k=>JN w k
theorem kK:∀{k:Option Key} {v:Value},xh k v=true->(k=none/\v=Value.none)∨∃j,k=some j/\jx j v=true
 |none,v,h=>by cases v<;>first|exact .inl ⟨rfl,rfl⟩|(simp[xh]at h)
 |some k,v,h=>.inr ⟨k,rfl,h⟩
theorem Cv{k:Key}:jx k Value.none=false:=by cases k<;>rfl
section
variable {prog:Program}{w:World}{A:Around}{E:aP}{s:Shared}
theorem Ph{Q:Int->Shared->Prop}(h:Q 0xFCA86420 { s with toks:=s.toks+1 }):wpAny (model prog w) A (PySem.pyHash .none) Q E s:=by
 have hT:s.TypeIs .none "NoneType":=rfl;unfold PySem.pyHash;have hv:[Value.none].any Value.onHeap=false:=rfl;refine ak ?_;rw[cRoomFor,aj (by rw[hv];exact gZ)];refine aR ?_
 refine ak (wpAny_specialOf hT F.slot_NoneType_hash.lookup ?_);show wpAny _ _ (if(some (Value.builtin "NoneType.__hash__")==some Value.none)=true then _ else _) Q E s
 rw[aj (by rw[beq_builtin_none];exact gZ)]
 refine ak (wpAny_specialOf hT F.slot_NoneType_hash.lookup ?_);show wpAny _ _ (callSpecialIfBoundUnlessNone? .none "__hash__" _ >>= _) Q E s;refine ak (wpAny_callSpecialIfBoundUnlessNone?_slot hT F.slot_NoneType_hash
  (jl F.slot_NoneType_hash hT F.entry_NoneType_hash
   (show wpAny _ _ (do ret (<-mkInt 0xFCA86420)) _ _ s from wpAny_ret_mkInt ?_) (F.args_NoneType_hash_1 _)))
 show wpAny _ _ (if(decide (-(2:Int) ^ 63<=0xFCA86420)&&decide ((0xFCA86420:Int)<2 ^ 63))=true then _ else _) Q E _
 rw[az ⋯]
 exact aR h
end
noncomputable def optKind (prog:Program)(w:World):PySem.KeyKind prog w (Option Key) where
 is:=xh
 hash:=uD w
 inj:=λv a b ha hb=>by
  rcases kK ha with⟨rfl,rfl⟩|⟨j,rfl,hj⟩
  . rcases kK hb with⟨rfl,_⟩|⟨i,rfl,hi⟩
    . rfl
    . rw[Cv]at hi;cases hi
  . rcases kK hb with⟨rfl,rfl⟩|⟨i,rfl,hi⟩
    . rw[Cv]at hj;cases hj
    . rw[(cH prog w).inj v j i hj hi]
 byValue:=λk v h=>by
  rcases kK h with⟨rfl,rfl⟩|⟨j,rfl,hj⟩
  . rfl
  . exact(cH prog w).byValue j v hj
 pyHash:=λhv h=>by
  rcases kK hv with⟨rfl,rfl⟩|⟨j,rfl,hj⟩
  . exact Ph h
  . exact(cH prog w).pyHash hj h
 eqBool:=λ{A E s a b u v Q} hu hv h=>by
  rcases kK hu with⟨rfl,rfl⟩|⟨i,rfl,hi⟩
  . rcases kK hv with⟨rfl,rfl⟩|⟨j,rfl,hj⟩
    . exact SeqAt.EqAt.same _ _ _ _ _ (by simpa using h)
    . have e:decide ((none:Option Key)=some j)=false:=fv (λq=>nomatch q)
      rw[e]at h;rcases iw hj with⟨k,t,rfl,rfl⟩|⟨x,t,rfl,rfl⟩
      . exact SeqAt.EqAt.none_int k t _ _ _ _ h
      . exact SeqAt.EqAt.none_str x t _ _ _ _ h
  . rcases kK hv with⟨rfl,rfl⟩|⟨j,rfl,hj⟩
    . have e:decide ((some i:Option Key)=none)=false:=fv (λq=>nomatch q)
      rw[e]at h;rcases iw hi with⟨k,t,rfl,rfl⟩|⟨x,t,rfl,rfl⟩
      . exact SeqAt.EqAt.int_none k t _ _ _ _ h
      . exact SeqAt.EqAt.str_none x t _ _ _ _ h
    . have e:decide (some i=some j)=decide (i=j):=by
       by_cases q:i=j
       . subst q;simp
       . rw[fv q,fv λz=>q (de z)]
      rw[e]at h;exact(cH prog w).eqBool hi hj h
 «strs»:=λk x t v h=>by
  rcases kK h with⟨rfl,e⟩|⟨j,rfl,hj⟩
  . cases e
  . exact(cH prog w).strs j x t v hj
inductive HO where
 |lst (xs:LV)
 |tup (xs:LV)
 |dK (kvs:List (Key×V))|dT (kvs:List (List bC×V))
 |set (S:Int->Bool) (n:Nat)
 |ins (C dx:Addr) (fs:List (Str×V))
 |own (x:Addr)
 |xd (fs:List (Str×V))
 |met (f x:Addr)
 |tS (lo hi:Int)
 |aZ (o:Obj) (u:HO)
 |jD (ps:Array Value)
 |ext (φ:Heap->Prop)
abbrev Hp:=Addr->Option HO
noncomputable def upd (H:Hp)(a:Addr)(o:HO):Hp:=λb=>if b=a then some o else H b
theorem d6{H:Hp}{a:Addr}{o:HO}:upd H a o a=some o:=by unfold upd;rw[az rfl]
theorem aK{H:Hp}{a b:Addr}{o:HO}(h:b≠a):upd H a o b=H b:=by unfold upd;rw[aj h]
theorem R0{H:Hp}{a:Addr}{o u:HO}:upd (upd H a o) a u=upd H a u:=by
 funext b;unfold upd;split<;>rfl
theorem i0{H:Hp}{a b:Addr}{o u:HO}(h:H a=some o)(h':H b=some u)(d:o≠u):a≠b:=by
 intro e;subst e;rw[h]at h';exact d (de h')
theorem eJ{H:Hp}{a b:Addr}{o:HO}(h:H a=some o)(h':H b=none):a≠b:=by
 intro e;subst e;rw[h]at h';cases h'
section
variable(P:Program)(w:World)
noncomputable def aH (H:Hp)(h:Heap)(a:Addr):HO->Prop
 | .lst xs=>xs.length<=sizeLine/\∃(its:ao) (n:Nat),Vals xs its/\h.get? a=some { cls:=.type "list",data:=.seq its.toArray n }
 | .tup xs=>xs.length<=sizeLine/\∃its:ao,Vals xs its/\IsTup h a its.toArray
 | .dK kvs=>kvs.length<=sizeLine/\(a==sysModules)=false/\∃vs,KV kvs vs/\h.DictOf (cH P w) a vs
 | .dT kvs=>kvs.length<=sizeLine/\(a==sysModules)=false/\∃xs:List (List bC×Addr×Value),
  Paired (λ(p:List bC×V) (q:List bC×Addr×Value)=>p.1=q.1/\H q.2.1=some (.tup (p.1.map oV))/\RelV p.2 q.2.2) kvs xs/\
  ∃o es ep,h.get? a=some o/\o.ExactDict/\o.data= .dict es ep/\es.toList=xs.map (entryOfKey (tupleKind (optKind P w)))/\(xs.map (·.1)).Nodup
 | .set S n=>h.SetOf (intKind P w) a S n
 | .ins C dx fs=>H dx=some (.own a)/\fs.length<=1000/\dx≠a/\h.get? a=some (mX C dx)/\
  ∃mA,h.Ns1 dx mA/\(∀f,bG (fs.lookup f) (mA f))/\PySem.Within mA (fs.map (·.1))
 | .own _=>∃o,h.get? a=some o
 | .xd fs=>∃mA,h.Ns1 a mA/\∀f,bG (fs.lookup f) (mA f)
 | .tS lo hi=>∃t u v,h.get? a=some { cls:=.type "range",data:=.fields #[.int lo t,.int hi u,.int 1 v] }
 | .aZ o u=>h.get? a=some o/\aH H h a u
 | .jD ps=>h.get? a=some { cls:=.none,data:=.fields ps }
 | .met f x=>h.get? a=some (PySem.W.methodObj (.ref f) (.ref x))
 | .ext φ=>φ h/\(∃o,h.get? a=some o)/\∀h1 h2:Heap,φ h1->(∀o,h1.get? a=some o->h2.get? a=some o)->φ h2
def bL(H:Hp)(h:Heap):Prop:=∀a o,H a=some o->aH P w H h a o
end
section
variable {P:Program}{w:World}{H H':Hp}{h h':Heap}{a:Addr}{o:HO}
theorem aH.lt(x:aH P w H h a o):a<h.objs.size:=by
 cases o with
 |lst xs=>obtain⟨_,_,_,_,e⟩:=x;exact bB e
 |tup xs=>obtain⟨_,_,_,p⟩:=x;exact p.lt
 |dK kvs=>obtain⟨_,_,_,_,o,_,_,e,_⟩:=x;exact bB e
 |dT kvs=>obtain⟨_,_,_,_,o,_,_,e,_⟩:=x;exact bB e
 |set S n=>obtain⟨o,_,_,_,e,_⟩:=x;exact bB e
 |ins C dx fs=>obtain⟨_,_,_,e,_⟩:=x;exact bB e
 |own y=>obtain⟨_,e⟩:=x;exact bB e
 |xd fs=>obtain⟨_,⟨_,_,_,e,_⟩,_⟩:=x;exact bB e
 |tS lo hi=>obtain⟨_,_,_,e⟩:=x;exact bB e
 |aZ ob u=>obtain⟨e,_⟩:=x;exact bB e
 |jD ps=>exact bB (show h.get? a=some _ from x)
 |met f y=>exact bB (show h.get? a=some _ from x)
 |ext φ=>obtain⟨_,⟨_,e⟩,_⟩:=x;exact bB e
theorem Paired.oA{α β:Type}{F G:α->β->Prop}:∀{l₁:List α} {l₂:List β},Paired F l₁ l₂->(∀a b,F a b->G a b)->Paired G l₁ l₂
 |_,_,.nil,_=>.nil
 |_,_,.cons r t,f=>.cons (f _ _ r) (Paired.oA t f)
theorem aH.cY(x:aH P w H h a o)(k:∀b u,(b=a∨H b=some (.own a))->h.get? b=some u->h'.get? b=some u)
 (ho:∀b,H b=some (.own a)->H' b=some (.own a)) (ht:∀b xs,H b=some (.tup xs)->H' b=some (.tup xs)):aH P w H' h' a o:=by
 induction o with
 |lst xs=>obtain⟨z,its,n,r,e⟩:=x;exact⟨z,its,n,r,k _ _ (.inl rfl) e⟩
 |tup xs=>obtain⟨z,its,r,ob,e,c⟩:=x;exact⟨z,its,r,ob,k _ _ (.inl rfl) e,c⟩
 |dK kvs=>obtain⟨z,y,vs,r,ob,es,ep,e,c⟩:=x;exact⟨z,y,vs,r,ob,es,ep,k _ _ (.inl rfl) e,c⟩
 |dT kvs=>
  obtain⟨z,y,xs,r,ob,es,ep,e,c⟩:=x;exact⟨z,y,xs,Paired.oA r λp q z=>⟨z.1,ht _ _ z.2.1,z.2.2⟩,ob,es,ep,k _ _ (.inl rfl) e,c⟩
 |set S n=>obtain⟨ob,es,ep,t,e,c⟩:=x;exact⟨ob,es,ep,t,k _ _ (.inl rfl) e,c⟩
 |ins C dx fs=>
  obtain⟨d,z,ne,e,mA,⟨od,es,ep,e2,c⟩,r⟩:=x;exact⟨ho _ d,z,ne,k _ _ (.inl rfl) e,mA,⟨od,es,ep,k _ _ (.inr d) e2,c⟩,r⟩
 |own y=>obtain⟨ob,e⟩:=x;exact⟨ob,k _ _ (.inl rfl) e⟩
 |xd fs=>obtain⟨mA,⟨od,es,ep,e,c⟩,r⟩:=x;exact⟨mA,⟨od,es,ep,k _ _ (.inl rfl) e,c⟩,r⟩
 |tS lo hi=>obtain⟨t,u,v,e⟩:=x;exact⟨t,u,v,k _ _ (.inl rfl) e⟩
 |aZ ob u ih=>obtain⟨e,q⟩:=x;exact⟨k _ _ (.inl rfl) e,ih q⟩
 |jD ps=>
  have e:h.get? a=some { cls:=.none,data:=.fields ps }:=x;show h'.get? a=some { cls:=.none,data:=.fields ps };exact k a _ (.inl rfl) e
 |met f y=>
  have e:h.get? a=some (PySem.W.methodObj (.ref f) (.ref y)):=x;show h'.get? a=some (PySem.W.methodObj (.ref f) (.ref y));exact k a _ (.inl rfl) e
 |ext φ=>obtain⟨p,⟨o,e⟩,st⟩:=x;exact⟨st _ _ p λo q=>k _ _ (.inl rfl) q,⟨o,k _ _ (.inl rfl) e⟩,st⟩
theorem bL.lt(x:bL P w H h)(e:H a=some o):a<h.objs.size:=(x a o e).lt
theorem bL.fresh(x:bL P w H h)(e:h.objs.size<=a):H a=none:=by
 cases q:H a with
 |none=>rfl
 |some u=>exact bp (dE (x.lt q) e) (lN _)
theorem bL.kept(x:bL P w H h)(k:∀b u,h.get? b=some u->h'.get? b=some u):bL P w H h':=λa o e=>
 (x a o e).cY (λb u _ q=>k b u q) (λ_ q=>q) λ_ _ q=>q
theorem bL.laid(x:bL P w H h)(k:∀b u,h.get? b=some u->h'.get? b=some u)(hp:h.objs.size<=a)(new:aH P w (upd H a o) h' a o):bL P w (upd H a o) h':=λb u e=>by
 have hn:=x.fresh hp
 by_cases hb:b=a
 . subst hb;rw[d6]at e;cases e;exact new
 . rw[aK hb]at e
   exact(x b u e).cY (λc v _ q=>k c v q) (λc q=>by rw[aK (eJ q hn)];exact q) λc xs q=>by rw[aK (eJ q hn)];exact q
end
def Rd(H:Hp)(a:Addr)(u:HO):Prop:=H a=some u∨∃o,H a=some (.aZ o u)
theorem Rd.ok{P:Program}{w:World}{H:Hp}{h:Heap}{a:Addr}{u:HO}(r:Rd H a u)(x:bL P w H h):aH P w H h a u:=by
 rcases r with r|⟨o,r⟩
 . exact x a u r
 . obtain⟨_,q⟩:=x a _ r
   exact q
noncomputable def qR:Option HO->Prop
 |some (.lst _)=>True
 |some (.dK _)=>True
 |some (.dT _)=>True
 |some (.set _ _)=>True
 |some (.ins _ _ _)=>True
 |some (.ext _)=>True
 |_=>False
section
variable {P:Program}{w:World}{H:Hp}{h h':Heap}{x e:Addr}{o':HO}
theorem bL.write(ok:bL P w H h)(mu:qR (H x))(he:e=x∨H e=some (.own x))(k:∀b u,b≠e->h.get? b=some u->h'.get? b=some u)(heo:∃u,h'.get? e=some u)
 (new:aH P w (upd H x o') h' x o'):bL P w (upd H x o') h':=λb u q=>by
 have nown:∀c y,H c=some (.own y)->c≠x:=λc y r z=>by subst z;rw[r]at mu;exact mu
 have ntup:∀c xs,H c=some (.tup xs)->c≠x:=λc xs r z=>by subst z;rw[r]at mu;exact mu
 by_cases hb:b=x
 . subst hb;rw[d6]at q;cases q;exact new
 . rw[aK hb]at q
   by_cases hbe:b=e
   . have q':H b=some (.own x):=by
      rcases he with z|z
      . exact bp (hbe.trans z) hb
      . rw[hbe];exact z
     rw[q]at q';cases q';obtain⟨v,hv⟩:=heo;exact⟨v,by rw[hbe];exact hv⟩
   . refine(ok b u q).cY (λc v hc r=>k c v ?_ r) (λc r=>by rw[aK (nown c b r)];exact r) λc xs r=>by rw[aK (ntup c xs r)];exact r
     rcases hc with rfl|hc
     . exact hbe
     . rintro rfl
       rcases he with z|z
       . exact nown c b hc z
       . rw[hc]at z;cases z;exact hb rfl
end
structure Un(fs ex:List Addr)(H H':Hp)(h h':Heap):Prop where
 keep:∀b o,h.get? b=some o->H b=none->b∉fs->b∉ex->h'.get? b=some o
 slot:∀b o,h.get? b=some o->H b=none->b∈fs->b∉ex->∃sl,h'.get? b=some { o with slots:=sl }
 free:∀b o,h.get? b=some o->H b=none->b∉ex->H' b=none
 there:∀b o,h.get? b=some o->b∉ex->∃o',h'.get? b=some o'
 aV:∀b xs,H b=some (.tup xs)->H' b=some (.tup xs)
 aE:∀b o u,H b=some (.aZ o u)->H' b=some (.aZ o u)
 bR:∀b ps,H b=some (.jD ps)->∃more,H' b=some (.jD (ps++more))
section
variable {fs fs' ex ex':List Addr}{H H1 H2:Hp}{h h1 h2 h':Heap}{a x e:Addr}{o:HO}
theorem Un.any(u:Un fs ex H H1 h h1){b:Addr}{ob:Obj}(q:h.get? b=some ob)(n:H b=none)(hx:b∉ex):∃sl,h1.get? b=some { ob with slots:=sl }:=by
 by_cases hb:b∈fs
 . exact u.slot b ob q n hb hx
 . exact⟨ob.slots,u.keep b ob q n hb hx⟩
theorem Un.kept(k:∀b u,h.get? b=some u->h'.get? b=some u):Un fs ex H H h h':=
 ⟨λb ob q _ _ _=>k b ob q,λb ob q _ _ _=>⟨ob.slots,k b ob q⟩,λ_ _ _ n _=>n,λb ob q _=>⟨ob,k b ob q⟩,λ_ _ q=>q,λ_ _ _ q=>q,λ_ ps q=>⟨#[],by rw[q];simp⟩⟩
theorem Un.refl:Un fs ex H H h h:=Un.kept λ_ _ q=>q
theorem Un.laid(k:∀b u,h.get? b=some u->h'.get? b=some u)(hp:h.objs.size<=a)(hn:H a=none):Un fs ex H (upd H a o) h h' where
 keep:=λb u q _ _ _=>k b u q
 slot:=λb u q _ _ _=>⟨u.slots,k b u q⟩
 free:=λb u q n _=>by rw[aK (cx (dE (bB q) hp))];exact n
 there:=λb u q _=>⟨u,k b u q⟩
 aV:=λb xs q=>by rw[aK (eJ q hn)];exact q
 aE:=λb u xs q=>by rw[aK (eJ q hn)];exact q
 bR:=λb ps q=>⟨#[],by rw[aK (eJ q hn),q];simp⟩
theorem Un.write(mu:qR (H x))(he:e=x∨H e=some (.own x))(k:∀b u,b≠e->h.get? b=some u->h'.get? b=some u)(heo:∃u,h'.get? e=some u):Un fs ex H (upd H x o) h h':=by
 have hx:∀b,H b=none->b≠x:=λb n z=>by subst z;rw[n]at mu;exact mu
 have hb:∀b,H b=none->b≠e:=λb n z=>by
  subst z;rcases he with r|r
  . exact hx b n r
  . rw[n]at r;cases r
 have hm:∀b u,H b=some u->¬qR (some u)->b≠x:=λb u q nm z=>by subst z;rw[q]at mu;exact nm mu
 refine⟨λb u q n _ _=>k b u (hb b n) q,λb u q n _ _=>⟨u.slots,k b u (hb b n) q⟩,λb u q n _=>by rw[aK (hx b n)];exact n,λb u q _=>?_,
  λb xs q=>by rw[aK (hm b _ q λz=>z)];exact q,λb u xs q=>by rw[aK (hm b _ q λz=>z)];exact q,λb ps q=>⟨#[],by rw[aK (hm b _ q λz=>z),q];simp⟩⟩
 by_cases hbe:b=e
 . subst hbe;exact heo
 . exact⟨u,k b u hbe q⟩
end
noncomputable def xC (h:Heap)(H:Hp):List Addr:=(List.range h.objs.size).filter λa=>(H a).isSome
noncomputable def lr (h:Heap)(H:Hp):Heap:=PySem.W.hideAll h (xC h H)
theorem Pg(h:Heap)(H:Hp):(lr h H).objs.size=h.objs.size:=PySem.W.hideAll_size _ _
theorem QC{h:Heap}{H:Hp}{b:Addr}{o:Obj}(e:h.get? b=some o)(n:H b=none):(lr h H).get? b=some o:=
 PySem.W.hideAll_get _ e λhm=>by
  have q:(H b).isSome=true:=(List.mem_filter.mp hm).2;rw[n]at q;simp at q
theorem SD{h:Heap}{H:Hp}{b:Addr}{o:Obj}(e:(lr h H).get? b=some o):h.get? b=some o/\H b=none:=by
 have e':h.get? b=some o:=PySem.W.of_hideAll (xC h H) e;refine⟨e',?_⟩;cases q:H b with
 |none=>rfl
 |some x=>
  have hm:b∈xC h H:=List.mem_filter.mpr ⟨qP.mpr (bB e'),by simp[q]⟩
  have z:(lr h H).get? b=none:=PySem.W.hideAll_none (xC h H) hm;rw[z]at e;cases e
noncomputable def Tf (g h:Heap)(L:Addr):aF:=(List.range h.objs.size).filterMap λa=>if a=L∨(g.get? a).isSome=true then none else(h.get? a).map λo=>(a,o)
noncomputable def rest (g h:Heap)(L d:Addr):aF:=(Tf g h L).filter λp=>decide (p.1≠d)
structure Mod(K:ag)(mg:aU)(base:Heap):Prop where
 kJ:K.In base
 glob:base.Ns mainGlobals mg
 blt:∃mb,base.Ns builtinsNs mb/\∀x:Str,x≠"__name__"->mb x=bootBuiltins x
 nolimit:base.NoLimit
structure Cx where
 prog:Program
 w:World
 K:ag
 mg:aU
 base:Heap
 A:Around
 N:ay
 s₀:Shared
 H₀:Hp
 env:Env
 outer:List Env
 stack:List Env
 ex:List Addr
 fn:Str->Bool
 calm:Bool
 pn:aF
 xe:aP
noncomputable def br (l:List Env):List Addr:=l.filterMap (·.frame)
noncomputable abbrev Cx.fs (X:Cx):List Addr:=br X.outer
def pS(sc:Scope)(x:Str):Prop:=sc.names.lookup x=some .local∨sc.names.lookup x=some .cell∨sc.names.lookup x=some .free
def Loc(sc:Scope)(x:Str):Prop:=sc.names.lookup x=some .local∨sc.names.lookup x=some .cell
def Look(env:Env)(h:Heap)(m:aU)(x:Str)(u:Value):Prop:=
 (env.kindOf x=some .local/\m x=some u)∨((env.kindOf x=some .cell∨env.kindOf x=some .free)/\∃c,env.cells.lookup x=some c/\h.IsCell c (some u))
structure Cx.Ok(X:Cx):Prop where
 mod:Mod X.K X.mg X.base
 kind:X.env.scope.kind= .function
 glob:X.env.globals=mainGlobals
 blt:X.env.builtins=builtinsNs
 above:X.s₀.heap.objs.size<=X.env.locals
 inj:∀x y c,X.env.cells.lookup x=some c->X.env.cells.lookup y=some c->x=y
 has:∀x,(X.env.kindOf x=some .cell∨X.env.kindOf x=some .free)->∃c,X.env.cells.lookup x=some c
 lV:∀x c,X.fn x=true->X.env.cells.lookup x=some c->X.s₀.heap.objs.size<=c
 hd:X.calm=true->X.A.handled=none
 frames:X.A.frames=some X.stack
 mS:X.stack=X.outer∨(X.stack=X.env::X.outer/\X.env.frame=some X.env.locals)
 og:∀b∈X.ex,b≠X.env.locals/\∀x c,X.env.cells.lookup x=some c->c≠b
 bs:∀b o,X.base.get? b=some o->X.s₀.heap.get? b=some o/\X.H₀ b=none
 ia:X.base.objs.size<=X.s₀.heap.objs.size
 fH:∀b o,X.base.get? b=some o->b∉X.ex
 eP:∀b∈X.ex,b∉X.fs
 bP:X.s₀.heap.FunFrames X.base X.outer
 iP:∀b∈X.fs,X.H₀ b=none
structure Inv(X:Cx)(pins:aF)(σ:List (Option V))(H:Hp)(s:Shared):Prop where
 ok:X.Ok
 os:s.os=X.s₀.os
 bare:AllBare s.gens
 base:Un X.fs X.ex X.H₀ H X.s₀.heap s.heap
 loc:∃m,s.heap.Ns X.env.locals m/\∀(i:Nat) (x:Str) (v:V),X.N[i]? =some x->σ[i]? =some (some v)->pS X.env.scope x->∃u,RelV v u/\Look X.env s.heap m x u
 cell:∀x c,X.env.cells.lookup x=some c->∃v,s.heap.IsCell c v
 free:H X.env.locals=none
 bo:∀x c,X.env.cells.lookup x=some c->H c=none
 pin:∀p∈X.pn++pins,s.heap.get? p.1=some p.2/\H p.1=none/\p.1≠X.env.locals/\p.1∉X.fs/\∀v,p.2.data≠.cell v
 ar:bL X.prog X.w H s.heap
 len:σ.length=X.N.length
section
variable {X:Cx}{pins:aF}{σ:List (Option V)}{H H':Hp}{s:Shared}{h':Heap}
theorem Cx.Ok.yl(ok:X.Ok){b:Addr}{o:Obj}(e:X.base.get? b=some o):b∉X.fs:=λhb=>by
 have:=(ok.bP.mem hb).1;rw[e]at this;cases this
theorem Inv.bs(I:Inv X pins σ H s):∀b o,X.base.get? b=some o->s.heap.get? b=some o/\H b=none:=λb o e=>
 ⟨I.base.keep b o (I.ok.bs b o e).1 (I.ok.bs b o e).2 (I.ok.yl e) (I.ok.fH b o e),I.base.free b o (I.ok.bs b o e).1 (I.ok.bs b o e).2 (I.ok.fH b o e)⟩
theorem Inv.bk(I:Inv X pins σ H s):∀b o,X.base.get? b=some o->s.heap.get? b=some o:=λb o e=>(I.bs b o e).1
theorem Inv.mod(I:Inv X pins σ H s):Mod X.K X.mg X.base:=I.ok.mod
theorem Inv.bW(I:Inv X pins σ H s):X.K.In s.heap:=I.ok.mod.kJ.keeps I.bk
theorem Inv.lt(I:Inv X pins σ H s):X.env.locals<s.heap.objs.size:=let⟨_,hn,_⟩:=I.loc;hn.lt
theorem Inv.sz(I:Inv X pins σ H s):X.s₀.heap.objs.size<=s.heap.objs.size:=c6 I.ok.above (m4 I.lt)
theorem Inv.rA(I:Inv X pins σ H s){a:Addr}(h:s.heap.objs.size<=a):a∉X.fs:=λhb=>by
 obtain⟨_,o,ho,_⟩:=I.ok.bP.mem hb;exact bp (dE (bB ho) (c6 I.sz h)) (lN _)
theorem Inv.iH(I:Inv X pins σ H s):∀x c,X.env.cells.lookup x=some c->c≠X.env.locals:=λx c e z=>by
 obtain⟨v,o,ho,hd⟩:=I.cell x c e;obtain⟨m,⟨o',es,ep,ho',hd',_⟩,_⟩:=I.loc;rw[z,ho']at ho;cases ho;rw[hd']at hd;cases hd
theorem Inv.bP(I:Inv X pins σ H s):s.heap.FunFrames X.base X.outer:=by
 have all:∀(l:List Env),(∀b∈br l,b∈X.fs)->X.s₀.heap.FunFrames X.base l->s.heap.FunFrames X.base l:=by
  intro l
  induction l with
  |nil=>intro _ _;trivial
  |cons env r ih=>
   intro hs hl;obtain⟨hk,⟨L,o,hf,hn,ho,hd⟩,hr⟩:=hl;have hL:L∈X.fs:=hs L (by unfold br;rw[qJ,hf];exact iB)
   obtain⟨sl,e⟩:=I.base.slot L o ho (I.ok.iP L hL) hL λz=>I.ok.eP L z hL
   exact⟨hk,⟨L,_,hf,hn,e,hd⟩,ih (λb hb=>hs b (by unfold br;rw[qJ,hf];exact fM _ hb)) hr⟩
 exact all X.outer (λ_ hb=>hb) I.ok.bP
theorem Inv.stack(I:Inv X pins σ H s):s.heap.FunFrames X.base X.stack:=by
 rcases I.ok.mS with e|⟨e,hf⟩
 . rw[e];exact I.bP
 . rw[e]
   obtain⟨m,hn,_⟩:=I.loc;refine .cons (by rw[I.ok.kind];decide) hf hn ?_ I.bP
   exact Heap.get?_none_of_le (c6 I.ok.ia I.ok.above)
theorem Inv.cZ(I:Inv X pins σ H s):∀b∈br X.stack,b∈X.env.locals::X.fs:=λb hb=>by
 rcases I.ok.mS with e|⟨e,hf⟩
 . rw[e]at hb;exact fM _ hb
 . rw[e]at hb
   unfold br at hb;rw[qJ,hf]at hb;exact hb
theorem Inv.cI(I:Inv X pins σ H s):∀b∈br X.stack,H b=none:=λb hb=>by
 rcases cM.mp (I.cZ b hb)with e|hb
 . rw[e];exact I.free
 . obtain⟨_,o,ho,_⟩:=I.ok.bP.mem hb
   exact I.base.free b o ho (I.ok.iP b hb) λz=>I.ok.eP b z hb
theorem Inv.step{g':Array GenState}{t':Nat}{d':Drawn}{ch:List Addr}(I:Inv X pins σ H s)
 (hch:∀b∈ch,(b∈X.ex∨X.s₀.heap.objs.size<=b)/\b≠X.env.locals/\(∀x c,X.env.cells.lookup x=some c->c≠b)/\∀p∈X.pn++pins,p.1≠b)
 (keep:∀b o,b≠X.env.locals->b∉X.fs->b∉ch->s.heap.get? b=some o->H b=none->h'.get? b=some o)
 (slot:∀b o,b≠X.env.locals->b∈X.fs->b∉ch->s.heap.get? b=some o->H b=none->∃sl,h'.get? b=some { o with slots:=sl }) (free:∀b o,b∉ch->s.heap.get? b=some o->H b=none->H' b=none)
 (there:∀b o,b∉ch->s.heap.get? b=some o->∃o',h'.get? b=some o')
 (aV:∀b xs,H b=some (.tup xs)->H' b=some (.tup xs)) (aE:∀b o u,H b=some (.aZ o u)->H' b=some (.aZ o u)) (bR:∀b ps,H b=some (.jD ps)->∃more,H' b=some (.jD (ps++more)))
 (ns:∀m,s.heap.Ns X.env.locals m->h'.Ns X.env.locals m) (ar:bL X.prog X.w H' h') (hg:AllBare g'):
 Inv X pins σ H' { s with heap:=h',gens:=g',drawn:=d',toks:=t' }:=by
 have neL:∀b o,X.s₀.heap.get? b=some o->b≠X.env.locals:=λb o e=>cx (dE (bB e) I.ok.above)
 have neC:∀b o,X.s₀.heap.get? b=some o->b∉X.ex->b∉ch:=λb o e hx hb=>by
  rcases(hch b hb).1 with z|z
  . exact hx z
  . exact bp (dE (bB e) z) (lN _)
 have cellK:∀x c,X.env.cells.lookup x=some c->∀v,s.heap.IsCell c v->h'.IsCell c v:=λx c e v ⟨o,ho,hd⟩=>by
  have nch:c∉ch:=λz=>(hch c z).2.2.1 x c e rfl
  by_cases hc:c∈X.fs
  . obtain⟨sl,q⟩:=slot c o (I.iH x c e) hc nch ho (I.bo x c e)
    exact⟨_,q,hd⟩
  . exact⟨o,keep c o (I.iH x c e) hc nch ho (I.bo x c e),hd⟩
 refine⟨I.ok,I.os,hg,⟨λb o e n hb hx=>?_,λb o e n hb hx=>?_,λb o e n hx=>?_,λb o e hx=>?_,λb xs e=>aV b xs (I.base.aV b xs e),λb o xs e=>aE b o xs (I.base.aE b o xs e),λb ps e=>?_⟩,?_,λx c e=>?_,?_,λx c e=>?_,λp hp=>?_,ar,I.len⟩
 . exact keep b o (neL b o e) hb (neC b o e hx) (I.base.keep b o e n hb hx) (I.base.free b o e n hx)
 . obtain⟨sl,e1⟩:=I.base.slot b o e n hb hx
   obtain⟨sl',e2⟩:=slot b _ (neL b o e) hb (neC b o e hx) e1 (I.base.free b o e n hx);exact⟨sl',e2⟩
 . obtain⟨o',e1⟩:=I.base.there b o e hx
   exact free b o' (neC b o e hx) e1 (I.base.free b o e n hx)
 . obtain⟨o',e1⟩:=I.base.there b o e hx
   exact there b o' (neC b o e hx) e1
 . obtain⟨m1,e1⟩:=I.base.bR b ps e
   obtain⟨m2,e2⟩:=bR b _ e1;exact⟨m1++m2,by rw[e2,Array.append_assoc]⟩
 . obtain⟨m,hn,hl⟩:=I.loc
   refine⟨m,ns m hn,λi x v e1 e2 e3=>?_⟩
   obtain⟨u,r,l⟩:=hl i x v e1 e2 e3;refine⟨u,r,?_⟩;rcases l with l|⟨k,c,e,z⟩
   . exact .inl l
   . exact .inr ⟨k,c,e,cellK x c e _ z⟩
 . obtain⟨v,z⟩:=I.cell x c e
   exact⟨v,cellK x c e v z⟩
 . obtain⟨m,⟨o,_,_,ho,_⟩,_⟩:=I.loc
   exact free _ o (λz=>(hch _ z).2.1 rfl) ho I.free
 . obtain⟨v,o,ho,hd⟩:=I.cell x c e
   exact free c o (λz=>(hch c z).2.2.1 x c e rfl) ho (I.bo x c e)
 . obtain⟨e,n,ne,nf,d⟩:=I.pin p hp
   have nch:p.1∉ch:=λz=>(hch p.1 z).2.2.2 p hp rfl
   exact⟨keep p.1 p.2 ne nf nch e n,free p.1 p.2 nch e n,ne,nf,d⟩
theorem Inv.un{t':Nat}(I:Inv X pins σ H s)(u:Un X.fs [] H H' s.heap h')(ar:bL X.prog X.w H' h'):Inv X pins σ H' { s with heap:=h',toks:=t' }:=by
 obtain⟨m,⟨o,es,ep,ho,r⟩,_⟩:=id I.loc;obtain⟨sl,hL⟩:=u.any ho I.free (by simp)
 exact I.step (g':=s.gens) (d':=s.drawn) (ch:=[]) (λ_ z=>nomatch z) (λb o _ hb _ e n=>u.keep b o e n hb (by simp)) (λb o _ hb _ e n=>u.slot b o e n hb (by simp)) (λb o _ e n=>u.free b o e n (by simp)) (λb o _ e=>u.there b o e (by simp)) u.aV u.aE u.bR (λm' hm=>by
  obtain⟨o',es',ep',ho',r'⟩:=hm;rw[ho]at ho';cases ho';exact⟨_,es',ep',hL,r'⟩) ar I.bare
theorem Inv.call{g':Array GenState}{t':Nat}{d':Drawn}{ch:List Addr}(I:Inv X pins σ H s)(u:Un (br X.stack) ch H H' s.heap h')(ar:bL X.prog X.w H' h')(hg:AllBare g')
 (hch:∀b∈ch,(b∈X.ex∨X.s₀.heap.objs.size<=b)/\b≠X.env.locals/\(∀x c,X.env.cells.lookup x=some c->c≠b)/\∀p∈X.pn++pins,p.1≠b):
 Inv X pins σ H' { s with heap:=h',gens:=g',drawn:=d',toks:=t' }:=by
 obtain⟨m,⟨o,es,ep,ho,r⟩,_⟩:=id I.loc;obtain⟨sl,hL⟩:=u.any ho I.free λz=>(hch _ z).2.1 rfl
 exact I.step (ch:=ch) hch (λb o hL hb hc e n=>u.keep b o e n (λz=>(cM.mp (I.cZ b z)).elim hL hb) hc) (λb o _ _ hc e n=>u.any e n hc) (λb o hc e n=>u.free b o e n hc) (λb o hc e=>u.there b o e hc) u.aV u.aE u.bR (λm' hm=>by
  obtain⟨o',es',ep',ho',r'⟩:=hm;rw[ho]at ho';cases ho';exact⟨_,es',ep',hL,r'⟩) ar hg
theorem Inv.turned{t':Nat}{it:Addr}(I:Inv X pins σ H s)(k:∀b o,b≠it->s.heap.get? b=some o->h'.get? b=some o)(hn:H it=none)(hL:it≠X.env.locals)
 (h1:it∈X.ex∨X.s₀.heap.objs.size<=it) (h2:∀x c,X.env.cells.lookup x=some c->c≠it) (h3:∀p∈X.pn++pins,p.1≠it):Inv X pins σ H { s with heap:=h',toks:=t' }:=by
 have nit:∀b u,H b=some u->b≠it:=λb u e z=>by rw[z,hn]at e;cases e
 refine I.step (g':=s.gens) (d':=s.drawn) (ch:=[it]) (λb hb=>?_) (λb o _ _ hc e _=>k b o (λz=>hc (by simp[z])) e) (λb o _ _ hc e _=>⟨o.slots,k b o (λz=>hc (by simp[z])) e⟩) (λ_ _ _ _ n=>n)
  (λb o hc e=>⟨o,k b o (λz=>hc (by simp[z])) e⟩) (λ_ _ e=>e) (λ_ _ _ e=>e) (λb ps e=>⟨#[],by rw[e];simp⟩) (λm hm=>?_) (λb u e=>?_) I.bare
 . have e:b=it:=by simpa using hb
   subst e;exact⟨h1,hL,h2,h3⟩
 . obtain⟨o,es,ep,ho,r⟩:=hm
   exact⟨o,es,ep,k _ o (d9 hL) ho,r⟩
 . refine(I.ar b u e).cY (λc v hc q=>k c v ?_ q) (λ_ q=>q) λ_ _ q=>q
   rcases hc with z|z
   . rw[z];exact nit b u e
   . exact nit c _ z
theorem Inv.tok(I:Inv X pins σ H s)(t:Nat):Inv X pins σ H { s with toks:=t }:=I.un (h':=s.heap) (t':=t) Un.refl I.ar
theorem Inv.kept{t':Nat}(I:Inv X pins σ H s)(k:∀b u,s.heap.get? b=some u->h'.get? b=some u):Inv X pins σ H { s with heap:=h',toks:=t' }:=I.un (Un.kept k) (I.ar.kept k)
theorem Inv.laid{a:Addr}{o:HO}{t':Nat}(I:Inv X pins σ H s)(k:∀b u,s.heap.get? b=some u->h'.get? b=some u)(hp:s.heap.objs.size<=a)(new:aH X.prog X.w (upd H a o) h' a o):
 Inv X pins σ (upd H a o) { s with heap:=h',toks:=t' }:=I.un (Un.laid k hp (I.ar.fresh hp)) (I.ar.laid k hp new)
theorem Inv.write{x e:Addr}{o:HO}{t':Nat}(I:Inv X pins σ H s)(mu:qR (H x))(he:e=x∨H e=some (.own x))(k:∀b u,b≠e->s.heap.get? b=some u->h'.get? b=some u)(heo:∃u,h'.get? e=some u)
 (new:aH X.prog X.w (upd H x o) h' x o):Inv X pins σ (upd H x o) { s with heap:=h',toks:=t' }:=I.un (Un.write mu he k heo) (I.ar.write mu he k heo new)
theorem Inv.dw{pins':aF}(I:Inv X pins σ H s)(h:∀p∈pins',s.heap.get? p.1=some p.2/\H p.1=none/\p.1≠X.env.locals/\p.1∉X.fs/\∀v,p.2.data≠.cell v):Inv X pins' σ H s:=
 ⟨I.ok,I.os,I.bare,I.base,I.loc,I.cell,I.free,I.bo,λp hp=>(jH.mp hp).elim (λz=>I.pin p (qI _ z)) (h p),I.ar,I.len⟩
theorem yX{N:ay}(hN:N.Nodup){i j:Nat}{x:Str}(a:N[i]? =some x)(b:N[j]? =some x):i=j:=by
 obtain⟨h1,e1⟩:=hU.mp a;obtain⟨h2,e2⟩:=hU.mp b;exact(List.getElem_inj hN).mp (e1.trans e2.symm)
theorem OX{M:Model}{A:Around}{E:aP}{i:Nat}{x:Str}{v:V}{u:Value}{Q:Unit->Shared->Prop}(I:Inv X pins σ H s)(hN:X.N.Nodup)(hi:X.N[i]? =some x)(hx:Loc X.env.scope x)(r:RelV v u)
 (h:∀s',Inv X pins (σ.set i (some v)) H s'->(∃a,Heap.SameBut a s.heap s'.heap/\(a=X.env.locals∨X.env.cells.lookup x=some a))->Q () s') (hf:X.fn x=true∨X.env.scope.names.lookup x=some .local):wpAny M A (storeName X.env x u) Q E s:=by
 obtain⟨m,hn,hl⟩:=id I.loc;have hcls:(X.env.scope.kind== .class||(X.env.scope.kind== .module&&X.env.locals != X.env.globals))=false:=by rw[I.ok.kind];rfl
 have hiσ:i<σ.length:=by rw[I.len];exact(hU.mp hi).1
 have iH:=I.iH;have tracked:∀{a:Addr} {h':Heap},(∃o,s.heap.get? a=some o/\H a=none)->Heap.SameBut a s.heap h'->bL X.prog X.w H h':=λ{a h'} ha hs b ob e=>by
  obtain⟨_,_,hfree⟩:=ha;refine(I.ar b ob e).cY (λc w' hc q=>(hs.2 c ?_).trans q) (λ_ q=>q) λ_ _ q=>q
  rintro rfl;rcases hc with rfl|hc
  . rw[hfree]at e;cases e
  . rw[hfree]at hc;cases hc
 rcases hx with hk|hk
 . refine wpAny_storeName_local hk hn (λh' hn' hs=>?_) hcls
   obtain⟨oL,_,_,hoL,_⟩:=id hn;refine h _ ⟨I.ok,I.os,I.bare,⟨λb o e n hb hx=>?_,λb o e n hb hx=>?_,I.base.free,λb o e hx=>?_,I.base.aV,I.base.aE,I.base.bR⟩,⟨_,hn',λj y v' e1 e2 e3=>?_⟩,λy c e=>?_,I.free,I.bo,λp hp=>?_,tracked ⟨oL,hoL,I.free⟩ hs,by simpa using I.len⟩ ⟨_,hs,.inl rfl⟩
   . exact(hs.2 b (cx (dE (bB e) I.ok.above))).trans (I.base.keep b o e n hb hx)
   . obtain⟨sl,e1⟩:=I.base.slot b o e n hb hx
     exact⟨sl,(hs.2 b (cx (dE (bB e) I.ok.above))).trans e1⟩
   . obtain⟨o',e1⟩:=I.base.there b o e hx
     exact⟨o',(hs.2 b (cx (dE (bB e) I.ok.above))).trans e1⟩
   . by_cases hj:j=i
     . subst hj
       rw[hi]at e1;cases e1;rw[List.getElem?_set_self hiσ]at e2;cases e2;exact⟨u,r,.inl ⟨hk,by simp⟩⟩
     . rw[List.getElem?_set_ne (d9 hj)]at e2
       obtain⟨u',r',q⟩:=hl j y v' e1 e2 e3;refine⟨u',r',?_⟩;rcases q with⟨k,e⟩|⟨k,c,e,z⟩
       . refine .inl ⟨k,?_⟩
         have:y≠x:=λe=>hj (yX hN e1 (e ▸ hi))
         simp[this,e]
       . exact .inr ⟨k,c,e,z.sameBut hs (iH y c e)⟩
   . obtain⟨w',z⟩:=I.cell y c e
     exact⟨w',z.sameBut hs (iH y c e)⟩
   . obtain⟨e,n,ne,nf,d⟩:=I.pin p hp
     exact⟨(hs.2 p.1 ne).trans e,n,ne,nf,d⟩
 . have hfn:X.fn x=true:=by
    rcases hf with z|z
    . exact z
    . rw[z]at hk;cases hk
   obtain⟨c,hc⟩:=I.ok.has x (.inl hk);obtain⟨w',z⟩:=I.cell x c hc;refine wpAny_storeName_cell I.ok.kind hk hc z (λh' hc' hs=>?_)
   obtain⟨oc,hoc,hocd⟩:=id z;refine h { s with heap:=h' } ⟨I.ok,I.os,I.bare,⟨λb o e n hb hx=>?_,λb o e n hb hx=>?_,I.base.free,λb o e hx=>?_,I.base.aV,I.base.aE,I.base.bR⟩,⟨m,hn.sameBut hs (d9 (iH x c hc)),λj y v' e1 e2 e3=>?_⟩,λy c' e=>?_,I.free,I.bo,λp hp=>?_,tracked ⟨oc,hoc,I.bo x c hc⟩ hs,by simpa using I.len⟩ ⟨c,hs,.inr hc⟩
   . exact(hs.2 b (cx (dE (bB e) (I.ok.lV x c hfn hc)))).trans (I.base.keep b o e n hb hx)
   . obtain⟨sl,e1⟩:=I.base.slot b o e n hb hx
     exact⟨sl,(hs.2 b (cx (dE (bB e) (I.ok.lV x c hfn hc)))).trans e1⟩
   . obtain⟨o',e1⟩:=I.base.there b o e hx
     exact⟨o',(hs.2 b (cx (dE (bB e) (I.ok.lV x c hfn hc)))).trans e1⟩
   . by_cases hj:j=i
     . subst hj
       rw[hi]at e1;cases e1;rw[List.getElem?_set_self hiσ]at e2;cases e2;exact⟨u,r,.inr ⟨.inl hk,c,hc,hc'⟩⟩
     . rw[List.getElem?_set_ne (d9 hj)]at e2
       obtain⟨u',r',q⟩:=hl j y v' e1 e2 e3;refine⟨u',r',?_⟩;rcases q with q|⟨k,c',e,z'⟩
       . exact .inl q
       . refine .inr ⟨k,c',e,z'.sameBut hs ?_⟩
         rintro rfl;exact hj (yX hN e1 (I.ok.inj _ _ _ e hc ▸ hi))
   . by_cases hcc:c'=c
     . subst hcc;exact⟨_,hc'⟩
     . obtain⟨w2,z2⟩:=I.cell y c' e
       exact⟨w2,z2.sameBut hs hcc⟩
   . obtain⟨e,n,ne,nf,d⟩:=I.pin p hp
     refine⟨(hs.2 p.1 ?_).trans e,n,ne,nf,d⟩;intro q;rw[q,hoc]at e;have q':oc=p.2:=de e;exact d w' (by rw[<-q'];exact hocd)
theorem yO{M:Model}{A:Around}{E:aP}{i:Nat}{x:Str}{v:V}{u:Value}{Q:Unit->Shared->Prop}(I:Inv X pins σ H s)(hN:X.N.Nodup)(hi:X.N[i]? =some x)(hx:Loc X.env.scope x)(r:RelV v u)
 (h:∀s',Inv X pins (σ.set i (some v)) H s'->Q () s') (hf:X.fn x=true∨X.env.scope.names.lookup x=some .local):wpAny M A (storeName X.env x u) Q E s:=
 OX I hN hi hx r (λs' I' _=>h s' I') hf
theorem Inv.iF{s':Shared}{ch:List Addr}(I:Inv X pins σ H s)(ho:s'.os=s.os)(u:Un (br X.stack) ch H H' s.heap s'.heap)(ar:bL X.prog X.w H' s'.heap)(hg:AllBare s'.gens)
 (hch:∀b∈ch,(b∈X.ex∨X.s₀.heap.objs.size<=b)/\b≠X.env.locals/\(∀x c,X.env.cells.lookup x=some c->c≠b)/\∀p∈X.pn++pins,p.1≠b):Inv X pins σ H' s':=by
 obtain⟨h',g',d',t',o'⟩:=s';have e:o'=s.os:=ho;subst e;exact I.call (g':=g') (t':=t') (d':=d') u ar hg hch
end
abbrev XK:=Value->Option Addr->Hp->Prop
abbrev St:=List (Option V)
abbrev VK:=V->Hp->Prop
abbrev TE:=St->Hp->VK->Prop
abbrev TT:=St->Hp->(Bool->Hp->Prop)->Prop
abbrev TA:=St->Hp->(LV->Hp->Prop)->Prop
structure Ends where
 nx:St->Hp->Prop
 rt:VK
 bk:St->Hp->Prop:=λ_ _=>False
 ct:St->Hp->Prop:=λ_ _=>False
abbrev TS:=Ends->St->Hp->Prop
def EP(X:Cx)(pins:aF)(σ:St)(Q:VK)(u:Value)(s':Shared):Prop:=∃v H',Inv X pins σ H' s'/\RelV v u/\Q v H'
def TP(X:Cx)(pins:aF)(σ:St)(Q:Bool->Hp->Prop)(b:Bool)(s':Shared):Prop:=∃H',Inv X pins σ H' s'/\Q b H'
def AP(X:Cx)(pins:aF)(σ:St)(Q:LV->Hp->Prop)(us:ao)(s':Shared):Prop:=∃vs H',Inv X pins σ H' s'/\Vals vs us/\Q vs H'
def SP(X:Cx)(pins:aF)(D:Ends)(f:Flow)(s':Shared):Prop:=
 match f with
 | .next=>∃σ' H',Inv X pins σ' H' s'/\D.nx σ' H'
 | .brk=>∃σ' H',Inv X pins σ' H' s'/\D.bk σ' H'
 | .cont=>∃σ' H',Inv X pins σ' H' s'/\D.ct σ' H'
 | .ret u=>∃v σ' H',Inv X pins σ' H' s'/\RelV v u/\D.rt v H'
def PE(X:Cx)(e:Expr)(t:TE):Prop:=
 ∀(pins:aF) (s:Shared) (σ:St) (H:Hp) (Q:VK),Inv X pins σ H s->t σ H Q->wpAny (model X.prog X.w) X.A (eval e X.env) (EP X pins σ Q) X.xe s
def PT(X:Cx)(e:Expr)(t:TT):Prop:=
 ∀(pins:aF) (s:Shared) (σ:St) (H:Hp) (Q:Bool->Hp->Prop),Inv X pins σ H s->t σ H Q->wpAny (model X.prog X.w) X.A (isTrue e X.env (eval e X.env)) (TP X pins σ Q) X.xe s
def PW(X:Cx)(e:Expr)(t:TT):Prop:=
 ∀(whole:Sem Value) (pins:aF) (s:Shared) (σ:St) (H:Hp) (Q:Bool->Hp->Prop),Inv X pins σ H s->t σ H Q->wpAny (model X.prog X.w) X.A (isTrue e X.env whole) (TP X pins σ Q) X.xe s
theorem PW.pt{X:Cx}{e:Expr}{t:TT}(h:PW X e t):PT X e t:=h _
def PA(X:Cx)(es:aT)(t:TA):Prop:=
 ∀(pos:Pos) (pins:aF) (s:Shared) (σ:St) (H:Hp) (Q:LV->Hp->Prop),Inv X pins σ H s->t σ H Q->wpAny (model X.prog X.w) X.A (spliced (backTo pos (starEach es X.env))) (AP X pins σ Q) X.xe s
def PS(X:Cx)(st:Stmt)(t:TS):Prop:=
 ∀(pins:aF) (s:Shared) (σ:St) (H:Hp) (D:Ends),Inv X pins σ H s->t D σ H->wpAny (model X.prog X.w) X.A (exec st X.env) (SP X pins D) X.xe s
def eX(X:Cx)(st:List Stmt)(t:TS):Prop:=
 ∀(pins:aF) (s:Shared) (σ:St) (H:Hp) (D:Ends),Inv X pins σ H s->t D σ H->wpAny (model X.prog X.w) X.A (execs st X.env) (SP X pins D) X.xe s
theorem aB{α:Type}{t:Sem α}{Q Q':α->Shared->Prop}{M:Model}{A:Around}{E:aP}{s:Shared}(h:wpAny M A t Q E s)(hQ:∀a s,Q a s->Q' a s):wpAny M A t Q' E s:=eM h hQ λ_ _ x=>x
section
variable {X:Cx}
def My(i:Nat):TE:=λσ H Q=>∃v,σ[i]? =some (some v)/\Q v H
def tC(v:V):TE:=λ_ H Q=>Q v H
theorem TN{i:Nat}{x:Str}{pos:Pos}(hN:X.N[i]? =some x)(hv:pS X.env.scope x)(hd:(x==("__debug__":Str))=false:=by decide)(hcd:(x==("__classdict__":Str))=false:=by decide):PE X (.Name x pos) (My i):=by
 intro pins s σ H Q I h;obtain⟨v,e,h⟩:=h;obtain⟨m,hn,hl⟩:=I.loc;obtain⟨u,r,l⟩:=hl i x v hN e hv;have fin:EP X pins σ Q u s:=⟨v,H,I,r,h⟩;rcases l with⟨hk,hm⟩|⟨hk,c,hc,bA⟩
 . exact wpAny_Name (wpAny_loadName_local I.ok.kind hk hn hm fin) hd
 . rcases hk with hk|hk
   . exact wpAny_Name (wpAny_loadName_cell I.ok.kind hk hc bA fin) hd
   . exact wpAny_Name (wpAny_loadName_free I.ok.kind hk hc bA fin hcd) hd
theorem Ti{i j pos}:PE X (.Constant (.int i) j pos) (tC (.int i)):=λ_ _ _ H _ I h=>wpAny_Constant_int ⟨.int i,H,I.tok _,⟨_,rfl⟩,h⟩
theorem V9{b j pos}:PE X (.Constant (.bool b) j pos) (tC (.bl b)):=λ_ _ _ H _ I h=>Constant_bool ⟨.bl b,H,I,rfl,h⟩
theorem Th{j pos}:PE X (.Constant .none j pos) (tC .au):=λ_ _ _ H _ I h=>Constant_none ⟨.au,H,I,rfl,h⟩
theorem TR{x j pos}:PE X (.Constant (.str x) j pos) (tC (.str x)):=λ_ _ _ H _ I h=>Calls.Constant_str ⟨.str x,H,I.tok _,⟨_,rfl⟩,h⟩
def Gl(X:Cx)(x:Str):Prop:=X.env.kindOf x=some .globalImplicit
theorem js{E:aP}{pins:aF}{s:Shared}{σ:St}{H:Hp}{x:Str}{u:Value}{pos:Pos}{Q:aP}(I:Inv X pins σ H s)(hg:Gl X x)(hm:X.mg x=some u)(h:Q u s)
 (hd:(x==("__debug__":Str))=false:=by decide):wpAny (model X.prog X.w) X.A (eval (.Name x pos) X.env) Q E s:=
 Calls.Name_function_global I.ok.kind hg (Calls.loadGlobal_global (by rw[I.ok.glob];exact I.mod.glob.keeps I.bk) hm h) hd
theorem sS{E:aP}{pins:aF}{s:Shared}{σ:St}{H:Hp}{x:Str}{u:Value}{pos:Pos}{Q:aP}(I:Inv X pins σ H s)(hg:Gl X x)(hm:X.mg x=none)(hv:bootBuiltins x=some u)(h:Q u s)
 (hn:x≠"__name__":=by decide) (hd:(x==("__debug__":Str))=false:=by decide):wpAny (model X.prog X.w) X.A (eval (.Name x pos) X.env) Q E s:=by
 obtain⟨mb,h1,h2⟩:=I.mod.blt;exact Calls.Name_function_global I.ok.kind hg (Calls.loadGlobal_builtin (by rw[I.ok.glob];exact I.mod.glob.keeps I.bk) hm (by rw[I.ok.blt];exact h1.keeps I.bk) ((h2 x hn).trans hv) h) hd
theorem Ry{x:Str}{v:V}{u:Value}{pos:Pos}(hg:Gl X x)(hm:X.mg x=some u)(r:RelV v u)(hd:(x==("__debug__":Str))=false:=by decide):PE X (.Name x pos) (tC v):=
 λ_ _ _ H _ I h=>js I hg hm ⟨v,H,I,r,h⟩ hd
theorem Ss{x:Str}{v:V}{u:Value}{pos:Pos}(hg:Gl X x)(hm:X.mg x=none)(hv:bootBuiltins x=some u)(r:RelV v u)(hn:x≠"__name__":=by decide)(hd:(x==("__debug__":Str))=false:=by decide):PE X (.Name x pos) (tC v):=
 λ_ _ _ H _ I h=>sS I hg hm hv ⟨v,H,I,r,h⟩ hn hd
variable {a b:Expr}{ta tb:TE}{pos:Pos}
def PC(X:Cx)(op:CmpOp)(a b:Expr)(t:TE):Prop:=
 ∀(pins:aF) (s:Shared) (σ:St) (H:Hp) (Q:VK),Inv X pins σ H s->t σ H Q->
  wpAny (model X.prog X.w) X.A (eval a X.env) (λv s₁=>wpAny (model X.prog X.w) X.A (eval b X.env) (λu s₂=>wpAny (model X.prog X.w) X.A (compareOp op v u) (EP X pins σ Q) X.xe s₂) X.xe s₁) X.xe s
theorem qir(b:Expr){op:CmpOp}(h:op≠.In)(h2:op≠.NotIn):behindInMarks op b=false:=by
 have e1:(op==CmpOp.In)=false:=by cases op<;>first|rfl|exact bp rfl h
 have e2:(op==CmpOp.NotIn)=false:=by cases op<;>first|rfl|exact bp rfl h2
 cases b<;>simp[behindInMarks,e1,e2]
def tB(t:TE):TT:=λσ H Q=>t σ H λx H1=>∃c,x= .bl c/\Q c H1
theorem Ex{op:CmpOp}{t:TE}(h:PC X op a b t)(h1:behindInMarks op b=false):PE X (.Compare a [op] [b] pos) t:=λpins s σ H Q I hw=>wpAny_Compare1 (h pins s σ H Q I hw) h1
theorem zp{op:CmpOp}{t:TE}(h:PC X op a b t)(h1:behindInMarks op b=false):PT X (.Compare a [op] [b] pos) (tB t):=by
 intro pins s σ H Q I hw;refine wpAny_isTrue_Compare1 (aB (h pins s σ H _ I hw) λv s1 h1=>aB h1 λu s2 h2=>aB h2 λc s3 zz=>?_) h1;obtain⟨x,H1,I1,r1,q1⟩:=zz
 obtain⟨d,rfl,q⟩:=q1;cases r1;exact jG ⟨H1,I1,q⟩
theorem Tv{e:Expr}{t:TE}(h:PE X e t)(he:∀whole,isTrue e X.env whole=(do let v<-whole;standAt e.pos;holding [v] (truthy v)):=by intro _;rfl):PT X e (tB t):=by
 intro pins s σ H Q I hw;refine isTrue_plain (aB (h pins s σ H _ I hw) λv s1 zz=>?_) (he _);obtain⟨x,H1,I1,r1,q1⟩:=zz
 obtain⟨d,rfl,q⟩:=q1;cases r1;exact jG ⟨H1,I1,q⟩
variable {tA tB':TT}{rest:aT}
def MJ(t u:TT):TT:=λσ H Q=>t σ H λc H1=>if c=true then u σ H1 Q else Q false H1
def Xx(t u:TT):TT:=λσ H Q=>t σ H λc H1=>if c=true then Q true H1 else u σ H1 Q
def MD(t:TT):TT:=λσ H Q=>t σ H λc H1=>Q (!c) H1
theorem Rm(ha:PT X a tA):PW X (.BoolOp .And [a] pos) tA:=by
 intro wh pins s σ H Q I h;refine isTrue_and (aB (ha pins s σ H Q I h) λc s1 e=>?_)
 cases c with
 |true=>exact isTrue_and_nil e
 |false=>exact e
theorem Tt(ha:PT X a tA):PW X (.BoolOp .Or [a] pos) tA:=by
 intro wh pins s σ H Q I h;refine isTrue_or (aB (ha pins s σ H Q I h) λc s1 e=>?_)
 cases c with
 |false=>exact isTrue_or_nil e
 |true=>exact e
theorem Tu(ha:PT X a tA)(hb:PW X (.BoolOp .And (b::rest) pos) tB'):PW X (.BoolOp .And (a::b::rest) pos) (MJ tA tB'):=by
 intro wh pins s σ H Q I h;refine isTrue_and (aB (ha pins s σ H _ I h) λc s1 zz=>?_);obtain⟨H1,I1,q1⟩:=zz
 cases c with
 |true=>exact hb wh pins s1 σ H1 Q I1 q1
 |false=>exact⟨H1,I1,q1⟩
theorem WB(ha:PT X a tA)(hb:PW X (.BoolOp .Or (b::rest) pos) tB'):PW X (.BoolOp .Or (a::b::rest) pos) (Xx tA tB'):=by
 intro wh pins s σ H Q I h;refine isTrue_or (aB (ha pins s σ H _ I h) λc s1 zz=>?_);obtain⟨H1,I1,q1⟩:=zz
 cases c with
 |true=>exact⟨H1,I1,q1⟩
 |false=>exact hb wh pins s1 σ H1 Q I1 q1
theorem Tw(ha:PT X a tA):PT X (.UnaryOp .Not a pos) (MD tA):=by
 intro pins s σ H Q I h;exact isTrue_not (ha pins s σ H (λc H1=>Q (!c) H1) I h)
def Vx(ta tb:TE):TE:=λσ H Q=>ta σ H λx H1=>∃c,x= .bl c/\if c=true then tb σ H1 Q else Q (.bl false) H1
def MC(ta tb:TE):TE:=λσ H Q=>ta σ H λx H1=>∃c,x= .bl c/\if c=true then Q (.bl true) H1 else tb σ H1 Q
def Vo(ta:TE):TE:=λσ H Q=>ta σ H λx H1=>∃c,x= .bl c/\Q (.bl (!c)) H1
theorem TU{op}{t:TE}(h:PE X a t):PE X (.BoolOp op [a] pos) t:=λpins s σ H Q I hw=>BoolOp_one (h pins s σ H Q I hw)
theorem Tn(ha:PE X a ta)(hb:PE X (.BoolOp .And (b::rest) pos) tb):PE X (.BoolOp .And (a::b::rest) pos) (Vx ta tb):=by
 intro pins s σ H Q I h;refine BoolOp_and (aB (ha pins s σ H _ I h) λv s1 zz=>?_);obtain⟨x,H1,I1,r1,q1⟩:=zz
 obtain⟨c,rfl,q1⟩:=q1;cases r1;refine jG ?_;cases c with
 |true=>exact hb pins s1 σ H1 Q I1 q1
 |false=>exact⟨.bl false,H1,I1,rfl,q1⟩
theorem V5(ha:PE X a ta)(hb:PE X (.BoolOp .Or (b::rest) pos) tb):PE X (.BoolOp .Or (a::b::rest) pos) (MC ta tb):=by
 intro pins s σ H Q I h;refine BoolOp_or (aB (ha pins s σ H _ I h) λv s1 zz=>?_);obtain⟨x,H1,I1,r1,q1⟩:=zz
 obtain⟨c,rfl,q1⟩:=q1;cases r1;refine jG ?_;cases c with
 |false=>exact hb pins s1 σ H1 Q I1 q1
 |true=>exact⟨.bl true,H1,I1,rfl,q1⟩
theorem Tg(ha:PE X a ta):PE X (.UnaryOp .Not a pos) (Vo ta):=by
 intro pins s σ H Q I h;refine UnaryOp_ (aB (ha pins s σ H _ I h) λv s1 zz=>?_);obtain⟨x,H1,I1,r1,q1⟩:=zz
 obtain⟨c,rfl,q1⟩:=q1;cases r1;exact not_of (jG ⟨.bl (!c),H1,I1,rfl,q1⟩)
def Xw(t:TT)(ta tb:TE):TE:=λσ H Q=>t σ H λc H1=>if c=true then ta σ H1 Q else tb σ H1 Q
theorem Q2{c:Expr}(hc:PT X c tA)(ha:PE X a ta)(hb:PE X b tb):PE X (.IfExp c a b pos) (Xw tA ta tb):=by
 intro pins s σ H Q I h;refine wpAny_IfExp (aB (hc pins s σ H _ I h) λd s1 zz=>?_);obtain⟨H1,I1,q1⟩:=zz
 cases d with
 |true=>exact ha pins s1 σ H1 Q I1 q1
 |false=>exact hb pins s1 σ H1 Q I1 q1
end
def bM(K:ag)(H:Hp)(a:Addr)(xs:LV):Prop:=
 Rd H a (.lst xs)∨
  ∃(o:Obj) (its:Array Value) (n:Nat),K.lookup a=some o/\o.cls= .type "list"/\o.dict=none/\o.data= .seq its n/\its.size<=sizeLine/\Vals xs its.toList
def bI(K:ag)(H:Hp)(a:Addr)(xs:LV):Prop:=
 Rd H a (.tup xs)∨
  ∃(o:Obj) (its:Array Value) (n:Nat),K.lookup a=some o/\o.cls= .type "tuple"/\o.data= .seq its n/\its.size<=sizeLine/\Vals xs its.toList
noncomputable def MO:Value->Option V
 | .none=>some .au
 | .bool b=>some (.bl b)
 | .int i _=>some (.int i)
 | .str x _=>some (.str x)
 | .bytes b _=>some (.uh b)
 | .float b _=>some (.kE b)
 | .ref a=>some (.ref a)
 | .type n=>some (.ty n)
 |_=>none
theorem RelV.abs{x:V}{u:Value}(r:RelV x u):MO u=some x:=by
 cases x with
 |au=>cases r;rfl
 |bl _=>cases r;rfl
 |int _=>obtain⟨t,rfl⟩:=r;rfl
 |str _=>obtain⟨t,rfl⟩:=r;rfl
 |uh _=>obtain⟨t,rfl⟩:=r;rfl
 |kE _=>obtain⟨t,rfl⟩:=r;rfl
 |ref _=>cases r;rfl
 |ty _=>cases r;rfl
theorem RelV.inj{x y:V}{u:Value}(r:RelV x u)(q:RelV y u):x=y:=de (r.abs.symm.trans q.abs)
theorem Vals.inj:∀{xs ys:LV} {us:ao},Vals xs us->Vals ys us->xs=ys
 |_,_,_,.nil,.nil=>rfl
 |_,_,_,.cons r t,.cons r' t'=>by rw[r.inj r',Vals.inj t t']
section
variable {X:Cx}{pins:aF}{σ:St}{H:Hp}{s:Shared}{a:Addr}{xs ys:LV}
theorem bM.of{K:ag}(h:H a=some (.lst xs)):bM K H a xs:=.inl (.inl h)
theorem bI.of{K:ag}(h:H a=some (.tup xs)):bI K H a xs:=.inl (.inl h)
theorem Inv.list(I:Inv X pins σ H s)(h:bM X.K H a xs):∃its:ao,Vals xs its/\PlainL s.heap a its.toArray/\xs.length<=sizeLine:=by
 rcases h with h|⟨o,its,n,hk,hc,hd,hs,hz,r⟩
 . obtain⟨z,its,n,r,e⟩:=h.ok I.ar
   exact⟨its,r,⟨_,n,e,rfl,rfl,rfl⟩,z⟩
 . refine⟨its.toList,r,⟨o,n,I.bW a o hk,hc,hd,by simpa using hs⟩,?_⟩
   have e:=r.length;simp only[Array.length_toList]at e;omega
theorem Inv.tuple(I:Inv X pins σ H s)(h:bI X.K H a xs):∃its:ao,Vals xs its/\IsTup s.heap a its.toArray/\xs.length<=sizeLine:=by
 rcases h with h|⟨o,its,n,hk,hc,hs,hz,r⟩
 . obtain⟨z,its,r,p⟩:=h.ok I.ar
   exact⟨its,r,p,z⟩
 . refine⟨its.toList,r,⟨o,I.bW a o hk,hc,n,by simpa using hs⟩,?_⟩
   have e:=r.length;simp only[Array.length_toList]at e;omega
theorem Inv.fG(I:Inv X pins σ H s)(h:bM X.K H a xs)(h':bM X.K H a ys):xs=ys:=by
 obtain⟨its,r,⟨o,n,e,_,_,d⟩,_⟩:=I.list h;obtain⟨its',r',⟨o',n',e',_,_,d'⟩,_⟩:=I.list h';rw[e]at e';cases e';rw[d]at d';injection d' with d1 _
 have:its=its':=by simpa using congrArg Array.toList d1
 subst this;exact r.inj r'
theorem Inv.gY(I:Inv X pins σ H s)(h:bI X.K H a xs)(h':bI X.K H a ys):xs=ys:=by
 obtain⟨its,r,⟨o,e,_,n,d⟩,_⟩:=I.tuple h;obtain⟨its',r',⟨o',e',_,n',d'⟩,_⟩:=I.tuple h';rw[e]at e';cases e';rw[d]at d';injection d' with d1 _
 have:its=its':=by simpa using congrArg Array.toList d1
 subst this;exact r.inj r'
end
noncomputable abbrev Cx.wish (X:Cx) (E:aP):Cx:={ X with xe:=E }
noncomputable abbrev Cx.cg (X:Cx):Cx:=X.wish λ_ _=>False
theorem Cx.Ok.wish{X:Cx}(ok:X.Ok)(E:aP):(X.wish E).Ok:=
 ⟨ok.mod,ok.kind,ok.glob,ok.blt,ok.above,ok.inj,ok.has,ok.lV,ok.hd,ok.frames,ok.mS,ok.og,ok.bs,ok.ia,ok.fH,ok.eP,ok.bP,ok.iP⟩
theorem Cx.Ok.bu{X:Cx}{E:aP}(ok:(X.wish E).Ok):X.Ok:=
 ⟨ok.mod,ok.kind,ok.glob,ok.blt,ok.above,ok.inj,ok.has,ok.lV,ok.hd,ok.frames,ok.mS,ok.og,ok.bs,ok.ia,ok.fH,ok.eP,ok.bP,ok.iP⟩
section
variable {X:Cx}{pins:aF}{σ:St}{H:Hp}{s:Shared}{E:aP}
theorem Inv.wish(I:Inv X pins σ H s)(E:aP):Inv (X.wish E) pins σ H s:=⟨I.ok.wish E,I.os,I.bare,I.base,I.loc,I.cell,I.free,I.bo,I.pin,I.ar,I.len⟩
theorem Inv.bu(I:Inv (X.wish E) pins σ H s):Inv X pins σ H s:=⟨I.ok.bu,I.os,I.bare,I.base,I.loc,I.cell,I.free,I.bo,I.pin,I.ar,I.len⟩
theorem SP.bu{D:Ends}{f:Flow}{s':Shared}(h:SP (X.wish E) pins D f s'):SP X pins D f s':=by
 cases f with
 |next=>obtain⟨σ',H',I,q⟩:=h;exact⟨σ',H',I.bu,q⟩
 |brk=>obtain⟨σ',H',I,q⟩:=h;exact⟨σ',H',I.bu,q⟩
 |cont=>obtain⟨σ',H',I,q⟩:=h;exact⟨σ',H',I.bu,q⟩
 |ret u=>obtain⟨v,σ',H',I,r,q⟩:=h;exact⟨v,σ',H',I.bu,r,q⟩
theorem PE.cg{e:Expr}{t:TE}(h:PE X.cg e t):PE X e t:=λpins s σ H Q I hw=>
 eM (h pins s σ H Q (I.wish _) hw) (λ_ _ ⟨v,H',I',r,q⟩=>⟨v,H',I'.bu,r,q⟩) λ_ _ z=>False.elim z
theorem PT.cg{e:Expr}{t:TT}(h:PT X.cg e t):PT X e t:=λpins s σ H Q I hw=>
 eM (h pins s σ H Q (I.wish _) hw) (λ_ _ ⟨H',I',q⟩=>⟨H',I'.bu,q⟩) λ_ _ z=>False.elim z
theorem eX.cg{st:List Stmt}{t:TS}(h:eX X.cg st t):eX X st t:=λpins s σ H D I hw=>
 eM (h pins s σ H D (I.wish _) hw) (λ_ _ q=>q.bu) λ_ _ z=>False.elim z
end
section
variable {X:Cx}{st:Stmt}{rest:List Stmt}{t u:TS}{e:Expr}{te:TE}{pos:Pos}
def Vp:TS:=λD σ H=>D.nx σ H
def MA(t u:TS):TS:=λD σ H=>t { D with nx:=u D } σ H
theorem Ro:eX X [] Vp:=λ_ _ σ H _ I h=>wpAny_execs_nil ⟨σ,H,I,h⟩
theorem QU(h1:PS X st t)(h2:eX X rest u):eX X (st::rest) (MA t u):=by
 intro pins s σ H D I h;refine wpAny_execs_cons (aB (h1 pins s σ H { D with nx:=u D } I h) λf s1 q=>?_)
 cases f with
 |next=>
  obtain⟨σ',H',I',q⟩:=q;exact h2 pins s1 σ' H' D I' q
 |ret v=>exact q
 |brk=>exact q
 |cont=>exact q
theorem Inv.quiet{pins:aF}{σ:St}{H:Hp}{s:Shared}(I:Inv X pins σ H s):interactive X.env=false:=by simp[interactive,I.ok.kind]
def Vt(te:TE):TS:=λD σ H=>te σ H λ_ H1=>D.nx σ H1
theorem Rp(he:PE X e te)(hs:swapsWith e none pos.line X.env=pure false:=by rfl):PS X (.Expr e pos) (Vt te):=by
 intro pins s σ H D I h;exact wpAny_Expr_any (aB (he pins s σ H _ I h) λv s1 ⟨x,H1,I1,r1,q1⟩=>⟨σ,H1,I1,q1⟩) I.quiet hs
def MB(te:TE):TS:=λD σ H=>te σ H D.rt
theorem TB(he:PE X e te):PS X (.Return (some e) pos) (MB te):=by
 intro pins s σ H D I h;exact wpAny_Return_some (aB (he pins s σ H _ I h) λv s1 ⟨x,H1,I1,r1,q1⟩=>⟨x,σ,H1,I1,r1,q1⟩)
def MF(c:TT)(t u:TS):TS:=λD σ H=>c σ H λb H1=>if b=true then t D σ H1 else u D σ H1
theorem WD{c:Expr}{a b:List Stmt}{tc:TT}(hc:PT X c tc)(ha:eX X a t)(hb:eX X b u):PS X (.If c a b pos) (MF tc t u):=by
 intro pins s σ H D I h;refine wpAny_If (aB (hc pins s σ H _ I h) λd s1 zz=>?_);obtain⟨H1,I1,q1⟩:=zz
 cases d with
 |true=>exact ha pins s1 σ H1 D I1 q1
 |false=>exact hb pins s1 σ H1 D I1 q1
end
abbrev TG:=V->St->Hp->(St->Hp->Prop)->Prop
abbrev lS:=LV->St->Hp->(St->Hp->Prop)->Prop
def PG(X:Cx)(target:Expr)(t:TG):Prop:=
 ∀(pins:aF) (s:Shared) (σ:St) (H:Hp) (v:V) (u:Value) (Q:St->Hp->Prop),Inv X pins σ H s->RelV v u->t v σ H Q->
  wpAny (model X.prog X.w) X.A (assign target X.env u) (λ_ s'=>∃σ' H',Inv X pins σ' H' s'/\Q σ' H') X.xe s
def m8(X:Cx)(ts:aT)(t:lS):Prop:=
 ∀(pins:aF) (s:Shared) (σ:St) (H:Hp) (vs:LV) (us:ao) (Q:St->Hp->Prop),Inv X pins σ H s->Vals vs us->t vs σ H Q->
  wpAny (model X.prog X.w) X.A (assignInOrder ((assignEach ts X.env).map (·.2)) us) (λ_ s'=>∃σ' H',Inv X pins σ' H' s'/\Q σ' H') X.xe s
abbrev xo:=V->V->V->Hp->(Hp->Prop)->Prop
def xp(X:Cx)(t:xo):Prop:=
 ∀(pins:aF) (s:Shared) (σ:St) (H:Hp) (o i v:V) (ov iv u:Value) (Q:Hp->Prop),Inv X pins σ H s->RelV o ov->RelV i iv->RelV v u->t o i v H Q->
  wpAny (model X.prog X.w) X.A (setItem ov iv u) (λ_ s'=>∃H',Inv X pins σ H' s'/\Q H') X.xe s
section
variable {X:Cx}{pos:Pos}
def zD(i:Nat):TG:=λv σ H Q=>Q (σ.set i (some v)) H
theorem vQ{i:Nat}{x:Str}(hN:X.N.Nodup)(hi:X.N[i]? =some x)(hx:Loc X.env.scope x)(hf:X.fn x=true∨X.env.scope.names.lookup x=some .local):PG X (.Name x pos) (zD i):=by
 intro pins s σ H v u Q I r h;exact wpAny_assign_Name (yO I hN hi hx r (λs' I'=>⟨_,H,I',h⟩) hf)
def JQ:lS:=λvs σ H Q=>vs= []/\Q σ H
def FK(t:TG)(u:lS):lS:=λvs σ H Q=>∃v r,vs=v::r/\t v σ H λσ' H'=>u r σ' H' Q
theorem DZ:m8 X [] JQ:=by
 intro pins s σ H vs us Q I r h;obtain⟨e,h⟩:=h;subst e;cases r;exact assignInOrder_nil ⟨σ,H,I,h⟩
theorem Dr{e:Expr}{es:aT}{t:TG}{u:lS}(h1:PG X e t)(h2:m8 X es u)
 (hs:(assignEach (e::es) X.env).map (·.2)=assign e X.env::(assignEach es X.env).map (·.2):=by rfl):m8 X (e::es) (FK t u):=by
 intro pins s σ H vs us Q I r h;obtain⟨v,vr,e1,h⟩:=h;subst e1;cases r with
 |cons r rr=>
  rw[hs];refine assignInOrder_cons (aB (h1 pins s σ H _ _ _ I r h) λ_ s1 zz=>?_);obtain⟨σ1,H1,I1,q1⟩:=zz
  exact h2 pins s1 σ1 H1 _ _ Q I1 rr q1
def JP(K:ag)(n:Nat)(t:lS):TG:=λv σ H Q=>∃a xs,v= .ref a/\bI K H a xs/\xs.length=n/\t xs σ H Q
theorem Eu{es:aT}{k:Nat}{t:lS}{n:Nat}(hc:X.calm=true)(h:m8 X es t)
 (hn:(assignEach es X.env).length=n:=by rfl) (hst:(assignEach es X.env).findIdx? (·.1)=none:=by rfl):PG X (.Tuple es k pos) (JP X.K n t):=by
 intro pins s σ H v u Q I r hw;obtain⟨a,xs,e1,hq,hl,hw⟩:=hw;subst e1;cases r;obtain⟨its,rv,ht,hz⟩:=I.tuple hq;refine assign_Tuple_tuple (I.ok.hd hc) ht (by simp[hn,<-hl,rv.length]) hst λh' hx=>?_
 have I1:Inv X pins σ H { s with heap:=h' }:=I.kept (t':=s.toks) λb o e=>hx b o (cx (bB e)) e
 exact h pins _ σ H xs _ Q I1 (by simpa using rv) hw
def Nn(to ti:TE)(t:xo):TG:=λv σ H Q=>to σ H λo H1=>ti σ H1 λi H2=>t o i v H2 λH3=>Q σ H3
theorem TM{o i:Expr}{to ti:TE}{t:xo}(ho:PE X o to)(hi:PE X i ti)(hs:xp X t)
 (ha:∀v,assign (.Subscript o i pos) X.env v=(do
  let ov<-holding [v] (eval o X.env)
  let iv<-holding [v,ov] (eval i X.env)
  standAt pos
  holding [v,ov,iv] (setItem ov iv v)
  release [v,ov,iv] []):=by intro _;rfl):PG X (.Subscript o i pos) (Nn to ti t):=by
 intro pins s σ H v u Q I r h;rw[ha];refine ak (jh (aB (ho pins s σ H _ I h) λov s1 zz=>?_));obtain⟨x,H1,I1,r1,q1⟩:=zz
 refine ak (jh (aB (hi pins s1 σ H1 _ I1 q1) λiv s2 zz=>?_));obtain⟨y,H2,I2,r2,q2⟩:=zz
 refine ak (wpAny_standAt (ak (jh (aB (hs pins s2 σ H2 x y v ov iv u _ I2 r1 r2 r q2) λ_ s3 zz=>?_))));obtain⟨H3,I3,q3⟩:=zz
 exact wpAny_release ⟨σ,H3,I3,q3⟩
def J2(te:TE)(g:TG):TS:=λD σ H=>te σ H λx H1=>g x σ H1 D.nx
theorem TJ{tg e:Expr}{te:TE}{g:TG}(he:PE X e te)(hg:PG X tg g)(hs:swapsWithSole [tg] e pos.line X.env=pure false:=by rfl)(hw:swappedStores [tg] e X.env=pure none:=by rfl)
 (h1:(assignEach [tg] X.env).map (·.2)= [assign tg X.env]:=by rfl):PS X (.Assign [tg] e pos) (J2 te g):=by
 intro pins s σ H D I h;refine wpAny_Assign_stores (aB (he pins s σ H _ I h) λv s1 zz=>?_) hs hw;obtain⟨x,H1,I1,r1,q1⟩:=zz
 rw[h1];exact aB (hg pins s1 σ H1 x v _ I1 r1 q1) λ_ s2 q=>q
theorem Tz{i:Nat}{x:Str}{e:Expr}{te:TE}{pos':Pos}(hN:X.N.Nodup)(hi:X.N[i]? =some x)(hx:Loc X.env.scope x)(he:PE X e te)(hs:swapsWith e (some (.Name x pos')) pos.line X.env=pure false:=by rfl)(hf:X.fn x=true∨X.env.scope.names.lookup x=some .local):
 PS X (.Assign [.Name x pos'] e pos) (J2 te (zD i)):=by
 intro pins s σ H D I h;refine wpAny_Assign_Name (aB (he pins s σ H _ I h) λv s1 zz=>?_) hs;obtain⟨y,H1,I1,r1,q1⟩:=zz
 exact yO I1 hN hi hx r1 (λs2 I2=>⟨_,H1,I2,q1⟩) hf
end
structure It where
 go:Nat->Hp->Prop
 AH:Nat->Hp->V->Hp->Prop
 stop:Nat->Hp->Prop
def jb(X:Cx)(pins:aF)(H:Hp)(b:Addr):Prop:=
 H b=none/\b≠X.env.locals/\b∉X.fs/\(b∈X.ex∨X.s₀.heap.objs.size<=b)/\(∀x c,X.env.cells.lookup x=some c->c≠b)/\∀p∈X.pn++pins,p.1≠b
theorem Inv.fE{X:Cx}{pins:aF}{σ:St}{H H':Hp}{s:Shared}{b:Addr}(I:Inv X pins σ H s)(hb:s.heap.objs.size<=b)(hn:H' b=none):jb X pins H' b:=by
 refine⟨hn,Nat.ne_of_gt (dE I.lt hb),I.rA hb,.inr (c6 I.sz hb),λx c e z=>?_,λp hp z=>?_⟩
 . obtain⟨v,q⟩:=I.cell x c e
   exact bp (dE q.lt (by rw[z];exact hb)) (lN _)
 . exact bp (dE (bB (I.pin p hp).1) (by rw[z];exact hb)) (lN _)
structure Turn(P:Program)(w:World)(K:ag)(tg:Expr)(J:It)(fp:List Addr)(it:Addr)(tn:Nat->Heap->Prop):Prop where
 mem:it∈fp
 obj:∀i h,tn i h->∀b∈fp,∃o,h.get? b=some o/\∀v,o.data≠.cell v
 keep:∀i h h',tn i h->(∀b∈fp,∀o,h.get? b=some o->h'.get? b=some o)->tn i h'
 item:∀(X:Cx),X.prog=P->X.w=w->X.K=K->X.calm=true->∀(i:Nat) (pins:aF) (s:Shared) (σ:St) (H:Hp) (E:aP),Inv X pins σ H s->(∀b∈fp,jb X pins H b)->tn i s.heap->J.go i H->
  wpAny (model P w) X.A (pyNext (.ref it)) (λr s1=>∃u,r=some u/\
   wpAny (model P w) X.A (letOwnedTupleGo tg (.ref it) u) (λ_ s2=>∃x H',Inv X pins σ H' s2/\RelV x u/\J.AH i H x H'/\tn (i+1) s2.heap/\∀b∈fp,H' b=none) E s1) E s
 done:∀(X:Cx),X.prog=P->X.w=w->X.K=K->X.calm=true->∀(i:Nat) (pins:aF) (s:Shared) (σ:St) (H:Hp) (E:aP),Inv X pins σ H s->(∀b∈fp,jb X pins H b)->tn i s.heap->J.stop i H->
  wpAny (model P w) X.A (pyNext (.ref it)) (λr s1=>r=none/\Inv X pins σ H s1) E s
 self:∀(A:Around) (i:Nat) (s:Shared) (Q:aP) (E:aP),tn i s.heap->Q (.ref it) s->wpAny (model P w) A (pyIter (.ref it)) Q E s
abbrev TI:=St->Hp->(It->Hp->Prop)->Prop
def AN(X:Cx)(pins:aF)(σ:St)(tg:Expr)(R:It->Hp->Prop)(itv:Value)(s2:Shared):Prop:=
 ∃(it:Addr) (fp:List Addr) (tn:Nat->Heap->Prop) (J:It) (H':Hp),itv= .ref it/\Inv X pins σ H' s2/\Turn X.prog X.w X.K tg J fp it tn/\tn 0 s2.heap/\(∀b∈fp,jb X pins H' b)/\R J H'
def PI(X:Cx)(tg iter:Expr)(wi:TI):Prop:=
 ∀(pins:aF) (s:Shared) (σ:St) (H:Hp) (R:It->Hp->Prop),Inv X pins σ H s->wi σ H R->
  wpAny (model X.prog X.w) X.A (eval iter X.env) (λv s1=>wpAny (model X.prog X.w) X.A (pyIter v) (AN X pins σ tg R) X.xe s1) X.xe s
theorem sZ{M:Model}{A:Around}{E:aP}{s:Shared}{tg:Expr}{it:Addr}{u:Value}{o:Obj}{n:String}{vs:Array Value}{Q:Unit->Shared->Prop}(ho:s.heap.get? it=some o)(hc:o.cls= .type n)(hd:o.data= .fields vs)
 (hn:["enumerate","zip","dict_itemiterator","dict_reverseitemiterator","odict_iterator","itertools.zip_longest","itertools.pairwise"].contains n=false) (hQ:Q () s):wpAny M A (letOwnedTupleGo tg (.ref it) u) Q E s:=by
 unfold letOwnedTupleGo;cases tg<;>first
  |exact aR hQ
  |(cases u<;>first
   |exact aR hQ
   |(refine ak (wpAny_load ho ?_)
     rw[hc,hd];show wpAny M A (if(["enumerate","zip","dict_itemiterator","dict_reverseitemiterator","odict_iterator","itertools.zip_longest","itertools.pairwise"].contains n&&vs[0]? ==some (rawInt _))=true then _ else _) Q E s
     rw[aj (by intro h;rw[hn,Bool.false_and]at h;cases h)]
     exact aR hQ))
noncomputable def uc (K:ag)(a:Addr):It:=
 ⟨λi H=>∃xs x,bM K H a xs/\xs[i]? =some x,λi H x H'=>H'=H/\∀xs,bM K H a xs->xs[i]? =some x,λi H=>∃xs,bM K H a xs/\xs.length<=i⟩
noncomputable def AL (K:ag)(a:Addr):It:=
 ⟨λi H=>∃xs x,bI K H a xs/\xs[i]? =some x,λi H x H'=>H'=H/\∀xs,bI K H a xs->xs[i]? =some x,λi H=>∃xs,bI K H a xs/\xs.length<=i⟩
noncomputable def pQ (lo:Int)(n:Nat):It:=⟨λi _=>i<n,λi H x H'=>H'=H/\x= .int (lo+i),λi _=>n<=i⟩
theorem OU{P:Program}{w:World}{K:ag}{tg:Expr}(a it:Addr):Turn P w K tg (uc K a) [it] it (λi h=>h.IsListIter it a i) where
 mem:=by simp
 obj:=λi h st b hb=>by
  have e:b=it:=by simpa using hb
  subst e;obtain⟨o,e,c,d⟩:=st;exact⟨o,e,λv z=>by rw[d]at z;cases z⟩
 keep:=λi h h' st k=>st.at λo e=>k it (by simp) o e
 item:=by
  intro X hP hw hK hc i pins s σ H E I hf st hg;subst hP hw hK;obtain⟨xs,x,hq,hx⟩:=hg;obtain⟨its,rv,p,hz⟩:=I.list hq;obtain⟨u,hu,ru⟩:=rv.get hx;obtain⟨f0,f1,f2,f3,f4,f5⟩:=hf it (by simp)
  refine wpAny_pyNext_list_item st p.isList (x:=u) (by simpa using hu) λh' st' sb=>?_
  have I1:Inv X pins σ H { s with heap:=h' }:=I.turned (t':=s.toks) (λb o hb e=>(sb.2 b hb).trans e) f0 f1 f3 f4 f5
  obtain⟨o,e,c,d⟩:=id st';exact⟨u,rfl,sZ (s:={ s with heap:=h' }) e c d ⋯ ⟨x,H,I1,ru,⟨rfl,λys hy=>by rw[I.fG hy hq];exact hx⟩,st',λb hb=>(hf b hb).1⟩⟩
 done:=by
  intro X hP hw hK hc i pins s σ H E I hf st hg;subst hP hw hK;obtain⟨xs,hq,hx⟩:=hg;obtain⟨its,rv,p,hz⟩:=I.list hq;obtain⟨f0,f1,f2,f3,f4,f5⟩:=hf it (by simp)
  have hl:=rv.length;exact wpAny_pyNext_list_end (I.ok.hd hc) st p.isList (by simp;omega) λh' eb=>⟨rfl,I.turned (t':=s.toks) (λb o hb e=>eb b o hb e) f0 f1 f3 f4 f5⟩
 self:=λ_ _ _ _ _ st h=>wpAny_pyIter_listiter st h
theorem OE{P:Program}{w:World}{K:ag}{tg:Expr}(a it:Addr):Turn P w K tg (AL K a) [it] it (λi h=>h.IsTupleIter it a i) where
 mem:=by simp
 obj:=λi h st b hb=>by
  have e:b=it:=by simpa using hb
  subst e;obtain⟨o,e,c,d⟩:=st;exact⟨o,e,λv z=>by rw[d]at z;cases z⟩
 keep:=λi h h' st k=>st.at λo e=>k it (by simp) o e
 item:=by
  intro X hP hw hK hc i pins s σ H E I hf st hg;subst hP hw hK;obtain⟨xs,x,hq,hx⟩:=hg;obtain⟨its,rv,p,hz⟩:=I.tuple hq;obtain⟨u,hu,ru⟩:=rv.get hx;obtain⟨f0,f1,f2,f3,f4,f5⟩:=hf it (by simp)
  refine wpAny_pyNext_tuple_item st (show s.heap.IsTuple a its.toArray from p) (x:=u) (by simpa using hu) λh' st' sb=>?_
  have I1:Inv X pins σ H { s with heap:=h' }:=I.turned (t':=s.toks) (λb o hb e=>(sb.2 b hb).trans e) f0 f1 f3 f4 f5
  obtain⟨o,e,c,d⟩:=id st';exact⟨u,rfl,sZ (s:={ s with heap:=h' }) e c d ⋯ ⟨x,H,I1,ru,⟨rfl,λys hy=>by rw[I.gY hy hq];exact hx⟩,st',λb hb=>(hf b hb).1⟩⟩
 done:=by
  intro X hP hw hK hc i pins s σ H E I hf st hg;subst hP hw hK;obtain⟨xs,hq,hx⟩:=hg;obtain⟨its,rv,p,hz⟩:=I.tuple hq;obtain⟨f0,f1,f2,f3,f4,f5⟩:=hf it (by simp)
  have hl:=rv.length;exact wpAny_pyNext_tuple_end (I.ok.hd hc) st (show s.heap.IsTuple a its.toArray from p) (by simp;omega) λh' eb=>⟨rfl,I.turned (t':=s.toks) (λb o hb e=>eb b o hb e) f0 f1 f3 f4 f5⟩
 self:=λ_ _ _ _ _ st h=>wpAny_pyIter_tupleiter st h
theorem OF{P:Program}{w:World}{K:ag}{tg:Expr}(it:Addr)(lo:Int)(n:Nat):Turn P w K tg (pQ lo n) [it] it (λi h=>IsRangeIter h it (lo+(i:Nat)*1) ((n:Int)-(i:Nat)) 1) where
 mem:=by simp
 obj:=λi h st b hb=>by
  have e:b=it:=by simpa using hb
  subst e;exact⟨_,st,λv z=>by
   have z':Data.fields _=Data.cell v:=z;cases z'⟩
 keep:=λi h h' st k=>k it (by simp) _ st
 item:=by
  intro X hP hw hK hc i pins s σ H E I hf st hg;subst hP hw hK;obtain⟨f0,f1,f2,f3,f4,f5⟩:=hf it (by simp)
  have W:=Walks.range (prog:=X.prog) (w:=X.w) (I.ok.hd hc) it lo 1 n;refine W.item i s _ _ hg st λv h' tk hv st' kk=>?_
  obtain⟨t,rfl⟩:=hv;have I1:Inv X pins σ H { s with heap:=h',toks:=tk }:=I.turned (λb o hb e=>kk b o (by simpa using hb) e) f0 f1 f3 f4 f5
  refine⟨_,rfl,sZ (s:={ s with heap:=h',toks:=tk }) (n:="range_iterator") st' rfl rfl ⋯ ⟨.int (lo+i),H,I1,⟨t,?_⟩,⟨rfl,rfl⟩,st',λb hb=>(hf b hb).1⟩⟩
  rw[Int.mul_one]
 done:=by
  intro X hP hw hK hc i pins s σ H E I hf st hg;subst hP hw hK;obtain⟨f0,f1,f2,f3,f4,f5⟩:=hf it (by simp)
  exact wpAny_pyNext_range_end (I.ok.hd hc) st (by have:n<=i:=hg;omega) λh' eb=>⟨rfl,I.turned (t':=s.toks) (λb o hb e=>eb b o hb e) f0 f1 f3 f4 f5⟩
 self:=λ_ _ _ _ _ st h=>wpAny_pyIter_rangeiter st h
section
variable {X:Cx}{tg:Expr}
theorem Dn{pins:aF}{σ:St}{H:Hp}{s:Shared}{R:It->Hp->Prop}{E:aP}{lo hi:Int}{t u v:Tok}{tk:Nat}(I:Inv X pins σ H s)(h1:-(2 ^ 62)<=lo)(h2:lo<2 ^ 62)(h3:-(2 ^ 62)<=hi)(h4:hi<2 ^ 62)
 (q:R (pQ lo (hi-lo).toNat) H):wpAny (model X.prog X.w) X.A (pyIter (.ref s.heap.objs.size)) (AN X pins σ tg R) E { s with heap:=s.heap.push { cls:=.type "range",data:=.fields #[.int lo t,.int hi u,.int 1 v] },toks:=tk }:=by
 refine wpAny_pyIter_range (IsRange.new ..) (small_one h1 h2 h3 h4) ?_;have I1:Inv X pins σ H { s with heap:=s.heap.push { cls:=.type "range",data:=.fields #[.int lo t,.int hi u,.int 1 v] },toks:=tk }:=I.kept λb o e=>bS _ e
 refine⟨(s.heap.push { cls:=.type "range",data:=.fields #[.int lo t,.int hi u,.int 1 v] }).objs.size,[(s.heap.push { cls:=.type "range",data:=.fields #[.int lo t,.int hi u,.int 1 v] }).objs.size],_,_,H,rfl,
  I1.kept (t':=tk) λb o e=>bS _ e,OF _ lo (hi-lo).toNat,?_,λb hb=>?_,q⟩
 . have e1:lo+((0:Nat):Int)*1=lo:=by simp
   have e2:(((hi-lo).toNat:Nat):Int)-((0:Nat):Int)=Builtin.Range.rangeSize lo hi 1:=by rw[rangeSize_one];split<;>omega
   show IsRangeIter _ _ (lo+((0:Nat):Int)*1) ((((hi-lo).toNat:Nat):Int)-((0:Nat):Int)) 1;rw[e1,e2];exact dz _ rfl
 . have e:b=(s.heap.push { cls:=.type "range",data:=.fields #[.int lo t,.int hi u,.int 1 v] }).objs.size:=by simpa using hb
   subst e;exact I1.fE (ba _) (I1.ar.fresh (ba _))
def WU(ta:TA):TI:=λσ H R=>ta σ H λvs H1=>∃j:Int,vs= [.int j]/\-(2 ^ 62)<=j/\j<2 ^ 62/\R (pQ 0 j.toNat) H1
noncomputable def WT (ta:TA):TI:=λσ H R=>ta σ H λvs H1=>∃i j:Int,vs= [.int i,.int j]/\(-(2 ^ 62)<=i/\i<2 ^ 62/\-(2 ^ 62)<=j/\j<2 ^ 62)/\R (pQ i (j-i).toNat) H1
theorem Pt{a:Expr}{ta:TA}{p pos:Pos}(hg:Gl X "range")(hm:X.mg "range" =none)(ha:PA X [a] ta)(hs:starEach [a] X.env= [(false,eval a X.env)]:=by rfl):PI X tg (.Call (.Name "range" p) [a] [] pos) (WU ta):=by
 intro pins s σ H R I h;refine Call_ (sS I hg hm boot_range (AE (aB (ha pos pins s σ H _ I h) λus s1 zz=>?_) hs rfl));obtain⟨vs,H1,I1,r1,q1⟩:=zz
 obtain⟨j,e,q1,q2,q⟩:=q1;subst e;cases r1 with
 |cons r rr=>
  cases rr;obtain⟨t,rfl⟩:=r;exact call_range_1 (Dn I1 ∅ ∅ q1 q2 (by simpa using q))
theorem Pr{a b:Expr}{ta:TA}{p pos:Pos}(hg:Gl X "range")(hm:X.mg "range" =none)(ha:PA X [a,b] ta)(hs:starEach [a,b] X.env= [(false,eval a X.env),(false,eval b X.env)]:=by rfl)(hs2:starEach [b] X.env= [(false,eval b X.env)]:=by rfl):
 PI X tg (.Call (.Name "range" p) [a,b] [] pos) (WT ta):=by
 intro pins s σ H R I h;refine Call_ (sS I hg hm boot_range (AE (aB (ha pos pins s σ H _ I h) λus s1 zz=>?_) (by rw[hs,hs2]) (by rw[hs2];rfl)));obtain⟨vs,H1,I1,r1,q1⟩:=zz
 obtain⟨i,j,e,⟨q1,q2,q3,q4⟩,q⟩:=q1;subst e;cases r1 with
 |cons r rr=>
  cases rr with
  |cons r' rr=>
   cases rr;obtain⟨t,rfl⟩:=r;obtain⟨t',rfl⟩:=r';exact call_range_2 (Dn I1 q1 q2 q3 q4 q)
noncomputable def MG (wi:TI)(g:TG)(tb:TS):TS:=λD σ H=>wi σ H λJ H1=>∃W:Nat->Nat->St->Hp->Prop,(∃m,W 0 m σ H1)/\∀i m σ H,W i m σ H->
 (J.stop i H/\D.nx σ H)∨(J.go i H/\∃N:St->Hp->Prop,(∀σ' H',N σ' H'->∃m',m'<m/\W (i+1) m' σ' H')/\∀x H',J.AH i H x H'->g x σ H' λσ2 H2=>tb { D with nx:=N,ct:=N,bk:=D.nx } σ2 H2)
noncomputable def mr (fp:List Addr)(h:Heap):aF:=fp.filterMap λb=>(h.get? b).map λo=>(b,o)
theorem yF{fp:List Addr}{h:Heap}{b:Addr}{o:Obj}(hb:b∈fp)(e:h.get? b=some o):(b,o)∈mr fp h:=List.mem_filterMap.mpr ⟨b,hb,by rw[e];rfl⟩
theorem C6{fp:List Addr}{h:Heap}{p:Addr×Obj}(hp:p∈mr fp h):p.1∈fp/\h.get? p.1=some p.2:=by
 obtain⟨b,hb,e⟩:=List.mem_filterMap.mp hp;cases q:h.get? b with
 |none=>rw[q]at e;cases e
 |some o=>
  rw[q]at e;have e':(b,o)=p:=de e;subst e';exact⟨hb,q⟩
theorem Inv.pinned{pins:aF}{σ:St}{H:Hp}{s:Shared}{fp:List Addr}(I:Inv X pins σ H s)(hf:∀b∈fp,jb X pins H b)(ho:∀b∈fp,∃o,s.heap.get? b=some o/\∀v,o.data≠.cell v):Inv X (pins++mr fp s.heap) σ H s:=
 I.dw λp hp=>(jH.mp hp).elim (λz=>I.pin p (gA _ z)) λz=>by
  obtain⟨hb,e⟩:=C6 z;obtain⟨f0,f1,f2,_⟩:=hf p.1 hb;obtain⟨o,e',d⟩:=ho p.1 hb;rw[e]at e';cases e';exact⟨e,f0,f1,f2,d⟩
theorem Inv.cJ{pins pl:aF}{σ:St}{H:Hp}{s:Shared}(I:Inv X (pins++pl) σ H s):Inv X pins σ H s:=I.dw λp hp=>I.pin p (gA _ (qI _ hp))
theorem TC{iter:Expr}{body:List Stmt}{wi:TI}{g:TG}{tb:TS}{pos:Pos}(hp:PassesOwn (model X.prog X.w) X.A X.env X.xe)(hc:X.calm=true)(hi:PI X tg iter wi)(hg:PG X tg g)(hb:eX X body tb)
 (hs:∀x,foldedSetIterable iter X.env x=pure x:=by intro _;rfl):PS X (.For tg iter body [] pos) (MG wi g tb):=by
 intro pins s σ H D I h;refine wpAny_For (aB (hi pins s σ H _ I h) λv s1 h1=>aB h1 λitv s2 h2=>?_) hs
 obtain⟨it,fp,tn,J,H2,e,I2,T,st2,f2,W,⟨m0,w0⟩,turn⟩:=h2;subst e;have stat:∀{H':Hp},(∀b∈fp,H' b=none)->∀b∈fp,jb X pins H' b:=λhn b hb=>⟨hn b hb,(f2 b hb).2⟩
 refine codeAny_forLoop_any (λn s'=>∃i σ' H',Inv X pins σ' H' s'/\tn i s'.heap/\(∀b∈fp,H' b=none)/\W i n σ' H') ?_ m0 ⟨0,σ,H2,I2,st2,λb hb=>(f2 b hb).1,w0⟩
 rintro n s3 ⟨i,σ3,H3,I3,st3,fr3,w3⟩;rcases turn i n σ3 H3 w3 with⟨stop,qn⟩|⟨go,N,hN,step⟩
 . refine wpAny_passesOwn hp (aB (T.done X rfl rfl rfl hc i pins s3 σ3 H3 X.xe I3 (stat fr3) st3 stop) λr s4 zz=>?_);obtain⟨hr,I4⟩:=zz
   subst hr;exact wpAny_execs_nil ⟨σ3,H3,I4,qn⟩
 . refine wpAny_passesOwn hp (aB (T.item X rfl rfl rfl hc i pins s3 σ3 H3 X.xe I3 (stat fr3) st3 go) λr s4 zz=>?_);obtain⟨u,hr,h4⟩:=zz
   subst hr;refine wpAny_passesOwn hp (aB h4 λ_ s5 zz=>?_);obtain⟨x,H5,I5,r5,y5,st5,fr5⟩:=zz
   have I5':=I5.pinned (stat fr5) (T.obj _ _ st5);refine wpAny_passesOwn hp (aB (hg _ s5 σ3 H5 x u _ I5' r5 (step x H5 y5)) λ_ s6 zz=>?_);obtain⟨σ6,H6,I6,q6⟩:=zz
   refine wpAny_passesOwn hp (aB (hb _ s6 σ6 H6 _ I6 q6) λf s7 q7=>?_)
   have again:∀{σ7:St} {H7:Hp},Inv X (pins++mr fp s5.heap) σ7 H7 s7->N σ7 H7->∃m,m<n/\∃i σ' H',Inv X pins σ' H' s7/\tn i s7.heap/\(∀b∈fp,H' b=none)/\W i m σ' H':=λ{σ7 H7} I7 n7=>by
    obtain⟨m',hm,w7⟩:=hN σ7 H7 n7;refine⟨m',hm,i+1,σ7,H7,I7.cJ,T.keep _ _ _ st5 λb hb o e=>(I7.pin (b,o) (gA _ (gA _ (yF hb e)))).1,λb hb=>?_,w7⟩
    obtain⟨o,e,d⟩:=T.obj _ _ st5 b hb;exact(I7.pin (b,o) (gA _ (gA _ (yF hb e)))).2.1
   cases f with
   |next=>obtain⟨σ7,H7,I7,n7⟩:=q7;exact again I7 n7
   |cont=>obtain⟨σ7,H7,I7,n7⟩:=q7;exact again I7 n7
   |brk=>obtain⟨σ7,H7,I7,q7⟩:=q7;exact⟨σ7,H7,I7.cJ,q7⟩
   |ret v=>obtain⟨x7,σ7,H7,I7,r7,q7⟩:=q7;exact⟨x7,σ7,H7,I7.cJ,r7,q7⟩
end
abbrev R2:=V->V->Hp->VK->Prop
def cN(X:Cx)(f:Value->Value->Sem Value)(r:R2):Prop:=
 ∀(pins:aF) (s:Shared) (σ:St) (H:Hp) (x y:V) (v u:Value) (Q:VK),Inv X pins σ H s->RelV x v->RelV y u->r x y H Q->
  wpAny (model X.prog X.w) X.A (f v u) (EP X pins σ Q) X.xe s
def AV(X:Cx)(f:Value->Sem Value)(r:V->Hp->VK->Prop):Prop:=
 ∀(pins:aF) (s:Shared) (σ:St) (H:Hp) (x:V) (v:Value) (Q:VK),Inv X pins σ H s->RelV x v->r x H Q->
  wpAny (model X.prog X.w) X.A (f v) (EP X pins σ Q) X.xe s
def cV(X:Cx)(f:Value)(r:LV->Hp->VK->Prop):Prop:=
 ∀(pins:aF) (s:Shared) (σ:St) (H:Hp) (xs:LV) (us:ao) (Q:VK),Inv X pins σ H s->Vals xs us->r xs H Q->
  wpAny (model X.prog X.w) X.A (call f us) (EP X pins σ Q) X.xe s
def qG(r:R2)(ta tb:TE):TE:=λσ H Q=>ta σ H λx H1=>tb σ H1 λy H2=>r x y H2 Q
def Ky(r:V->Hp->VK->Prop)(ta:TE):TE:=λσ H Q=>ta σ H λx H1=>r x H1 Q
def rI(C:Int->Int->Prop)(g:Int->Int->V):R2:=λx y H Q=>∃i j,x= .int i/\y= .int j/\C i j/\Q (g i j) H
def mM(g:Int->Int->V):R2:=λx y H Q=>∃i j,x= .int i/\y= .int j/\Q (g i j) H
section
variable {X:Cx}{a b c:Expr}{ta tb tc:TE}{pos:Pos}
theorem Am(ha:PE X a ta)(hb:PE X b tb){pins:aF}{s:Shared}{σ:St}{H:Hp}{R:V->V->Hp->Prop}(I:Inv X pins σ H s)
 (h:ta σ H λx H1=>tb σ H1 λy H2=>R x y H2) {Q:aP} {f:Value->Value->Sem Value}
 (hf:∀v u s2 x y H2,Inv X pins σ H2 s2->RelV x v->RelV y u->R x y H2->wpAny (model X.prog X.w) X.A (f v u) Q X.xe s2):
 wpAny (model X.prog X.w) X.A (eval a X.env) (λv s₁=>wpAny (model X.prog X.w) X.A (eval b X.env) (λu s₂=>wpAny (model X.prog X.w) X.A (f v u) Q X.xe s₂) X.xe s₁) X.xe s:=by
 refine aB (ha pins s σ H _ I h) λv s1 zz=>?_;obtain⟨x,H1,I1,r1,q1⟩:=zz
 refine aB (hb pins s1 σ H1 _ I1 q1) λu s2 zz=>?_;obtain⟨y,H2,I2,r2,q2⟩:=zz
 exact hf v u s2 x y H2 I2 r1 r2 q2
theorem V6{op:Operator}{r:R2}(ho:cN X (binaryOp op) r)(ha:PE X a ta)(hb:PE X b tb):PE X (.BinOp a op b pos) (qG r ta tb):=by
 intro pins s σ H Q I h;exact wpAny_BinOp (Am ha hb I h λv u s2 x y H2 I2 rx ry q=>ho pins s2 σ H2 x y v u Q I2 rx ry q)
theorem V4{op:UnaryOp}{r:V->Hp->VK->Prop}(ho:AV X (unaryOp op) r)(ha:PE X a ta):PE X (.UnaryOp op a pos) (Ky r ta):=by
 intro pins s σ H Q I h;exact UnaryOp_ (aB (ha pins s σ H _ I h) λv s1 ⟨x,H1,I1,r1,q1⟩=>ho pins s1 σ H1 x v Q I1 r1 q1)
theorem uE{f:Value->Value->Sem Value}{C:Int->Int->Prop}{g:Int->Int->Int}
 (rule:∀(i j:Int) (t u:Tok) (s:Shared) (Q:aP) (E:aP),C i j->Q (.int (g i j) s.toks) { s with toks:=s.toks+1 }->wpAny (model X.prog X.w) X.A (f (.int i t) (.int j u)) Q E s):
 cN X f (rI C λi j=>.int (g i j)):=by
 intro pins s σ H x y v u Q I rx ry h;obtain⟨i,j,rfl,rfl,hc,q⟩:=h;obtain⟨t,rfl⟩:=rx;obtain⟨t',rfl⟩:=ry;exact rule i j t t' s _ _ hc ⟨.int (g i j),H,I.tok _,⟨_,rfl⟩,q⟩
theorem JJ{f:Value->Value->Sem Value}{g:Int->Int->Int}
 (rule:∀(i j:Int) (t u:Tok) (s:Shared) (Q:aP) (E:aP),Q (.int (g i j) s.toks) { s with toks:=s.toks+1 }->wpAny (model X.prog X.w) X.A (f (.int i t) (.int j u)) Q E s):
 cN X f (mM λi j=>.int (g i j)):=by
 intro pins s σ H x y v u Q I rx ry h;obtain⟨i,j,rfl,rfl,q⟩:=h;obtain⟨t,rfl⟩:=rx;obtain⟨t',rfl⟩:=ry;exact rule i j t t' s _ _ ⟨.int (g i j),H,I.tok _,⟨_,rfl⟩,q⟩
theorem xg{f:Value->Value->Sem Value}{g:Int->Int->Bool}
 (rule:∀(i j:Int) (t u:Tok) (s:Shared) (Q:aP) (E:aP),Q (.bool (g i j)) s->wpAny (model X.prog X.w) X.A (f (.int i t) (.int j u)) Q E s):
 cN X f (mM λi j=>.bl (g i j)):=by
 intro pins s σ H x y v u Q I rx ry h;obtain⟨i,j,rfl,rfl,q⟩:=h;obtain⟨t,rfl⟩:=rx;obtain⟨t',rfl⟩:=ry;exact rule i j t t' s _ _ ⟨.bl (g i j),H,I,rfl,q⟩
def Nw(i j:Int):Prop:=0<j/\j<1073741824
def Nu(i j:Int):Prop:=0<=j/\j<=1000000/\i.natAbs<2 ^ 64
def gB(i j:Int):Prop:=(-(2 ^ 64)<i/\i<2 ^ 64)∨(-(2 ^ 64)<j/\j<2 ^ 64)
theorem gB.ok{i j:Int}(h:gB i j):IntMulOk i j:=by
 rcases h with⟨h1,h2⟩|⟨h1,h2⟩
 . exact .of_left (intBits_le_64 h1 h2)
 . exact .of_right (intBits_le_64 h1 h2)
theorem UN:cN X (binaryOp .Add) (mM λi j=>.int (i+j)):=JJ λ_ _ _ _ _ _ _ q=>add_int q
theorem Tq:cN X (binaryOp .Sub) (mM λi j=>.int (i-j)):=JJ λ_ _ _ _ _ _ _ q=>sub_int q
theorem UK:cN X (binaryOp .Mult) (rI gB λi j=>.int (i*j)):=uE λ_ _ _ _ _ _ _ hc q=>mul_int q hc.ok
theorem Sx:cN X (binaryOp .FloorDiv) (rI Nw λi j=>.int (i / j)):=uE λi j _ _ _ _ _ hc q=>by
 have h1:(0:Int)<j:=hc.1;have h2:j<1073741824:=hc.2;exact floordiv_int ∅ (by rw[Int.fdiv_eq_ediv_of_nonneg i ∅];exact q) (.inl (PyProof.noPylong_small ∅))
theorem UL:cN X (binaryOp .Mod) (rI (λ_ j=>0<j) λi j=>.int (i % j)):=uE λi j _ _ _ _ _ hc q=>by
 have h1:(0:Int)<j:=hc;exact mod_int' ∅ (by rw[Int.fmod_eq_emod_of_nonneg i ∅];exact q)
theorem Ts:cN X (binaryOp .Pow) (rI Nu λi j=>.int (i ^ j.toNat)):=uE λ_ _ _ _ _ _ _ hc q=>pow_int_small hc.1 hc.2.1 hc.2.2 q
theorem Er{pins:aF}{σ:St}{H:Hp}{s:Shared}{Q:VK}{k k':Bool}(I:Inv X pins σ H s)(q:Q (.bl k) H)(e:k=k'):EP X pins σ Q (.bool k') s:=by
 subst e;exact⟨.bl k,H,I,rfl,q⟩
theorem We:cN X (compareOp .Lt) (mM λi j=>.bl (decide (i<j))):=xg λ_ _ _ _ _ _ _ q=>lt_int q
theorem Wf:cN X (compareOp .LtE) (mM λi j=>.bl (decide (i<=j))):=xg λ_ _ _ _ _ _ _ q=>le_int q
theorem Wg:cN X (compareOp .Gt) (mM λi j=>.bl (decide (j<i))):=xg λ_ _ _ _ _ _ _ q=>gt_int q
theorem Wh:cN X (compareOp .GtE) (mM λi j=>.bl (decide (j<=i))):=xg λ_ _ _ _ _ _ _ q=>ge_int q
theorem UM:cN X (compareOp .Is) (λx y H Q=>y= .au/\Q (.bl (decide (x= .au))) H):=by
 intro pins s σ H x y v u Q I rx ry h;obtain⟨rfl,q⟩:=h;cases ry;refine is_none_gen (Er I q ?_);cases x<;>first
  |(cases rx;rfl)
  |(obtain⟨t,rfl⟩:=rx;rfl)
theorem Sw:cN X (compareOp .IsNot) (λx y H Q=>y= .au/\Q (.bl (!decide (x= .au))) H):=by
 intro pins s σ H x y v u Q I rx ry h;obtain⟨rfl,q⟩:=h;cases ry;refine isnot_none_gen (Er I q ?_);cases x<;>first
  |(cases rx;rfl)
  |(obtain⟨t,rfl⟩:=rx;rfl)
theorem qnI(b:Expr){op:CmpOp}(h:op≠.In:=by decide)(h2:op≠.NotIn:=by decide):behindInMarks op b=false:=by
 have e1:(op==CmpOp.In)=false:=by cases op<;>first|rfl|exact bp rfl h
 have e2:(op==CmpOp.NotIn)=false:=by cases op<;>first|rfl|exact bp rfl h2
 cases b<;>simp[behindInMarks,e1,e2]
theorem D2{op:CmpOp}{r:R2}(ho:cN X (compareOp op) r)(ha:PE X a ta)(hb:PE X b tb)(hm:behindInMarks op b=false):PE X (.Compare a [op] [b] pos) (qG r ta tb):=by
 intro pins s σ H Q I h;exact wpAny_Compare1 (Am ha hb I h λv u s2 x y H2 I2 rx ry q=>ho pins s2 σ H2 x y v u Q I2 rx ry q) hm
def Fs(t:TE):TT:=λσ H Q=>t σ H λx H'=>∃k,x= .bl k/\Q k H'
theorem DY{op:CmpOp}{r:R2}(ho:cN X (compareOp op) r)(ha:PE X a ta)(hb:PE X b tb)(hm:behindInMarks op b=false):PT X (.Compare a [op] [b] pos) (Fs (qG r ta tb)):=by
 intro pins s σ H Q I h;refine wpAny_isTrue_Compare1 (aB (ha pins s σ H _ I h) λv s1 ⟨x,H1,I1,r1,q1⟩=>aB (hb pins s1 σ H1 _ I1 q1) λu s2 ⟨y,H2,I2,r2,q2⟩=>
  aB (ho pins s2 σ H2 x y v u _ I2 r1 r2 q2) λc s3 ⟨z,H3,I3,r3,k,e,q3⟩=>?_) hm
 subst e;cases r3;exact jG ⟨H3,I3,q3⟩
noncomputable def zj (r r':R2)(ta tb tc:TE):TE:=λσ H Q=>ta σ H λx H1=>tb σ H1 λy H2=>r x y H2 λz H3=>∃k,z= .bl k/\
 (if k=true then tc σ H3 λw' H4=>r' y w' H4 Q else Q (.bl false) H3)
theorem Q6{op op':CmpOp}{r r':R2}(ho:cN X (compareOp op) r)(ho':cN X (compareOp op') r')(ha:PE X a ta)(hb:PE X b tb)(hc:PE X c tc)
 (hm:lastMarks [op,op'] [b,c]=false:=by with_unfolding_all rfl):PE X (.Compare a [op,op'] [b,c] pos) (zj r r' ta tb tc):=by
 intro pins s σ H Q I h;refine Compare_chain (aB (ha pins s σ H _ I h) λv s1 ⟨x,H1,I1,r1,q1⟩=>chain_link (aB (hb pins s1 σ H1 _ I1 q1) λu s2 ⟨y,H2,I2,r2,q2⟩=>
  aB (ho pins s2 σ H2 x y v u _ I2 r1 r2 q2) λd s3 ⟨z,H3,I3,r3,k,e,q3⟩=>?_)) hm
 subst e;cases r3;refine jG ?_;cases k with
 |false=>exact ite_ff ⟨.bl false,H3,I3,rfl,q3⟩
 |true=>exact ite_tt (chain_last (aB (hc pins s3 σ H3 _ I3 q3) λw' s4 ⟨z',H4,I4,r4,q4⟩=>ho' pins s4 σ H4 y z' u w' Q I4 r2 r4 q4))
theorem QT{op op':CmpOp}{r r':R2}(ho:cN X (compareOp op) r)(ho':cN X (compareOp op') r')(ha:PE X a ta)(hb:PE X b tb)(hc:PE X c tc)
 (hm:lastMarks [op,op'] [b,c]=false:=by with_unfolding_all rfl):PT X (.Compare a [op,op'] [b,c] pos) (Fs (zj r r' ta tb tc)):=by
 intro pins s σ H Q I h;refine isTrue_chain (aB (ha pins s σ H _ I h) λv s1 ⟨x,H1,I1,r1,q1⟩=>test_link (aB (hb pins s1 σ H1 _ I1 q1) λu s2 ⟨y,H2,I2,r2,q2⟩=>
  aB (ho pins s2 σ H2 x y v u _ I2 r1 r2 q2) λd s3 ⟨z,H3,I3,r3,k,e,q3⟩=>?_)) hm
 subst e;cases r3;refine jG ?_;cases k with
 |false=>
  obtain⟨k',e',q'⟩:=q3;cases e';exact ite_ff ⟨H3,I3,q'⟩
 |true=>
  refine ite_tt (test_last (aB (hc pins s3 σ H3 _ I3 q3) λw' s4 ⟨z',H4,I4,r4,q4⟩=>aB (ho' pins s4 σ H4 y z' u w' _ I4 r2 r4 q4) λd' s5 zz=>?_));obtain⟨z2,H5,I5,r5,k2,e2,q5⟩:=zz
  subst e2;cases r5;exact jG ⟨H5,I5,q5⟩
theorem qk:(sizeLine:Nat)<2 ^ 63:=by rw[sizeLine_eq];decide
theorem Ox:cN X (binaryOp .Add) (λx y H Q=>∃i j,x= .str i/\y= .str j/\i.length+j.length<=sizeLine/\Q (.str (i++j)) H):=by
 intro pins s σ H x y v u Q I rx ry h;obtain⟨i,j,rfl,rfl,hz,q⟩:=h;obtain⟨t,rfl⟩:=rx;obtain⟨t',rfl⟩:=ry;exact add_str (λt' tk=>⟨.str (i++j),H,I.tok _,⟨_,rfl⟩,q⟩) hz
theorem vals1{x:V}{us:ao}(r:Vals [x] us):∃u,us= [u]/\RelV x u:=by
 cases r with
 |cons r1 r2=>cases r2;exact⟨_,rfl,r1⟩
theorem vals2{x y:V}{us:ao}(r:Vals [x,y] us):∃u w',us= [u,w']/\RelV x u/\RelV y w':=by
 cases r with
 |cons r1 r2=>
  cases r2 with
  |cons r3 r4=>cases r4;exact⟨_,_,rfl,r1,r3⟩
theorem Qg(hc:X.calm=true):cV X (.builtin "max") (λxs H Q=>∃i j,xs= [.int i,.int j]/\Q (.int (if j > i then j else i)) H):=by
 intro pins s σ H xs us Q I r h;obtain⟨i,j,rfl,q⟩:=h;obtain⟨u,w',rfl,⟨t,rfl⟩,⟨t',rfl⟩⟩:=vals2 r;refine max_two_ints (I.ok.hd hc) λh' tk k=>⟨_,H,I.kept k,?_,q⟩
 by_cases hj:j > i
 . rw[az hj,az hj];exact⟨_,rfl⟩
 . rw[aj hj,aj hj];exact⟨_,rfl⟩
theorem Qf(hc:X.calm=true):cV X (.builtin "min") (λxs H Q=>∃i j,xs= [.int i,.int j]/\Q (.int (if j<i then j else i)) H):=by
 intro pins s σ H xs us Q I r h;obtain⟨i,j,rfl,q⟩:=h;obtain⟨u,w',rfl,⟨t,rfl⟩,⟨t',rfl⟩⟩:=vals2 r;refine min_two_ints (I.ok.hd hc) λh' tk k=>⟨_,H,I.kept k,?_,q⟩
 by_cases hj:j<i
 . rw[az hj,az hj];exact⟨_,rfl⟩
 . rw[aj hj,aj hj];exact⟨_,rfl⟩
theorem Ri:cV X (.builtin "ord") (λxs H Q=>∃x,xs= [.str x]/\x.length=1/\Q (.int (x.cps.getD 0 0:Nat)) H):=by
 intro pins s σ H xs us Q I r h;obtain⟨x,rfl,hz,q⟩:=h;obtain⟨u,rfl,t,rfl⟩:=vals1 r;exact ord_of_one hz ⟨.int _,H,I.tok _,⟨_,rfl⟩,q⟩
end
structure fZ(h:Heap)(x dx C:Addr)(mA:aU):Prop where
 obj:h.get? x=some (mX C dx)
 ns:h.Ns1 dx mA
 ne:dx≠x
theorem PD{h:Heap}{dx:Addr}{mA:aU}(n:h.Ns1 dx mA):∃od,h.get? dx=some od/\∀name,PySem.W.lookIn name od=some (mA name):=by
 obtain⟨o,es,ep,ho,hd,hk,_,hm⟩:=n;refine⟨o,ho,λname=>?_⟩
 have e:=hm name;unfold nsFind findBy at e;rw[<-Array.find?_toList]at e;unfold PySem.W.lookIn;rw[hd];dsimp only;split
 . rename_i y q
   rw[q]at e;exact congrArg some e
 . rename_i q
   rw[q]at e;have a:es.toList.any (·.refKey)=false:=by
    rw[List.any_eq_false];intro y hy;obtain⟨z,t,hkey⟩:=hk y (Array.mem_toList_iff.mp hy);simp[DictEntry.refKey,hkey]
   have a':¬es.toList.any (·.refKey)=true:=by rw[a];exact gZ
   rw[aj a'];exact congrArg some e
theorem fZ.look{h:Heap}{x dx C:Addr}{mA:aU}(I:fZ h x dx C mA):∃od,PySem.W.InstAt h x (mX C dx) C (some od)/\∀name,PySem.W.lookIn name od=some (mA name):=
 let⟨od,ho,hl⟩:=PD I.ns
 ⟨od,⟨I.obj,rfl,rfl,ho⟩,hl⟩
section
variable {prog:Program}{w:World}{A:Around}{E:aP}{s:Shared}{K:ag}{x dx C f:Addr}{mA:aU}{name:Str}{v:Value}
theorem get_map{expr:Bool}{Q:aP}(X:K.In s.heap)(I:fZ s.heap x dx C mA)(hg:t9 K C name=true)(hh:xF K C=true)
 (ha:PySem.W.findIn K (.ref C) name=some none) (hv:mA name=some v) (hv':PySem.W.handedIn v=true) (h:Q v { s with toks:=s.toks+1 }):
 wpAny (model prog w) A (getAttr (.ref x) name expr) Q E s:=by
 obtain⟨od,J,hl⟩:=I.look;exact PySem.W.get_value X J (PySem.W.plainGet_of hg).1 (PySem.W.findObj_own hh ha rfl (by rw[hl,hv])) hv' h
theorem QF{pl:Sem Bool}{Q:Value×ao->Shared->Prop}(X:K.In s.heap)(I:fZ s.heap x dx C mA)(hg:t9 K C name=true)
 (hf:PySem.W.findIn K (.ref C) name=some (some (.ref f))) (ht:PySem.W.isFn K (.ref f)=true) (hv:mA name=none) (h:Q (.ref f,[.ref x]) s):
 wpAny (model prog w) A (getMethod (.ref x) name pl) Q E s:=by
 obtain⟨od,J,hl⟩:=I.look;exact PySem.W.method_fn X J (PySem.W.plainGet_of hg).1 (PySem.W.plainGet_of hg).2 hf (eW.mp ht) (by show(PySem.W.lookIn name od).map (·.isSome)=some false;rw[hl,hv];rfl) h
theorem RB{ns:ay}{Q:Unit->Shared->Prop}(X:K.In s.heap)(I:fZ s.heap x dx C mA)
 (hs:PySem.W.findIn K (.ref C) "__setattr__" =some (some (.builtin "object.__setattr__"))) (hp:PySem.W.plainOver K C=true) (ht:PySem.W.takerIn K C name=some none) (hh:xF K C=true)
 (hw:PySem.Within mA ns) (hsz:ns.length<=sizeLine)
 (h:∀h',fZ h' x dx C (λy=>if y=name then some v else mA y)->Heap.SameBut dx s.heap h'->Q () { s with heap:=h',toks:=s.toks+2 }):
 wpAny (model prog w) A (setAttr (.ref x) name v) Q E s:=by
 obtain⟨od,J,hl⟩:=I.look;refine PySem.W.set_plain X J hs (PySem.W.osa_open (s:={ s with toks:=s.toks+1 }) (r:=none) X J hp ht λb=>?_)
 obtain⟨cd,hc,hd'⟩:=PySem.W.any_some hh;have hx:s.heap.get? x=some ⟨.ref C,some dx,.plain,#[]⟩:=I.obj;refine ak (aR (ak (ak (wpAny_loadPart hx (ak (PySem.W.Looks.here (s:={ s with toks:=s.toks+1 }) (PySem.W.looks_clsIn X hc) ?_))))))
 rw[hd'];refine aR (a:=some dx) (ak (aR (ak ?_)));refine wpAny_nsSet1 (s:={ s with toks:=s.toks+1 }) I.ns λh' hn2 hs2=>?_
 obtain⟨oD,esD,epD,hoD,hdD,hcD⟩:=hn2.count (PySem.Within.cons name v hw);refine ak (wpAny_lookBehind hoD (by rw[hdD];exact pastItsLine_dict (c6 hcD (by rw[dc];omega))) ?_)
 exact aR (h _ ⟨(hs2.2 _ (d9 I.ne)).trans I.obj,hn2,I.ne⟩ hs2)
theorem Qq{R:Result->Shared->Prop}{vs:ao}{kw:List (Str×Value)}(X:K.In s.heap)(hm:PySem.W.makesIn K C=true)
 (hi:PySem.W.findIn K (.ref C) "__init__" =some (some (.ref f))) (hf:PySem.W.typeIn K (.ref f)=some (.type "function"))
 (h:codeAny (model prog w) (A.under (.builtin "type.__call__" ⟨.ref C::vs,kw⟩)) (.call (.ref f) ⟨.ref (s.heap.objs.size+1)::vs,kw⟩) (PySem.W.InitBack (s.heap.objs.size+1) R)
  { s with heap:=(s.heap.push lG).push (mX C s.heap.objs.size) }):
 codeAny (model prog w) A (.call (.ref C) ⟨vs,kw⟩) R s:=by
 obtain⟨hh,g,d,t,os⟩:=s;exact PySem.W.make_core (PySem.W.makes_of X hm) (PySem.W.looks_findIn X hi) (λself=>PySem.W.bind_fn X self hf) (.inl rfl) h
end
noncomputable def ez (f:Str)(v:V):List (Str×V)->List (Str×V)
 | []=>[(f,v)]
 |(g,x)::r=>if g=f then(g,v)::r else(g,x)::ez f v r
theorem Cd(f g:Str)(v:V):∀fs:List (Str×V),(ez f v fs).lookup g=if g=f then some v else fs.lookup g
 | []=>by
  show List.lookup g [(f,v)]=_
  by_cases h:g=f
  . have hb:(g==f)=true:=eW.mpr h
    simp only[List.lookup,hb,az h]
  . have hb:(g==f)=false:=mW.mpr h
    simp only[List.lookup,hb,aj h]
 |(k,x)::r=>by
  have ih:=Cd f g v r;rw[show ez f v ((k,x)::r)=(if k=f then(k,v)::r else(k,x)::ez f v r)from rfl]
  by_cases hk:k=f
  . rw[az hk]
    by_cases h:g=k
    . have hb:(g==k)=true:=eW.mpr h
      simp only[List.lookup,hb,az (h.trans hk)]
    . have hb:(g==k)=false:=mW.mpr h
      simp only[List.lookup,hb,aj (λe:g=f=>h (e.trans hk.symm))]
  . rw[aj hk]
    by_cases h:g=k
    . have hb:(g==k)=true:=eW.mpr h
      simp only[List.lookup,hb,aj (λe:g=f=>hk (h.symm.trans e))]
    . have hb:(g==k)=false:=mW.mpr h
      simp only[List.lookup,hb];exact ih
theorem yJ(f:Str)(v:V):∀fs:List (Str×V),f∈(ez f v fs).map (·.1)/\∀g,g∈fs.map (·.1)->g∈(ez f v fs).map (·.1)
 | []=>⟨by simp[ez],λg h=>by simp at h⟩
 |(k,x)::r=>by
  obtain⟨i1,i2⟩:=yJ f v r;rw[show ez f v ((k,x)::r)=(if k=f then(k,v)::r else(k,x)::ez f v r)from rfl]
  by_cases hk:k=f
  . rw[az hk]
    subst hk;exact⟨by simp,λg h=>by simpa using h⟩
  . rw[aj hk]
    refine⟨?_,λg h=>?_⟩
    . rw[cK]
      exact fM _ i1
    . rw[cK]at h ⊢
      rcases cM.mp h with e|e
      . exact cM.mpr (.inl e)
      . exact fM _ (i2 g e)
theorem Cg(f:Str)(v:V):∀fs:List (Str×V),(ez f v fs).length<=fs.length+1
 | []=>by simp[ez]
 |(k,x)::r=>by
  have ih:=Cg f v r;rw[show ez f v ((k,x)::r)=(if k=f then(k,v)::r else(k,x)::ez f v r)from rfl]
  by_cases hk:k=f
  . rw[az hk,dc,dc];omega
  . rw[aj hk,dc,dc];omega
theorem bG.some_of{v:V}{o:bU}(r:bG (some v) o):∃u,o=some u/\RelV v u:=by
 cases o with
 |none=>exact(show False from r).elim
 |some u=>exact⟨u,rfl,r⟩
theorem bG.none_of{o:bU}(r:bG none o):o=none:=by
 cases o with
 |none=>rfl
 |some u=>exact(show False from r).elim
theorem Pj{v:V}{u:Value}(r:RelV v u):PySem.W.handedIn u=true:=by
 cases v with
 |au=>cases(show u=Value.none from r);rfl
 |bl b=>cases(show u=Value.bool b from r);rfl
 |int i=>obtain⟨t,e⟩:=(show ∃t,u=Value.int i t from r);cases e;rfl
 |str x=>obtain⟨t,e⟩:=(show ∃t,u=Value.str x t from r);cases e;rfl
 |uh b=>obtain⟨t,e⟩:=(show ∃t,u=Value.bytes b t from r);cases e;rfl
 |kE b=>obtain⟨t,e⟩:=(show ∃t,u=Value.float b t from r);cases e;rfl
 |ref a=>cases(show u=Value.ref a from r);rfl
 |ty n=>cases(show u=Value.type n from r);rfl
section
variable {P:Program}{w:World}{H H':Hp}{h h':Heap}{a C dx:Addr}{fs fs':List (Str×V)}
theorem y3(ar:bL P w H h)(e:H a=some (.ins C dx fs)):∃mA,fZ h a dx C mA/\(∀f,bG (fs.lookup f) (mA f))/\PySem.Within mA (fs.map (·.1))/\fs.length<=1000/\H dx=some (.own a):=by
 obtain⟨d,z,ne,ob,mA,n,r,q⟩:=(show aH P w H h a (.ins C dx fs)from ar a _ e)
 exact⟨mA,⟨ob,n,ne⟩,r,q,z,d⟩
end
structure bN(K:ag)(C:Addr):Prop where
 pg:t9 K C Str.empty=true
 hd:xF K C=true
 po:PySem.W.plainOver K C=true
 sa:PySem.W.findIn K (.ref C) "__setattr__" =some (some (.builtin "object.__setattr__"))
theorem bN.get{K:ag}{C:Addr}(c:bN K C)(f:Str):t9 K C f=true:=c.pg
def bb(K:ag)(C:Addr)(f:Str):Prop:=PySem.W.findIn K (.ref C) f=some none
theorem bb.tV{K:ag}{C:Addr}{f:Str}(n:bb K C f):PySem.W.takerIn K C f=some none:=by
 unfold PySem.W.takerIn;rw[show PySem.W.findIn K (.ref C) f=some none from n]
 rfl
structure Con(K:ag)(C:Addr)(f:Str)(v:V)(u:Value):Prop where
 at_:PySem.W.findIn K (.ref C) f=some (some u)
 rel:RelV v u
 get:PySem.W.specialIn K u "__get__" =some none
 cp:PySem.W.copiedNames.contains f=false
structure Meth(K:ag)(C:Addr)(m:Str)(f:Addr):Prop where
 at_:PySem.W.findIn K (.ref C) m=some (some (.ref f))
 fn:PySem.W.isFn K (.ref f)=true
 kp:PySem.W.keepIn K (.ref f)=true
section
variable {X:Cx}{pins:aF}{σ:St}{H:Hp}{s:Shared}{a C dx:Addr}{fs:List (Str×V)}{f:Str}{v:V}{A:Around}{E:aP}
theorem Cw{b:Bool}{Q:aP}(I:Inv X pins σ H s)(e:H a=some (.ins C dx fs))(c:bN X.K C)(n:bb X.K C f)(l:fs.lookup f=some v)
 (h:∀u s',Inv X pins σ H s'->RelV v u->Q u s'):wpAny (model X.prog X.w) A (getAttr (.ref a) f b) Q E s:=by
 obtain⟨mA,O,r,_,_,_⟩:=y3 I.ar e;obtain⟨u,hu,ru⟩:=bG.some_of (v:=v) (o:=mA f) (by rw[<-l];exact r f)
 exact get_map I.bW O (c.get f) c.hd n hu (Pj ru) (h u _ (I.tok _) ru)
theorem yz{m:Str}{g:Addr}{pl:Sem Bool}{Q:Value×ao->Shared->Prop}(I:Inv X pins σ H s)(e:H a=some (.ins C dx fs))(c:bN X.K C)(k:Meth X.K C m g)(l:fs.lookup m=none)
 (h:Q (.ref g,[.ref a]) s):wpAny (model X.prog X.w) A (getMethod (.ref a) m pl) Q E s:=by
 obtain⟨mA,O,r,_,_,_⟩:=y3 I.ar e;have hn:mA m=none:=bG.none_of (by rw[<-l];exact r m)
 exact QF I.bW O (c.get m) k.at_ k.fn hn h
theorem Cs{y:V}{u:Value}{Q:Unit->Shared->Prop}(I:Inv X pins σ H s)(e:H a=some (.ins C dx fs))(c:bN X.K C)(n:bb X.K C f)(hl:fs.length<1000)(ry:RelV y u)
 (h:∀s',Inv X pins σ (upd H a (.ins C dx (ez f y fs))) s'->Q () s'):wpAny (model X.prog X.w) A (setAttr (.ref a) f u) Q E s:=by
 obtain⟨mA,O,r,wi,_,ho⟩:=y3 I.ar e;have hz:(fs.map (·.1)).length<=sizeLine:=by rw[cb,sizeLine_eq];omega
 refine RB I.bW O c.sa c.po n.tV c.hd wi hz λh' O' sb=>h _ ?_
 have hd:∃o,h'.get? dx=some o:=let⟨o,_,_,e',_⟩:=O'.ns;⟨o,e'⟩;refine I.write (x:=a) (e:=dx) (by rw[e];exact True.intro) (.inr ho) (λb q hb z=>(sb.2 b hb).trans z) hd ?_
 refine⟨by rw[aK O.ne];exact ho,?_,O.ne,O'.obj,_,O'.ns,λg=>?_,λg hg=>?_⟩
 . have:=Cg f y fs;omega
 . show bG ((ez f y fs).lookup g) (if g=f then some u else mA g)
   rw[Cd]
   by_cases q:g=f
   . rw[az q,az q];exact ry
   . rw[aj q,aj q];exact r g
 . by_cases q:g=f
   . rw[q];exact(yJ f y fs).1
   . refine(yJ f y fs).2 g (wi g λz=>hg ?_)
     show(if g=f then some u else mA g)=none
     rw[aj q];exact z
theorem Inv.made(I:Inv X pins σ H s):Inv X pins σ (upd (upd H s.heap.objs.size (.own (s.heap.objs.size+1))) (s.heap.objs.size+1) (.ins C s.heap.objs.size []))
 { s with heap:=(s.heap.push lG).push (mX C s.heap.objs.size) }:=by
 have e1:(s.heap.push lG).get? s.heap.objs.size=some lG:=dz s.heap rfl;have e2:((s.heap.push lG).push (mX C s.heap.objs.size)).get? (s.heap.objs.size+1)=some (mX C s.heap.objs.size):=by
  have:=dz (s.heap.push lG) (o:=mX C s.heap.objs.size) rfl
  rwa [Heap.size_push]at this
 have e3:(s.heap.push lG).Ns s.heap.objs.size (λ_=>none):=⟨lG,#[],_,e1,rfl,(λe he=>bp he (by simp)),λ_=>rfl⟩
 have I1:=I.laid (a:=s.heap.objs.size) (o:=.own (s.heap.objs.size+1)) (h':=s.heap.push lG) (t':=s.toks) (λb u q=>bS _ q) (ba _) ⟨_,e1⟩
 refine I1.laid (a:=s.heap.objs.size+1) (o:=.ins C s.heap.objs.size []) (t':=s.toks) (λb u q=>bS _ q) (Nat.le_of_eq (Heap.size_push _ _)) ?_
 have ne:s.heap.objs.size≠s.heap.objs.size+1:=cx (Nat.lt_succ_self _);refine⟨by rw[aK ne,d6],lQ _,ne,e2,λ_=>none,(Heap.Ns1.of_empty e3).at λo q=>bS _ q,λ_=>True.intro,λy hy=>bp rfl hy⟩
theorem Td{prog:Program}{w:World}{env:Env}{e:Expr}{f:Str}{pos:Pos}{s:Shared}{Q:aP}(hb:attributeBase e f env (eval e env)=eval e env)
 (h:wpAny (model prog w) A (eval e env) (λo s₁=>wpAny (model prog w) A (getAttr o f true) Q E s₁) E s):wpAny (model prog w) A (eval (.Attribute e f pos) env) Q E s:=
 Attribute_any_ h (by rw[arm_eval_Attribute,hb])
end
noncomputable def MH (K:ag)(ta:TE)(f:Str):TE:=λσ H Q=>ta σ H λx H1=>∃a C dx fs v,x= .ref a/\H1 a=some (.ins C dx fs)/\bN K C/\bb K C f/\fs.lookup f=some v/\Q v H1
noncomputable def Me (K:ag)(ta tv:TE)(f:Str):TS:=λD σ H=>tv σ H λy H1=>ta σ H1 λx H2=>∃a C dx fs,x= .ref a/\H2 a=some (.ins C dx fs)/\bN K C/\bb K C f/\fs.length<1000/\
 D.nx σ (upd H2 a (.ins C dx (ez f y fs)))
def BA(X:Cx)(op:Operator)(rd:V->V->Hp->VK->Prop):Prop:=
 ∀(pins:aF) (s:Shared) (σ:St) (H:Hp) (x y:V) (u v:Value) (Q:VK),Inv X pins σ H s->RelV x u->RelV y v->rd x y H Q->wpAny (model X.prog X.w) X.A (inplaceOp op u v) (EP X pins σ Q) X.xe s
noncomputable def RC (K:ag)(ta tv:TE)(rd:V->V->Hp->VK->Prop)(f:Str):TS:=λD σ H=>ta σ H λx H1=>∃a C dx fs v,x= .ref a/\H1 a=some (.ins C dx fs)/\bN K C/\bb K C f/\fs.lookup f=some v/\
 tv σ H1 λy H2=>rd v y H2 λz H3=>∃dx' fs',H3 a=some (.ins C dx' fs')/\fs'.length<1000/\D.nx σ (upd H3 a (.ins C dx' (ez f z fs')))
section
variable {X:Cx}{o e value:Expr}{f:Str}{pos pos' tpos:Pos}{ta tv:TE}
theorem Tj(he:PE X e ta)(hb:attributeBase e f X.env (eval e X.env)=eval e X.env):PE X (.Attribute e f pos) (MH X.K ta f):=by
 intro pins s σ H Q I h;refine Td hb (aB (he pins s σ H _ I h) λu s1 zz=>?_);obtain⟨x,H1,I1,rx,a,C,dx,fs,v,ex,ea,c,n,l,q⟩:=zz
 subst ex;obtain rfl:u=Value.ref a:=rx;exact Cw I1 ea c n l λu' s2 I2 ru=>⟨v,H1,I2,ru,q⟩
theorem TH(ha:PE X o ta)(hv:PE X value tv)(hs:swapsWith value (some (.Attribute o f pos')) pos.line X.env=pure false):PS X (.Assign [.Attribute o f pos'] value pos) (Me X.K ta tv f):=by
 intro pins s σ H D I h;refine plainObj_wpAny_Assign_Attribute (aB (hv pins s σ H _ I h) λu s1 ⟨y,H1,I1,ry,q⟩=>aB (ha pins s1 σ H1 _ I1 q) λov s2 zz=>?_) hs;obtain⟨x,H2,I2,rx,a,C,dx,fs,ex,ea,c,n,l,q2⟩:=zz
 subst ex;obtain rfl:ov=Value.ref a:=rx;exact Cs I2 ea c n l ry λs3 I3=>⟨σ,_,I3,q2⟩
theorem Pp{op:Operator}{rd:V->V->Hp->VK->Prop}(ha:PE X o ta)(hv:PE X value tv)(hop:BA X op rd):PS X (.AugAssign (.Attribute o f tpos) op value pos) (RC X.K ta tv rd f):=by
 intro pins s σ H D I h;refine wpAny_AugAssign_AttributeAny (aB (ha pins s σ H _ I h) λov s1 zz=>?_);obtain⟨x,H1,I1,rx,a,C,dx,fs,v,ex,ea,c,n,l,q⟩:=zz
 subst ex;obtain rfl:ov=Value.ref a:=rx;refine Cw I1 ea c n l λu s2 I2 ru=>aB (hv pins s2 σ H1 _ I2 q) λw3 s3 ⟨y,H2,I3,ry,q3⟩=>aB (hop pins s3 σ H2 v y u w3 _ I3 ru ry q3) λw4 s4 zz=>?_;obtain⟨z,H3,I4,rz,dx',fs',ea',l',q4⟩:=zz
 exact Cs I4 ea' c n l' rz λs5 I5=>⟨σ,_,I5,q4⟩
def xf:V->V->Hp->VK->Prop:=λx y H Q=>∃i j,x= .int i/\y= .int j/\Q (.int (i+j)) H
theorem UJ:BA X .Add xf:=by
 rintro pins s σ H x y u v Q I rx ry ⟨i,j,rfl,rfl,q⟩;obtain⟨t,rfl⟩:=(show ∃t,u=Value.int i t from rx)
 obtain⟨t',rfl⟩:=(show ∃t',v=Value.int j t' from ry)
 exact PyProof.Rows.iadd_int ⟨.int (i+j),H,I.tok _,⟨_,rfl⟩,q⟩
end
section
variable {X:Cx}{pins:aF}{σ:St}{H:Hp}{s:Shared}{A:Around}{E:aP}{Q:aP}{c:Value}{b:Bool}
inductive ja(K:ag)(H:Hp):V->Value->Prop where
 |au:ja K H .au (.type "NoneType")
 |bl (x:Bool):ja K H (.bl x) (.type "bool")
 |int (i:Int):ja K H (.int i) (.type "int")
 |str (x:Str):ja K H (.str x) (.type "str")
 |kE (x:UInt64):ja K H (.kE x) (.type "float")
 |lst {a:Addr} {xs:LV} (e:H a=some (.lst xs)):ja K H (.ref a) (.type "list")
 |aZ {a:Addr} {o:Obj} {xs:LV} (e:H a=some (.aZ o (.lst xs))):ja K H (.ref a) (.type "list")
 |tup {a:Addr} {xs:LV} (e:H a=some (.tup xs)):ja K H (.ref a) (.type "tuple")
 |dK {a:Addr} {kvs:List (Key×V)} (e:H a=some (.dK kvs)):ja K H (.ref a) (.type "dict")
 |dT {a:Addr} {kvs:List (List bC×V)} (e:H a=some (.dT kvs)):ja K H (.ref a) (.type "dict")
 |ins {a C dx:Addr} {fs:List (Str×V)} (e:H a=some (.ins C dx fs)) (cl:bN K C) (ha:PySem.W.findIn K (.ref C) "__class__" =some (some (.builtin "object.__class__")))
  (hn:PySem.W.specialIn K (.builtin "object.__class__") "__get__" =some (some (.builtin "getset_descriptor.__get__"))) (htk:PySem.W.takesIn K (.builtin "object.__class__")=some true)
  (hm:PySem.W.mroIn K C (.type "object")=some true):ja K H (.ref a) (.ref C)
end
structure aI(k:Nat)(A:Around):Prop where
 hd:A.handled=none
 dp:A.depth+3*k+5<recursionLimit
 un:A.units+16*k+200<cLine
theorem aI.mono{j k:Nat}{A:Around}(r:aI k A)(h:j<=k):aI j A:=⟨r.hd,by have:=r.dp;omega,by have:=r.un;omega⟩
theorem aI.deeper{k:Nat}{A:Around}(r:aI (k+1) A)(env:Env):aI k (A.deeper env):=
 ⟨r.hd,by have:=r.dp;show A.depth+1+3*k+5<_;omega,by have:=r.un;show A.units+3+16*k+200<_;omega⟩
theorem OB{A:Around}{C:Addr}{us:ao}{kw:List (Str×Value)}:(A.under (.builtin "type.__call__" ⟨.ref C::us,kw⟩)).depth=A.depth+1:=by
 first|rfl|simp[Around.under,Code.weight,Code.isCreation,Code.isGuard,Code.isCaller,Code.frames,Code.isFrame,guardIds]
theorem OA{A:Around}{C:Addr}{us:ao}{kw:List (Str×Value)}:(A.under (.builtin "type.__call__" ⟨.ref C::us,kw⟩)).units=A.units+1:=by
 first|rfl|simp[Around.under,Code.cUnits,Code.frames,Code.isFrame]
theorem aI.make{k:Nat}{A:Around}(r:aI (k+1) A)(C:Addr)(us:ao)(kw:List (Str×Value)):aI k (A.under (.builtin "type.__call__" ⟨.ref C::us,kw⟩)):=
 ⟨r.hd,by have:=r.dp;rw[OB];omega,by have:=r.un;rw[OA];omega⟩
theorem aI.depth{k:Nat}{A:Around}(r:aI k A):A.depth<recursionLimit:=by have:=r.dp;omega
theorem aI.units{k:Nat}{A:Around}(r:aI k A):A.units+64<cLine:=by have:=r.un;omega
def wN:TA:=λ_ H Q=>Q [] H
def Vw(ta:TE)(tr:TA):TA:=λσ H Q=>ta σ H λx H1=>tr σ H1 λxs H2=>Q (x::xs) H2
section
variable {X:Cx}{e:Expr}{es:aT}{te:TE}{t:TA}{pos:Pos}
theorem To:PA X [] wN:=λ_ _ _ _ H Q I h=>Calls.spliced_nil ⟨[],H,I,.nil,h⟩
theorem Su(ha:PE X e te)(hr:PA X es t)(hs:starEach (e::es) X.env=(false,eval e X.env)::starEach es X.env:=by rfl):PA X (e::es) (Vw te t):=by
 intro pos pins s σ H Q I h;rw[hs];show wpAny _ _ (spliced ((false,eval e X.env)::backTo pos (starEach es X.env))) _ _ s;refine Calls.spliced_cons (aB (ha pins s σ H _ I h) λu s1 zz=>?_);obtain⟨x,H1,I1,r1,q1⟩:=zz
 exact aB (hr pos pins s1 σ H1 _ I1 q1) λus s2 ⟨xs,H2,I2,r2,q2⟩=>⟨x::xs,H2,I2,.cons r1 r2,q2⟩
def Mz(t:TA):TE:=λσ H Q=>t σ H λxs H1=>xs.length<=sizeLine/\∀p,H1 p=none->Q (.ref p) (upd H1 p (.tup xs))
def ME(t:TA):TE:=λσ H Q=>t σ H λxs H1=>xs.length<=sizeLine/\∀p,H1 p=none->Q (.ref p) (upd H1 p (.lst xs))
theorem TQ{x1}(h:PA X es t):PE X (.Tuple es x1 pos) (Mz t):=by
 intro pins s σ H Q I hq;refine wpAny_Tuple_spliced (aB (h pos pins s σ H _ I hq) λus s1 ⟨xs,H1,I1,r,z,q⟩=>⟨by rw[<-r.length];exact z,?_⟩)
 have hf:H1 s1.heap.objs.size=none:=I1.ar.fresh (ba _);refine⟨.ref s1.heap.objs.size,upd H1 s1.heap.objs.size (.tup xs),I1.laid (t':=s1.toks) (λb u e=>bS _ e) (ba _) ?_,rfl,q _ hf⟩
 exact⟨z,us,r,⟨_,dz _ rfl,rfl,_,rfl⟩⟩
theorem Ew(h:PA X es t):PE X (.List es pos) (ME t):=by
 intro pins s σ H Q I hq;refine wpAny_List_spliced (aB (h pos pins s σ H _ I hq) λus s1 ⟨xs,H1,I1,r,z,q⟩=>⟨by rw[<-r.length];exact z,?_⟩)
 have hf:H1 s1.heap.objs.size=none:=I1.ar.fresh (ba _);refine⟨.ref s1.heap.objs.size,upd H1 s1.heap.objs.size (.lst xs),I1.laid (t':=s1.toks) (λb u e=>bS _ e) (ba _) ?_,rfl,q _ hf⟩
 exact⟨z,us,0,r,dz _ rfl⟩
end
abbrev Sp:=LV->Hp->VK->XK->Prop
abbrev gC:=List Env->Hp->Shared->XK->aP
structure fY(P:Program)(w:World)(K:ag)(mg:aU)(base:Heap)(A:Around)(outer:List Env)(s:Shared)(H:Hp):Prop where
 frames:A.frames=some outer
 mod:Mod K mg base
 bs:∀b o,base.get? b=some o->s.heap.get? b=some o/\H b=none
 ia:base.objs.size<=s.heap.objs.size
 bP:s.heap.FunFrames base outer
 iP:∀b∈br outer,H b=none
 ar:bL P w H s.heap
 bare:AllBare s.gens
def CE(outer:List Env)(P:Program)(w:World)(H:Hp)(s:Shared)(Q:VK)(u:Value)(s':Shared):Prop:=
 ∃v H',s'.os=s.os/\AllBare s'.gens/\Un (br outer) [] H H' s.heap s'.heap/\bL P w H' s'.heap/\RelV v u/\Q v H'
def CR(CX:gC)(outer:List Env)(P:Program)(w:World)(H:Hp)(s:Shared)(Q:VK)(E:XK)(r:Result)(s':Shared):Prop:=
 match r with
 | .ok (.ret u)=>CE outer P w H s Q u s'
 | .ok _=>False
 | .error e=>CX outer H s E e s'
structure bQ(P:Program)(w:World)(K:ag)(mg:aU)(base:Heap)(CX:gC)(k:Nat)(f:Addr)(fd:FuncData)(ps:ay)(sp:Sp):Prop where
 len:∀vs H Q E,sp vs H Q E->vs.length=ps.length
 run:∀(A:Around) (outer:List Env) (s:Shared) (H:Hp) (args:Args) (us:ao) (vs:LV) (Q:VK) (E:XK),aI k A->fY P w K mg base A outer s H->BindsTo s fd args (ps.zip us)->Vals vs us->sp vs H Q E->
  codeAny (model P w) A (.call (.ref f) args) (CR CX outer P w H s Q E) s
theorem fY.make{P:Program}{w:World}{K:ag}{mg:aU}{base:Heap}{A:Around}{outer:List Env}{s:Shared}{H:Hp}(e:fY P w K mg base A outer s H)(C:Addr)(us:ao)(kw:List (Str×Value)):
 fY P w K mg base (A.under (.builtin "type.__call__" ⟨.ref C::us,kw⟩)) outer s H:=⟨by first|exact e.frames|(simpa[Around.under,Code.envs,Code.isFrame,pushEnvs]using e.frames),e.mod,e.bs,e.ia,e.bP,e.iP,e.ar,e.bare⟩
section
variable {X:Cx}{pins:aF}{σ:St}{H:Hp}{s s':Shared}
theorem Inv.n9(I:Inv X pins σ H s):fY X.prog X.w X.K X.mg X.base X.A X.stack s H:=
 ⟨I.ok.frames,I.ok.mod,I.bs,c6 I.ok.ia I.sz,I.stack,I.cI,I.ar,I.bare⟩
theorem Inv.after{Q:VK}{u:Value}(I:Inv X pins σ H s)(h:CE X.stack X.prog X.w H s Q u s'):EP X pins σ Q u s':=by
 obtain⟨v,H',os,bare,un,ar,r,q⟩:=h;obtain⟨hh,g,d,t,os'⟩:=s';obtain rfl:os'=s.os:=os;exact⟨v,H',I.call (h':=hh) (g':=g) (d':=d) (t':=t) (ch:=[]) un ar bare (λb z=>bp z (by simp)),r,q⟩
end
def Fi(sp:Sp)(dvs:LV)(E:XK)(t:TA):TE:=λσ H Q=>t σ H λvs H1=>sp (vs++dvs) H1 Q E
noncomputable def zC (C:Addr)(m:Str)(sp:Sp)(dvs:LV)(E:XK)(ta:TE)(t:TA):TE:=λσ H Q=>ta σ H λx H1=>∃a dx fs,x= .ref a/\H1 a=some (.ins C dx fs)/\fs.lookup m=none/\
 t σ H1 λvs H2=>sp (x::(vs++dvs)) H2 Q E
noncomputable def Fh (C:Addr)(sp:Sp)(dvs:LV)(E:XK)(t:TA):TE:=λσ H Q=>t σ H λvs H1=>∀x dx,H1 x=none->H1 dx=none->dx≠x->
 sp (.ref x::(vs++dvs)) (upd (upd H1 dx (.own x)) x (.ins C dx [])) (λv H2=>v= .au/\Q (.ref x) H2) E
def Binds(K:ag)(fd:FuncData)(ps:ay)(ds:ao):Prop:=
 ∀(s:Shared) (us:ao),K.In s.heap->(us++ds).length=ps.length->BindsTo s fd ⟨us,[]⟩ (ps.zip (us++ds))
theorem Binds.all{K:ag}{fd:FuncData}{ps:ay}(h:∀us:ao,us.length=ps.length->bindArgs fd ⟨us,[]⟩=pure (ps.zip us)):Binds K fd ps []:=λs us _ hl=>by
 rw[jm]at hl ⊢;exact .of_eq (h us hl)
def Passes(CX:gC)(X:Cx)(E:XK):Prop:=∀(pins:aF) (σ:St) (H:Hp) (s:Shared) (e:Value) (s':Shared),Inv X pins σ H s->CX X.stack H s E e s'->X.xe e s'
section
variable {X:Cx}{CX:gC}{k:Nat}{f C:Addr}{fd:FuncData}{ps:ay}{sp:Sp}{dvs:LV}{ds:ao}{E:XK}{x m:Str}{p pos apos:Pos}{e o:Expr}{es:aT}{ta:TE}{t:TA}
theorem sM{pins:aF}{σ:St}{H:Hp}{s:Shared}{Q:VK}{us:ao}{vs:LV}(F:bQ X.prog X.w X.K X.mg X.base CX k f fd ps sp)(hr:aI k X.A)(hb:Binds X.K fd ps ds)(hd:Vals dvs ds)(hx:Passes CX X E)
 (I:Inv X pins σ H s) (r:Vals vs us) (h:sp (vs++dvs) H Q E):wpAny (model X.prog X.w) X.A (call (.ref f) us) (EP X pins σ Q) X.xe s:=by
 have r2:Vals (vs++dvs) (us++ds):=r.append hd;have hl:(us++ds).length=ps.length:=by rw[<-r2.length];exact F.len _ _ _ _ h
 refine wpAny_call (codeAny_mono (F.run X.A X.stack s H ⟨us,[]⟩ (us++ds) (vs++dvs) Q E hr I.n9 (hb s us I.bW hl) r2 h) λr s' hq=>?_)
 cases r with
 |error e=>exact hx pins σ H s e s' I hq
 |ok fl=>
  cases fl with
  |ret u=>exact I.after hq
  |next=>exact False.elim hq
  |brk=>exact False.elim hq
  |cont=>exact False.elim hq
theorem Sr(F:bQ X.prog X.w X.K X.mg X.base CX k f fd ps sp)(hr:aI k X.A)(hg:Gl X x)(hm:X.mg x=some (.ref f))(hk:PySem.W.keepIn X.K (.ref f)=true)(hb:Binds X.K fd ps ds)(hd:Vals dvs ds)(hx:Passes CX X E)
 (ha:PA X (e::es) t) (hdb:(x==("__debug__":Str))=false:=by decide) (he:starEach (e::es) X.env=(false,eval e X.env)::starEach es X.env:=by rfl) (hpl:(backTo pos (starEach es X.env)).any (·.1)=false:=by rfl):
 PE X (.Call (.Name x p) (e::es) [] pos) (Fi sp dvs E t):=by
 intro pins s σ H Q I h;refine wpAny_Call_Name_kw (js I hg hm ?_ hdb);refine tZ (h₀:=X.base) I.ok.mod.kJ hk (aB (ha pos pins s σ H _ I h) λus s1 ⟨vs,H1,I1,r,q⟩=>⟨I1.bW,?_⟩) he hpl
 exact sM F hr hb hd hx I1 r q
theorem Q8(F:bQ X.prog X.w X.K X.mg X.base CX k f fd ps sp)(hr:aI k X.A)(hg:Gl X x)(hm:X.mg x=some (.ref f))(hk:PySem.W.keepIn X.K (.ref f)=true)(hb:Binds X.K fd ps ds)(hd:Vals dvs ds)(hx:Passes CX X E)
 (hdb:(x==("__debug__":Str))=false:=by decide):PE X (.Call (.Name x p) [] [] pos) (Fi sp dvs E wN):=by
 intro pins s σ H Q I h;refine wpAny_Call_Name_kw (js I hg hm ?_ hdb);exact PySem.W.callWith_K0 I.bW hk (sM (us:=[]) F hr hb hd hx I .nil h)
theorem D1{pl:Sem Bool}(he:PE X o ta)(c:bN X.K C)(hm:Meth X.K C m f)(F:bQ X.prog X.w X.K X.mg X.base CX k f fd ps sp)(hr:aI k X.A)(hb:Binds X.K fd ps ds)(hd:Vals dvs ds)(hx:Passes CX X E)(ha:PA X (e::es) t)
 (hst:starEach (e::es) X.env=(false,eval e X.env)::starEach es X.env:=by rfl) (hpl:(backTo pos (starEach es X.env)).any (·.1)=false:=by rfl)
 (ht:eval (.Call (.Attribute o m apos) (e::es) [] pos) X.env=(do
  let ov<-eval o X.env
  standAt apos.atName
  let(f,first) <-holding [ov] (getMethod ov m pl)
  callWith pos f first (backTo pos (starEach (e::es) X.env)) (backToKw pos (keywordEach [] X.env))):=by rfl):
 PE X (.Call (.Attribute o m apos) (e::es) [] pos) (zC C m sp dvs E ta t):=by
 intro pins s σ H Q I h;refine PySem.W.methodCall_KW (pl:=pl) (aB (he pins s σ H _ I h) λu s1 zz=>?_) ht;obtain⟨x,H1,I1,rx,a,dx,fs,ex,ea,l,q⟩:=zz
 subst ex;obtain rfl:u=Value.ref a:=rx;refine yz I1 ea c hm l ?_;refine tZ (first:=[.ref a]) (h₀:=X.base) I.ok.mod.kJ hm.kp (aB (ha pos pins s1 σ H1 _ I1 q) λus s2 ⟨vs,H2,I2,r,q2⟩=>⟨I2.bW,?_⟩) hst hpl
 exact sM (us:=.ref a::us) (vs:=.ref a::vs) F hr hb hd hx I2 (.cons rfl r) q2
theorem QY{pl:Sem Bool}(he:PE X o ta)(c:bN X.K C)(hm:Meth X.K C m f)(F:bQ X.prog X.w X.K X.mg X.base CX k f fd ps sp)(hr:aI k X.A)(hb:Binds X.K fd ps ds)(hd:Vals dvs ds)(hx:Passes CX X E)
 (ht:eval (.Call (.Attribute o m apos) [] [] pos) X.env=(do
  let ov<-eval o X.env
  standAt apos.atName
  let(f,first) <-holding [ov] (getMethod ov m pl)
  callWith pos f first (backTo pos (starEach [] X.env)) (backToKw pos (keywordEach [] X.env))):=by rfl):
 PE X (.Call (.Attribute o m apos) [] [] pos) (zC C m sp dvs E ta wN):=by
 intro pins s σ H Q I h;refine PySem.W.methodCall_KW (pl:=pl) (aB (he pins s σ H _ I h) λu s1 zz=>?_) ht;obtain⟨x,H1,I1,rx,a,dx,fs,ex,ea,l,q⟩:=zz
 subst ex;obtain rfl:u=Value.ref a:=rx;refine yz I1 ea c hm l ?_;exact PySem.W.callWith_K0 (first:=[.ref a]) I1.bW hm.kp (sM (us:=[.ref a]) (vs:=[.ref a]) F hr hb hd hx I1 (.cons rfl .nil) q)
structure Mk(K:ag)(C f:Addr):Prop where
 makes:PySem.W.makesIn K C=true
 init:PySem.W.findIn K (.ref C) "__init__" =some (some (.ref f))
 fn:PySem.W.isFn K (.ref f)=true
 kp:PySem.W.keepIn K (.ref C)=true
theorem Di{pins:aF}{σ:St}{H:Hp}{s:Shared}{Q:VK}{us:ao}{vs:LV}(M:Mk X.K C f)(F:bQ X.prog X.w X.K X.mg X.base CX k f fd ps sp)(hr:aI (k+1) X.A)(hb:Binds X.K fd ps ds)(hd:Vals dvs ds)
 (hx:Passes CX X E) (I:Inv X pins σ H s) (r:Vals vs us)
 (h:∀x dx,H x=none->H dx=none->dx≠x->sp (.ref x::(vs++dvs)) (upd (upd H dx (.own x)) x (.ins C dx [])) (λv H2=>v= .au/\Q (.ref x) H2) E):
 wpAny (model X.prog X.w) X.A (call (.ref C) us) (EP X pins σ Q) X.xe s:=by
 have hq:=h (s.heap.objs.size+1) s.heap.objs.size (I.ar.fresh (Nat.le_succ _)) (I.ar.fresh (ba _)) (cx (Nat.lt_succ_self _));have I2:=Inv.made (C:=C) I;have r2:Vals (V.ref (s.heap.objs.size+1)::(vs++dvs)) (Value.ref (s.heap.objs.size+1)::(us++ds)):=.cons rfl (r.append hd);have hl:(Value.ref (s.heap.objs.size+1)::us++ds).length=ps.length:=by
  have e:=r2.length;rw[F.len _ _ _ _ hq]at e;exact e.symm
 refine wpAny_call (Qq (f:=f) I.bW M.makes M.init (eW.mp M.fn) (codeAny_mono (F.run _ X.stack _ _ ⟨Value.ref (s.heap.objs.size+1)::us,[]⟩ (Value.ref (s.heap.objs.size+1)::(us++ds)) _ _ E (hr.make C us [])
  (I2.n9.make C us []) (hb _ (Value.ref (s.heap.objs.size+1)::us) I2.bW hl) r2 hq) λr s' hq'=>?_))
 cases r with
 |error e=>exact hx pins σ _ _ e s' I2 hq'
 |ok fl=>
  cases fl with
  |ret u=>
   obtain⟨v,H',I3,rv,ev,q3⟩:=I2.after hq';subst ev;exact⟨rv,⟨V.ref (s.heap.objs.size+1),H',I3,rfl,q3⟩⟩
  |next=>exact False.elim hq'
  |brk=>exact False.elim hq'
  |cont=>exact False.elim hq'
theorem Rx(M:Mk X.K C f)(F:bQ X.prog X.w X.K X.mg X.base CX k f fd ps sp)(hr:aI (k+1) X.A)(hg:Gl X x)(hm:X.mg x=some (.ref C))(hb:Binds X.K fd ps ds)(hd:Vals dvs ds)(hx:Passes CX X E)
 (ha:PA X (e::es) t) (hdb:(x==("__debug__":Str))=false:=by decide) (he:starEach (e::es) X.env=(false,eval e X.env)::starEach es X.env:=by rfl) (hpl:(backTo pos (starEach es X.env)).any (·.1)=false:=by rfl):
 PE X (.Call (.Name x p) (e::es) [] pos) (Fh C sp dvs E t):=by
 intro pins s σ H Q I h;refine wpAny_Call_Name_kw (js I hg hm ?_ hdb);refine tZ (h₀:=X.base) I.ok.mod.kJ M.kp (aB (ha pos pins s σ H _ I h) λus s1 ⟨vs,H1,I1,r,q⟩=>⟨I1.bW,?_⟩) he hpl
 exact Di M F hr hb hd hx I1 r q
theorem QZ(M:Mk X.K C f)(F:bQ X.prog X.w X.K X.mg X.base CX k f fd ps sp)(hr:aI (k+1) X.A)(hg:Gl X x)(hm:X.mg x=some (.ref C))(hb:Binds X.K fd ps ds)(hd:Vals dvs ds)(hx:Passes CX X E)
 (hdb:(x==("__debug__":Str))=false:=by decide):PE X (.Call (.Name x p) [] [] pos) (Fh C sp dvs E wN):=by
 intro pins s σ H Q I h;refine wpAny_Call_Name_kw (js I hg hm ?_ hdb);exact PySem.W.callWith_K0 I.bW M.kp (Di (us:=[]) M F hr hb hd hx I .nil h)
end
section
variable {X:Cx}{CX:gC}{k:Nat}{f C:Addr}{fd:FuncData}{ps ks:ay}{sp:Sp}{E:XK}{x m:Str}{p pos apos kpos:Pos}{e o:Expr}{es:aT}{kws:List Keyword}{te ta:TE}{t tk:TA}{nm:Option Str}
structure qAQ(K:ag)(fd:FuncData)(ps ks:ay)(g:ao->ao->ao)(gV:LV->LV->LV):Prop where
 to:∀(s:Shared) (us ws:ao),K.In s.heap->(g us ws).length=ps.length->BindsTo s fd ⟨us,ks.zip ws⟩ (ps.zip (g us ws))
 rel:∀{vs:LV} {us:ao} {zs:LV} {ws:ao},Vals vs us->Vals zs ws->Vals (gV vs zs) (g us ws)
variable {g:ao->ao->ao}{gV:LV->LV->LV}
end
structure kN(N P:ay)(sc:Scope):Prop where
 kind:sc.kind= .function
 co:sc.isCoroutine=false
 gen:sc.isGenerator=false
 nd:N.Nodup
 pre:N.take P.length=P
 par:∀x∈P,sc.names.lookup x=some .local∨sc.names.lookup x=some .cell
 oC:∀y∈sc.names,y.2≠.free
theorem CU{kindOf:Str->Option NameKind}{x:Str}:∀{binds:List (Str×Value)} {m:aU},(∀v,(x,v)∉binds)->bindL kindOf binds m x=m x
 | [],_,_=>rfl
 |(n,v)::r,m,h=>by
  unfold bindL;rw[CU λw hw=>h w (fM _ hw)]
  split
  . have:x≠n:=by rintro rfl;exact h v iB
    simp[this]
  . rfl
theorem CW{kindOf:Str->Option NameKind}{x:Str}:∀{binds:List (Str×Value)} {m:aU},(∀v,(x,v)∉binds)->bindC kindOf binds m x=m x
 | [],_,_=>rfl
 |(n,v)::r,m,h=>by
  unfold bindC;rw[CW λw hw=>h w (fM _ hw)]
  split
  . rfl
  . have:x≠n:=by rintro rfl;exact h v iB
    simp[this]
theorem CV{kindOf:Str->Option NameKind}{x:Str}{v:Value}:∀{P:ay} {vs:ao} {i:Nat} {m:aU},P.Nodup->P[i]? =some x->vs[i]? =some v->kindOf x=some .local->
 bindL kindOf (P.zip vs) m x=some v
 | [],_,_,_,_,h,_,_=>by simp at h
 |_::_,[],_,_,_,_,h,_=>by simp at h
 |p::P,w::vs,0,m,nd,h1,h2,hk=>by
  simp at h1 h2;subst h1;subst h2;show bindL kindOf ((p,w)::P.zip vs) m p=_;unfold bindL;rw[CU λv hv=>(lD.mp nd).1 (List.of_mem_zip hv).1,az hk]
  simp
 |p::P,w::vs,i+1,m,nd,h1,h2,hk=>by
  show bindL kindOf ((p,w)::P.zip vs) m x=_;unfold bindL;exact CV (i:=i) (lD.mp nd).2 (by simpa using h1) (by simpa using h2) hk
theorem CY{kindOf:Str->Option NameKind}{x:Str}{v:Value}:∀{P:ay} {vs:ao} {i:Nat} {m:aU},P.Nodup->P[i]? =some x->vs[i]? =some v->kindOf x≠some .local->
 bindC kindOf (P.zip vs) m x=some v
 | [],_,_,_,_,h,_,_=>by simp at h
 |_::_,[],_,_,_,_,h,_=>by simp at h
 |p::P,w::vs,0,m,nd,h1,h2,hk=>by
  simp at h1 h2;subst h1;subst h2;show bindC kindOf ((p,w)::P.zip vs) m p=_;unfold bindC;rw[CW λv hv=>(lD.mp nd).1 (List.of_mem_zip hv).1,aj hk]
  simp
 |p::P,w::vs,i+1,m,nd,h1,h2,hk=>by
  show bindC kindOf ((p,w)::P.zip vs) m x=_;unfold bindC;exact CY (i:=i) (lD.mp nd).2 (by simpa using h1) (by simpa using h2) hk
noncomputable def start (N:ay)(vs:LV):St:=vs.map some++List.replicate (N.length-vs.length) none
noncomputable def gh (CX:gC)(P:Program)(w:World)(K:ag)(mg:aU)(base:Heap)(N:ay)(qual:Str)(scope:Scope)(f:Addr)(cd:Value)(A:Around)(outer:List Env)(s:Shared)(H:Hp)(E:XK):Cx where
 prog:=P
 w:=w
 K:=K
 mg:=mg
 base:=base
 A:=A.deeper (envOfC qual scope s.heap.objs.size f cd)
 N:=N
 s₀:=s
 H₀:=H
 env:=envOfC qual scope s.heap.objs.size f cd
 outer:=outer
 stack:=envOfC qual scope s.heap.objs.size f cd::outer
 ex:=[]
 calm:=true
 fn:=λ_=>true
 pn:=[]
 xe:=λe s'=>wpAny (model P w) (A.deeper (envOfC qual scope s.heap.objs.size f cd)) (leaving (envOfC qual scope s.heap.objs.size f cd) e) (λ_ s''=>CX outer H s E e s'') (λe' s''=>CX outer H s E e' s'') s'
theorem Dk{sc:Scope}{n:Nat}{x:Str}(h:sc.names.lookup x=some .cell):∃c,(cellsFrom n sc.names []).lookup x=some c:=by
 have q:=PySem.W.cellsFrom_some sc.names n [] (.inl h);exact tW.mp q
theorem Po{CX:gC}{P:Program}{w:World}{K:ag}{mg:aU}{base:Heap}{N ps:ay}{qual:Str}{scope:Scope}{f:Addr}{cd:Value}{A:Around}{outer:List Env}{s s1:Shared}{H:Hp}{E:XK}{us:ao}{vs:LV}
 (S:kN N ps scope) (hd:A.handled=none) (e0:fY P w K mg base A outer s H) (hl:vs.length=ps.length) (r:Vals vs us)
 (x:InCallC s s.heap.objs.size (bindL (envOfC qual scope s.heap.objs.size f cd).kindOf (ps.zip us) λ_=>none) (cellsFrom (s.heap.objs.size+1) scope.names []) (bindC (envOfC qual scope s.heap.objs.size f cd).kindOf (ps.zip us) λ_=>none) s1):
 Inv (gh CX P w K mg base N qual scope f cd A outer s H E) [] (start N vs) H s1:=by
 have hpl:ps.length<=N.length:=by have:=congrArg List.length S.pre;rw[List.length_take]at this;omega
 obtain⟨h1,tk,rfl,hk⟩:=x.done;have noA:∀b:Addr,b∉(gh CX P w K mg base N qual scope f cd A outer s H E).ex:=λb z=>bp (show b∈([]:List Addr)from z) (by simp)
 refine⟨⟨e0.mod,S.kind,rfl,rfl,ba _,λy z c h1 h2=>?_,λy hy=>?_,λy c _ h=>?_,λ_=>hd,Around.frames_deeper e0.frames,.inr ⟨rfl,rfl⟩,λb z=>bp z (noA b),e0.bs,e0.ia,λb _ _=>noA b,λb z=>bp z (noA b),e0.bP,e0.iP⟩,
  rfl,e0.bare,Un.kept hk,⟨_,x.toInCall.ns,λi y v h1 h2 h3=>?_⟩,λy c h=>⟨_,x.cell y c h⟩,e0.ar.fresh (ba _),λy c h=>?_,λp hp=>bp (show p∈([]:aF)from hp) (by simp),e0.ar.kept hk,?_⟩
 . exact name_of_addr x.apart (PySem.mem_of_lookup h1) (PySem.mem_of_lookup h2)
 . have hy:scope.names.lookup y=some .cell∨scope.names.lookup y=some .free:=hy
   rcases hy with hy|hy
   . exact Dk hy
   . exact bp rfl (S.oC _ (PySem.mem_of_lookup hy))
 . exact m4 (x.above y c (PySem.mem_of_lookup h))
 . have hi:i<vs.length:=by
    unfold start at h2
    by_cases hi:i<vs.length
    . exact hi
    . rw[List.getElem?_append_right (by simpa using hi)]at h2
      rw[List.getElem?_replicate]at h2;split at h2<;>cases h2
   have ha:vs[i]? =some v:=by
    unfold start at h2;rw[pN (by simpa using hi),fy]at h2
    cases e:vs[i]? with
    |none=>rw[e]at h2;cases h2
    |some a=>rw[e]at h2;cases h2;rfl
   obtain⟨u,hu,rv⟩:=r.get ha;have hp:ps[i]? =some y:=by
    rw[<-S.pre,List.getElem?_take_of_lt ∅];exact h1
   have ndP:ps.Nodup:=by rw[<-S.pre];exact S.nd.sublist (List.take_sublist _ _)
   refine⟨u,rv,?_⟩;rcases S.par y (hW hp)with k|k
   . exact .inl ⟨k,CV ndP hp hu k⟩
   . obtain⟨c,e⟩:=Dk (n:=s.heap.objs.size+1) k
     refine .inr ⟨.inl k,c,e,?_⟩;have q:=x.cell y c e;rw[CY ndP hp hu (by show scope.names.lookup y≠_;rw[k];decide)]at q
     exact q
 . exact e0.ar.fresh (m4 (x.above y c (PySem.mem_of_lookup h)))
 . unfold start
   show _=N.length;rw[jF,cb,xJ];omega
theorem FL{CX:gC}{P:Program}{w:World}{K:ag}{mg:aU}{base:Heap}{k:Nat}{f:Addr}{name qual:Str}{params:Arguments}{body:List Stmt}{scope:Scope}{dV kV doc pm cdv ct oc:Value}{an od:Option Addr}
 {osl:Array (bU)} {N ps:ay} {sp:Sp} (lk:K.lookup f=some ⟨oc,od,.func (PySem.W.fnOf name qual params body scope dV kV doc pm an cdv ct),osl⟩) (hcd:PySem.W.codeIn K cdv qual=true) (S:kN N ps scope)
 (len:∀vs H Q E,sp vs H Q E->vs.length=ps.length)
 (hbody:∀(A:Around) (outer:List Env) (s:Shared) (H:Hp) (vs:LV) (Q:VK) (E:XK),aI k (A.deeper (envOfC qual scope s.heap.objs.size f cdv))->sp vs H Q E->
  ∃t,eX (gh CX P w K mg base N qual scope f cdv A outer s H E) body t/\t { nx:=λ_ H'=>Q .au H',rt:=Q } (start N vs) H):
 bQ P w K mg base CX (k+1) f (PySem.W.fnOf name qual params body scope dV kV doc pm an cdv ct) ps sp:=by
 refine⟨len,λA outer s H args us vs Q E hr e0 hb r hsp=>?_⟩
 have hl:=len _ _ _ _ hsp;have KX:K.In s.heap:=e0.mod.kJ.keeps λb o e=>(e0.bs b o e).1
 have lim:s.heap.NoLimit:=e0.mod.nolimit.keeps λb o e=>(e0.bs b o e).1
 have bD:∀y∈ps.zip us,scope.names.lookup y.1=some .local∨(scope.names.lookup y.1=some .cell/\((cellsFrom (s.heap.objs.size+1) scope.names []).lookup y.1).isSome=true):=λ⟨n,v⟩ hy=>by
  rcases S.par n (List.of_mem_zip hy).1 with q|q
  . exact .inl q
  . exact .inr ⟨q,PySem.W.cellsFrom_some _ _ _ (.inl q)⟩
 refine codeAny_call_function hr.depth (KX _ _ lk) rfl S.co S.gen rfl (PySem.W.codeRec_of KX hcd) (hb _ _ _ _ ?_);refine wpAny_newFunctionEnv_cells S.kind bD λenv he s1 x=>?_
 subst he;refine⟨lim.keeps x.toInCall.keep,codeAny_func ?_⟩;obtain⟨t,ht,hq⟩:=hbody A outer s H vs Q E (hr.deeper _) hsp;have I:Inv (gh CX P w K mg base N qual scope f cdv A outer s H E) [] (start N vs) H s1:=Po S hr.hd e0 hl r x;refine eM (ht [] s1 (start N vs) H _ I hq) (λfl s' hs=>?_) λe s' hs=>hs
 have fin:∀{σ':St} {H':Hp} {v:V} {u:Value},Inv (gh CX P w K mg base N qual scope f cdv A outer s H E) [] σ' H' s'->RelV v u->Q v H'->CE outer P w H s Q u s':=
  λ{σ' H' v u} J rv q=>⟨v,H',J.os,J.bare,J.base,J.ar,rv,q⟩
 cases fl with
 |ret u=>
  obtain⟨v,σ',H',J,rv,q⟩:=hs;exact fin J rv q
 |next=>
  obtain⟨σ',H',J,q⟩:=hs;exact fin (v:=V.au) (u:=Value.none) J rfl q
 |brk=>
  obtain⟨_,_,_,q⟩:=hs;exact False.elim q
 |cont=>
  obtain⟨_,_,_,q⟩:=hs;exact False.elim q
section
variable {X:Cx}{x:Str}{p pos:Pos}{e:Expr}{es:aT}{t:TA}{id T:String}{r:LV->Hp->VK->Prop}
def Kx(r:LV->Hp->VK->Prop)(t:TA):TE:=λσ H Q=>t σ H λvs H1=>r vs H1 Q
theorem Q7(hc:cV X (.builtin id) r)(hg:Gl X x)(hm:X.mg x=none)(hv:bootBuiltins x=some (.builtin id))(ha:PA X (e::es) t)(hn:x≠"__name__":=by decide)(hdb:(x==("__debug__":Str))=false:=by decide)
 (he:starEach (e::es) X.env=(false,eval e X.env)::starEach es X.env:=by rfl) (hpl:(backTo pos (starEach es X.env)).any (·.1)=false:=by rfl):PE X (.Call (.Name x p) (e::es) [] pos) (Kx r t):=by
 intro pins s σ H Q I h;refine wpAny_Call_Name_kw (sS I hg hm hv ?_ hn hdb);exact PyProof.Rows.callWith_builtin1 (aB (ha pos pins s σ H _ I h) λus s1 ⟨vs,H1,I1,r1,q1⟩=>hc pins s1 σ H1 vs us Q I1 r1 q1) he hpl
end
end L2
namespace HT
open PySem PyProof.Rows
section
variable {prog:Program}{w:World}{A:Around}{E:aP}{s:Shared}
theorem jJ{t b:Addr}{vs ws:ao}{Q:aP}(ht:IsTup s.heap t vs.toArray)(hb:IsTup s.heap b ws.toArray)(hv:vs≠[])
 (h1:ws= []->Q (.ref t) s) (h2:ws≠[]->Q (.ref s.heap.objs.size) { s with heap:=s.heap.push { cls:=.type "tuple",data:=.seq (vs++ws).toArray } })
 (hsz:vs.length+ws.length<=sizeLine):wpAny (model prog w) A (binaryOp .Add (.ref t) (.ref b)) Q E s:=by
 obtain⟨⟨cls,dd,data,sl⟩,ho,hc,n,hd⟩:=id ht;obtain⟨⟨cls2,dd2,data2,sl2⟩,ho2,hc2,n2,hd2⟩:=id hb;simp only at hc hd hc2 hd2;subst hc hd hc2 hd2;have e:vs.toArray++ws.toArray=(vs++ws).toArray:=by simp
 by_cases hw:ws= []
 . exact concat_meets ⟨_,ho,rfl⟩ ⟨_,ho2,rfl⟩ noFill_tuple_add seq_tuple_add PySem.F.slot_tuple_add PySem.F.entry_tuple_add (PySem.F.args_tuple_add_2 _ _)
    (tuple_addW1 t b vs.toArray ws.toArray n n2 dd dd2 sl sl2 (by simpa using hv) (by simp[hw])) ⟨ho,ho2,h1 hw⟩
 . refine concat_meets ⟨_,ho,rfl⟩ ⟨_,ho2,rfl⟩ noFill_tuple_add seq_tuple_add PySem.F.slot_tuple_add PySem.F.entry_tuple_add (PySem.F.args_tuple_add_2 _ _)
    (tuple_addW2 t b vs.toArray ws.toArray n n2 dd dd2 sl sl2 (by simpa using hv) (by simpa using hw) (by rw[dW,dW];exact hsz)) ⟨ho,ho2,?_⟩
   rw[e];exact h2 hw
noncomputable def aY (n d:Nat):Option Int->Nat
 |none=>d
 |some v=>if v<0 then(v+(n:Int)).toNat else min v.toNat n
theorem jd(n d:Nat):aY n d none=d:=rfl
theorem T4(n d:Nat)(hd:d<=n)(o:Option Int):aY n d o<=n:=by
 cases o with
 |none=>exact hd
 |some v=>
  show(if v<0 then(v+(n:Int)).toNat else min v.toNat n)<=n
  by_cases hv:v<0
  . rw[az hv];omega
  . rw[aj hv];exact Nat.min_le_right _ _
theorem Ei(v:Int)(n d:Nat):(if v<0 then max (v+(n:Int)) 0 else min v (n:Int))=((aY n d (some v):Nat):Int):=by
 show(if v<0 then max (v+(n:Int)) 0 else min v (n:Int))=(((if v<0 then(v+(n:Int)).toNat else min v.toNat n):Nat):Int)
 by_cases hv:v<0
 . simp only[az hv];omega
 . simp only[aj hv];omega
theorem Pf(lo hi:Option Int)(n:Nat):Builtin.Slice.sliceAdjust lo hi 1 (n:Int)=(((aY n 0 lo:Nat):Int),((aY n n hi:Nat):Int)):=by
 have h1:¬((1:Int)<0):=by omega
 unfold Builtin.Slice.sliceAdjust;simp only[h1,if_false];refine Prod.ext ?_ ?_
 . cases lo with
   |none=>rfl
   |some v=>exact Ei v n 0
 . cases hi with
   |none=>rfl
   |some v=>exact Ei v n n
theorem Ow(i j:Nat):Builtin.Slice.slicePlaces (i:Int) (j:Int) 1=j-i:=by
 unfold Builtin.Slice.slicePlaces;have h1:(1:Int) > 0:=by omega
 simp only[h1,if_true,Int.ediv_one];split<;>omega
theorem Cr{v:Value}{o:Option Int}{Q:Option Int->Shared->Prop}(p:IsPart v o)(h:Q o s):wpAny (model prog w) A (Builtin.Slice.slicePartIndex v) Q E s:=by
 cases p with
 |none=>exact slicePart_none h
 |int i t=>exact slicePart_int h
theorem Cb{sl:Addr}{vl vu:Value}{lo hi:Option Int}{n:Nat}{Q:Int×Int×Nat->Shared->Prop}(hs:s.heap.IsSliceOf sl vl vu .none)(pl:IsPart vl lo)(pu:IsPart vu hi)
 (h:Q (((aY n 0 lo:Nat):Int),1,aY n n hi-aY n 0 lo) s):wpAny (model prog w) A (Builtin.Slice.sliceApplied (.ref sl) (pure (n:Int))) Q E s:=by
 obtain⟨os,hos,hcs,hds⟩:=id hs;unfold Builtin.Slice.sliceApplied Builtin.Slice.sliceFields;refine ak (ak (wpAny_field hos hds (x:=vl) rfl (ak (wpAny_field hos hds (x:=vu) rfl (ak (wpAny_field hos hds (x:=.none) rfl (aR ?_)))))));refine ak (slicePart_none ?_);show wpAny _ _ (if((1:Int)==0)=true then _ else _) _ _ s
 rw[aj ⋯]
 refine ak (Cr pl (ak (Cr pu (ak (aR ?_)))));show wpAny _ _ (match Builtin.Slice.sliceAdjust lo hi 1 (n:Int)with|(lo,hi)=>pure (lo,(1:Int),Builtin.Slice.slicePlaces lo hi 1)) _ _ s
 rw[Pf lo hi n];show wpAny _ _ (pure (((aY n 0 lo:Nat):Int),(1:Int),Builtin.Slice.slicePlaces ((aY n 0 lo:Nat):Int) ((aY n n hi:Nat):Int) 1)) _ _ s;rw[Ow];exact aR h
theorem QW(xs:Array Value)(i k:Nat):((List.range k).filterMap λ(m:Nat)=>xs[((i:Int)+(m:Int)*1).toNat]?).toArray=((xs.toList.drop i).take k).toArray:=by
 have e:(λ(m:Nat)=>xs[((i:Int)+(m:Int)*1).toNat]?)=λm=>xs[i+m]?:=by
  funext m;have:((i:Int)+(m:Int)*1).toNat=i+m:=by omega
  rw[this]
 rw[e];have:=pick_run xs i k;rw[List.filterMap_map]at this;have e2:((λx=>xs[x]?) ∘ λx=>i+x)=λm=>xs[i+m]?:=rfl
 rw[e2]at this;rw[this]
theorem cB{t sl:Addr}{items:Array Value}{vl vu:Value}{lo hi:Option Int}{Q:aP}(ht:IsTup s.heap t items)(hs:s.heap.IsSliceOf sl vl vu .none)(pl:IsPart vl lo)(pu:IsPart vu hi)
 (hw:¬(aY items.size 0 lo=0/\aY items.size items.size hi=items.size))
 (h:Q (.ref s.heap.objs.size) { s with heap:=s.heap.push { cls:=.type "tuple",data:=.seq ((items.toList.drop (aY items.size 0 lo)).take (aY items.size items.size hi-aY items.size 0 lo)).toArray } })
 (hsz:items.size<=sizeLine):wpAny (model prog w) A (getItem (.ref t) (.ref sl)) Q E s:=by
 have htake:sizeOk (.seq ((items.toList.drop (aY items.size 0 lo)).take (aY items.size items.size hi-aY items.size 0 lo)).toArray):=by
  show((items.toList.drop (aY items.size 0 lo)).take (aY items.size items.size hi-aY items.size 0 lo)).toArray.size<=sizeLine;rw[dW,List.length_take,List.length_drop,Array.length_toList];omega
 have hj:aY items.size items.size hi<=items.size:=T4 _ _ (ba _) hi;obtain⟨os,hos,hcs,hds⟩:=id hs;have hTs:s.TypeIs (.ref sl) "slice":=⟨os,hos,hcs⟩;unfold getItem
 try with_reducible refine jh ?_
 first|refine ak (aR ?_)|skip
 refine ak (wpAny_sequenceKey ht.typeIs ⋯ ?_)
 refine ak (wpAny_callSpecial?_slot (name:=Str.ofString "__getitem__") ht.typeIs xE
  (jl xE ht.typeIs entry_tuple_getitem ?_ (args_tuple_getitem _ _)))
 show wpAny _ _ (Builtin.Tuple.tupleItemsOf (.ref t) >>= _) _ _ s;refine ak (tupleItemsOf_ ht ?_);refine ak (wpAny_typeOf hTs ?_);rw[az ⋯]
 refine ak (Cb hs pl pu ?_);have hno:¬((((aY items.size 0 lo:Nat):Int)==0&&(1:Int)==1&&(aY items.size items.size hi-aY items.size 0 lo)==items.size)=true):=by
  intro q;rw[bh,bh]at q;have q1:((aY items.size 0 lo:Nat):Int)=0:=gm q.1.1;have q2:aY items.size items.size hi-aY items.size 0 lo=items.size:=gm q.2;exact hw ⟨∅,∅⟩
 show wpAny _ _ (if(((aY items.size 0 lo:Nat):Int)==0&&(1:Int)==1&&(aY items.size items.size hi-aY items.size 0 lo)==items.size)=true then _ else _) _ _ s
 rw[aj hno,QW]
 first
  |exact ak (m:=Builtin.Tuple.tupleExact _) (lH (aR ⟨_,rfl,aR h⟩) htake)
  |exact ak (m:=Builtin.Tuple.tupleExact _) (lH (ak (aR (aR ⟨_,rfl,aR h⟩))) htake)
  |exact ak (ak (m:=Builtin.Tuple.tupleExact _) (lH (aR (aR ⟨_,rfl,aR h⟩)) htake))
  |exact ak (ak (m:=Builtin.Tuple.tupleExact _) (lH (aR ⟨_,rfl,aR h⟩) htake))
end
end HT
namespace L2
open PySem PySem.Spec PyProof.Rows
abbrev TO:=St->Hp->(Option Int->Hp->Prop)->Prop
def PO(X:Cx)(e:Option Expr)(t:TO):Prop:=
 ∀(pins:aF) (s:Shared) (σ:St) (H:Hp) (Q:Option Int->Hp->Prop),Inv X pins σ H s->t σ H Q->
  wpAny (model X.prog X.w) X.A (evalPart e X.env) (λu s'=>∃o H',Inv X pins σ H' s'/\IsPart u o/\Q o H') X.xe s
def R8:TO:=λ_ H Q=>Q none H
def VY(t:TE):TO:=λσ H Q=>t σ H λx H1=>∃i,x= .int i/\Q (some i) H1
section
variable {X:Cx}{e:Expr}{te:TE}{lo hi:Option Expr}{tl th:TO}{pos p2:Pos}
theorem Ru:PO X none R8:=by
 intro pins s σ H Q I h;rw[evalPart_none];exact aR ⟨none,H,I,.none,h⟩
theorem Rr(h:PE X e te):PO X (some e) (VY te):=by
 intro pins s σ H Q I hw;rw[evalPart_some];refine aB (h pins s σ H _ I hw) λu s1 zz=>?_;obtain⟨x,H1,I1,r1,q1⟩:=zz
 obtain⟨i,rfl,q⟩:=q1;obtain⟨t,rfl⟩:=r1;exact⟨some i,H1,I1,.int i t,q⟩
def qU(X:Cx)(r:V->Option Int->Option Int->Hp->VK->Prop):Prop:=
 ∀(pins:aF) (s:Shared) (σ:St) (H:Hp) (x:V) (v vl vu:Value) (lo hi:Option Int) (sl:Addr) (Q:VK),Inv X pins σ H s->RelV x v->s.heap.IsSliceOf sl vl vu .none->IsPart vl lo->IsPart vu hi->r x lo hi H Q->
  ∃T id,typeLookup (.type T) "__getitem__" =pure (some (.builtin id))/\s.TypeIs v T/\wpAny (model X.prog X.w) X.A (getItem v (.ref sl)) (EP X pins σ Q) X.xe s
noncomputable def Xy (r:V->Option Int->Option Int->Hp->VK->Prop)(te:TE)(tl th:TO):TE:=λσ H Q=>te σ H λx H1=>tl σ H1 λl H2=>th σ H2 λu H3=>r x l u H3 Q
theorem QX{r:V->Option Int->Option Int->Hp->VK->Prop}(hr:qU X r)(he:PE X e te)(hl:PO X lo tl)(hu:PO X hi th):PE X (.Subscript e (.Slice lo hi none p2) pos) (Xy r te tl th):=by
 intro pins s σ H Q I h;refine Subscript_ (aB (he pins s σ H _ I h) λv s1 zz=>?_);obtain⟨x,H1,I1,r1,q1⟩:=zz
 refine wpAny_Slice (aB (hl pins s1 σ H1 _ I1 q1) λvl s2 ⟨l,H2,I2,pl,q2⟩=>aB (hu pins s2 σ H2 _ I2 q2) λvu s3 zz=>?_);obtain⟨u,H3,I3,pu,q3⟩:=zz
 rw[evalPart_none];refine aR ?_;have I4:Inv X pins σ H3 { s3 with heap:=s3.heap.push { cls:=.type "slice",data:=.fields #[vl,vu,.none] } }:=I3.kept (t':=s3.toks) λb ob q=>bS _ q
 obtain⟨T,id,hT,ht,hg⟩:=hr pins { s3 with heap:=s3.heap.push { cls:=.type "slice",data:=.fields #[vl,vu,.none] } } σ H3 x v vl vu l u s3.heap.objs.size Q I4 r1 (Heap.IsSliceOf.new ..) pl pu q3
 show wpAny (model X.prog X.w) X.A (subscriptTail e (.Slice lo hi none p2) v (.ref s3.heap.objs.size)) (EP X pins σ Q) X.xe { s3 with heap:=s3.heap.push { cls:=.type "slice",data:=.fields #[vl,vu,.none] } }
 exact tail_any (ops:=[.ref s3.heap.objs.size,v]) ht hT hg (by with_unfolding_all rfl)
noncomputable def mK (xs:LV)(lo hi:Option Int):LV:=(xs.drop (HT.aY xs.length 0 lo)).take (HT.aY xs.length xs.length hi-HT.aY xs.length 0 lo)
theorem CC(xs:LV)(lo hi:Option Int):(mK xs lo hi).length<=xs.length:=by
 unfold mK;rw[List.length_take,List.length_drop];omega
noncomputable def Mw (K:ag):V->Option Int->Option Int->Hp->VK->Prop:=λx lo hi H Q=>∃a xs,x= .ref a/\bI K H a xs/\
 ¬(HT.aY xs.length 0 lo=0/\HT.aY xs.length xs.length hi=xs.length)/\∀p,H p=none->Q (.ref p) (upd H p (.tup (mK xs lo hi)))
theorem TV:qU X (Mw X.K):=by
 intro pins s σ H x v vl vu lo hi sl Q I rx hs pl pu h;obtain⟨a,xs,rfl,hx,hw,q⟩:=h;cases rx;obtain⟨its,r,ht,hz⟩:=I.tuple hx;have hlen:its.toArray.size=xs.length:=by rw[dW];exact r.length.symm
 refine⟨"tuple",_,PyProof.Rows.slot_tuple_getitem.lookup,ht.typeIs,?_⟩;refine HT.cB ht hs pl pu (by rw[hlen];exact hw) ?_ (by rw[hlen];exact hz)
 rw[hlen];refine⟨.ref s.heap.objs.size,_,I.laid (t':=s.toks) (o:=.tup (mK xs lo hi)) (λb ob q=>bS _ q) (ba _) ?_,rfl,q _ (I.ar.fresh (ba _))⟩
 exact⟨c6 (CC xs lo hi) hz,_,(r.drop (HT.aY xs.length 0 lo)).take (HT.aY xs.length xs.length hi-HT.aY xs.length 0 lo),IsTup.new _ _⟩
noncomputable def WA (K:ag):R2:=λx y H Q=>∃a b xs ys,x= .ref a/\y= .ref b/\bI K H a xs/\bI K H b ys/\xs≠[]/\xs.length+ys.length<=sizeLine/\
 (ys= []->Q (.ref a) H)/\(ys≠[]->∀p,H p=none->Q (.ref p) (upd H p (.tup (xs++ys))))
theorem Vals.eT{xs:LV}{us:ao}(r:Vals xs us):us= []↔xs= []:=by
 cases r with
 |nil=>simp
 |cons _ _=>simp
theorem Sy:cN X (binaryOp .Add) (WA X.K):=by
 intro pins s σ H x y v u Q I rx ry h;obtain⟨a,b,xs,ys,rfl,rfl,ha,hb,hx,hz,q1,q2⟩:=h;cases rx;cases ry;obtain⟨its,r1,p1,_⟩:=I.tuple ha;obtain⟨its2,r2,p2,_⟩:=I.tuple hb;refine HT.jJ p1 p2 (λz=>hx (r1.eT.mp z)) (λz=>⟨.ref a,H,I,rfl,q1 (r2.eT.mp z)⟩) (λz=>?_) (by rw[<-r1.length,<-r2.length];exact hz)
 refine⟨.ref s.heap.objs.size,_,I.laid (t':=s.toks) (o:=.tup (xs++ys)) (λb ob q=>bS _ q) (ba _) ?_,rfl,q2 (λw=>z (r2.eT.mpr w)) _ (I.ar.fresh (ba _))⟩
 exact⟨by rw[jF];exact hz,_,r1.append r2,IsTup.new _ _⟩
end
noncomputable def dY (n:Nat)(i:Int):Option Nat:=if 0<=i then(if i<n then some i.toNat else none)else if -(n:Int)<=i then some (i+n).toNat else none
noncomputable def bz {α:Type}(xs:List α)(i:Int):Option α:=(dY xs.length i).bind λj=>xs[j]?
theorem DT{n:Nat}{i:Int}{j:Nat}(h:dY n i=some j):seqIndex? i n=some j/\j<n/\-(n:Int)<=i/\i<n:=by
 unfold dY at h
 by_cases h0:0<=i
 . rw[az h0]at h
   by_cases h1:i<n
   . rw[az h1]at h
     have e:i.toNat=j:=de h;exact⟨by rw[seqIndex_of h0 h1,e],∅,∅,h1⟩
   . rw[aj h1]at h;cases h
 . rw[aj h0]at h
   by_cases h1:-(n:Int)<=i
   . rw[az h1]at h
     have e:(i+n).toNat=j:=de h;exact⟨by rw[seqIndex_neg ∅ h1,e],∅,h1,∅⟩
   . rw[aj h1]at h;cases h
theorem y2{α:Type}{xs:List α}{i:Int}{v:α}(h:bz xs i=some v):∃j,seqIndex? i xs.length=some j/\xs[j]? =some v/\j<xs.length/\-(xs.length:Int)<=i/\i<xs.length:=by
 unfold bz at h;cases e:dY xs.length i with
 |none=>rw[e]at h;cases h
 |some j=>
  rw[e]at h;obtain⟨h1,h2,h3,h4⟩:=DT e;exact⟨j,h1,h,h2,h3,h4⟩
def Eb(b:Expr):Prop:=∀o i,subscripted b false o i=operate [o,i] (getItem o i)
def qQ(X:Cx)(r:R2):Prop:=
 ∀(value slice:Expr) (pins:aF) (s:Shared) (σ:St) (H:Hp) (x y:V) (v u:Value) (Q:VK),Inv X pins σ H s->RelV x v->RelV y u->r x y H Q->
  subscripted slice false v u=operate [v,u] (getItem v u)->wpAny (model X.prog X.w) X.A (subscriptTail value slice v u) (EP X pins σ Q) X.xe s
def KO(X:Cx)(id:String)(r:V->LV->Hp->VK->Prop):Prop:=
 ∀(pins:aF) (s:Shared) (σ:St) (H:Hp) (x:V) (xs:LV) (v:Value) (us:ao) (Q:VK),Inv X pins σ H s->RelV x v->Vals xs us->r x xs H Q->
  wpAny (model X.prog X.w) X.A (call (.builtin id) (v::us)) (EP X pins σ Q) X.xe s
section
variable {X:Cx}{a b:Expr}{ta tb:TE}{pos:Pos}
theorem V7{r:R2}(hr:qQ X r)(ha:PE X a ta)(hb:PE X b tb)(hs:Eb b):PE X (.Subscript a b pos) (qG r ta tb):=by
 intro pins s σ H Q I h;exact Subscript_ (Am ha hb I h λv u s2 x y H2 I2 rx ry q=>hr a b pins s2 σ H2 x y v u Q I2 rx ry q (hs _ _))
def L7(K:ag):R2:=λx y H Q=>∃p xs i v,x= .ref p/\y= .int i/\bM K H p xs/\bz xs i=some v/\Q v H
def L5(K:ag):R2:=λx y H Q=>∃p xs i v,x= .ref p/\y= .int i/\bI K H p xs/\bz xs i=some v/\Q v H
def L6:R2:=λx y H Q=>∃z i c,x= .str z/\y= .int i/\z.length<=sizeLine/\bz z.cps.toList i=some c/\Q (.str ⟨#[c]⟩) H
theorem DS:qQ X (L7 X.K):=by
 intro value slice pins s σ H x y v u Q I rx ry h hs;obtain⟨p,xs,i,z,rfl,rfl,hq,he,q⟩:=h;cases rx;obtain⟨t,rfl⟩:=ry;obtain⟨its,r,pl,hz⟩:=I.list hq;obtain⟨j,h1,h2,h3,h4,h5⟩:=y2 he;obtain⟨w,ew,rw'⟩:=r.get h2;have hl:=r.length;have hn:=qk;have fin:EP X pins σ Q w s:=⟨z,H,I,rw',q⟩
 by_cases h0:0<=i
 . have hj:i.toNat=j:=by
    rw[seqIndex_of h0 h5]at h1;exact de h1
   exact item_listR pl.isList h0 ∅ (by rw[hj];simpa using ew) fin hs
 . have hj:(i+(its.toArray.size:Int)).toNat=j:=by
    rw[seqIndex_neg ∅ h4]at h1
    rw[dW,<-hl];exact de h1
   exact subscriptTail_builtinR (x:=w) pl.isList.typeIs slot_list_getitem.lookup
    (wpAny_getItem_list_neg (Q:=λr s'=>r=w/\EP X pins σ Q r s') pl.isList ∅ (by rw[dW]<;>omega) ∅ (by rw[hj];simpa using ew) ⟨rfl,fin⟩) hs
theorem UA:qQ X (L5 X.K):=by
 intro value slice pins s σ H x y v u Q I rx ry h hs;obtain⟨p,xs,i,z,rfl,rfl,hq,he,q⟩:=h;cases rx;obtain⟨t,rfl⟩:=ry;obtain⟨its,r,pl,hz⟩:=I.tuple hq;obtain⟨j,h1,h2,h3,h4,h5⟩:=y2 he;obtain⟨w,ew,rw'⟩:=r.get h2;have hl:=r.length;have hn:=qk;have fin:EP X pins σ Q w s:=⟨z,H,I,rw',q⟩;exact subscriptTail_builtinR (x:=w) pl.typeIs slot_tuple_getitem.lookup
  (getItem_tuple (j:=j) (Q:=λr s'=>r=w/\EP X pins σ Q r s') pl ∅ ∅ (by rw[dW,<-hl];exact h1) (by simpa using ew) ⟨rfl,fin⟩) hs
theorem UB:qQ X L6:=by
 intro value slice pins s σ H x y v u Q I rx ry h hs;obtain⟨z,i,c,rfl,rfl,hz,he,q⟩:=h;obtain⟨t,rfl⟩:=rx;obtain⟨t',rfl⟩:=ry;obtain⟨j,h1,h2,h3,h4,h5⟩:=y2 he;have hl:z.cps.toList.length=z.length:=by simp[Str.length]
 rw[hl]at h1 h4 h5;have hn:=qk;exact tail_any (typeIs_str s z t) slot_str_getitem.lookup (getItem_str (c:=c) (by
  have e1:decide (i< -(2 ^ 63:Int))=false:=fv ∅
  have e2:decide (i ≥ 2 ^ 63)=false:=fv ∅
  rw[e1,e2,Bool.or_false]) (by rw[h1];simpa using h2) ⟨.str ⟨#[c]⟩,H,I.tok _,⟨_,rfl⟩,q⟩) hs
theorem Oz(its:ao)(n j:Nat)(u:Value):Obj.mapSeq (·.setIfInBounds j u) { cls:=.type "list",data:=.seq its.toArray n }= { cls:=.type "list",data:=.seq (its.set j u).toArray n }:=by
 simp[Obj.mapSeq]
theorem Inv.lst{pins:aF}{σ:St}{H:Hp}{s:Shared}{p:Addr}{xs:LV}(I:Inv X pins σ H s)(h:H p=some (.lst xs)):
 ∃(its:ao) (n:Nat),Vals xs its/\s.heap.get? p=some { cls:=.type "list",data:=.seq its.toArray n }/\xs.length<=sizeLine:=by
 obtain⟨z,its,n,r,e⟩:=I.ar p _ h;exact⟨its,n,r,e,z⟩
theorem Inv.oz{pins:aF}{σ:St}{H:Hp}{s:Shared}{p:Addr}{xs ys:LV}{its its':ao}{n n':Nat}{f:Obj->Obj}(I:Inv X pins σ H s)(h:H p=some (.lst xs))
 (ho:s.heap.get? p=some { cls:=.type "list",data:=.seq its.toArray n }) (hf:f { cls:=.type "list",data:=.seq its.toArray n }= { cls:=.type "list",data:=.seq its'.toArray n' }) (r:Vals ys its') (hz:ys.length<=sizeLine) (t:Nat):
 Inv X pins σ (upd H p (.lst ys)) { s with heap:=s.heap.update p f,toks:=t }:=by
 have e:(s.heap.update p f).get? p=some { cls:=.type "list",data:=.seq its'.toArray n' }:=by
  rw[Heap.get?_update_self f ho (by rw[hf]<;>rfl),hf]
 refine I.write (x:=p) (e:=p) (by rw[h];trivial) (.inl rfl) (λb u hb q=>(Heap.get?_update_other _ _ (d9 hb)).trans q) ⟨_,e⟩ ?_
 exact⟨hz,its',n',r,e⟩
noncomputable def pd:V->V->V->Hp->(Hp->Prop)->Prop:=λo i v H Q=>∃p xs k j,o= .ref p/\i= .int k/\H p=some (.lst xs)/\dY xs.length k=some j/\Q (upd H p (.lst (xs.set j v)))
theorem set_list:xp X pd:=by
 intro pins s σ H o i v ov iv u Q I ro ri rv h;obtain⟨p,xs,k,j,rfl,rfl,hp,hj,q⟩:=h;cases ro;obtain⟨t,rfl⟩:=ri;obtain⟨its,n,r,ho,hz⟩:=I.lst hp;obtain⟨h1,h2,h3,h4⟩:=DT hj;have hl:=r.length;have hn:=qk;have I':Inv X pins σ (upd H p (.lst (xs.set j v))) { s with heap:=s.heap.update p (Obj.mapSeq (·.setIfInBounds j u)) }:=
  I.oz hp ho (Oz its n j u) (r.set rv j) (by rw[List.length_set];exact hz) s.toks
 by_cases h0:0<=k
 . have hk:k.toNat=j:=by
    rw[seqIndex_of h0 h4]at h1;exact de h1
   exact PySem.W.ki_setAt ho h0 ∅ (by rw[dW,<-hl];exact h4) (by rw[hk];exact⟨_,I',q⟩)
 . have hk:(k+(its.toArray.size:Int)).toNat=j:=by
    rw[seqIndex_neg ∅ h3]at h1
    rw[dW,<-hl];exact de h1
   exact PySem.W.ki_setBack ho ∅ (by rw[dW,<-hl];exact h3) ∅ (by rw[hk];exact⟨_,I',q⟩)
theorem NH(lo hi:Option Int)(n:Nat):(sliceBounds lo hi none n).1=((HT.aY n 0 lo:Nat):Int)/\(sliceBounds lo hi none n).2.1=((HT.aY n n hi:Nat):Int)/\(sliceBounds lo hi none n).2.2=1:=by
 refine⟨?_,?_,rfl⟩
 . cases lo with
   |none=>simp[sliceBounds,HT.aY]
   |some i=>
    simp only[sliceBounds,HT.aY,Option.getD_none,show(1:Int) > 0 by decide,if_true]
    by_cases h:i<0
    . simp only[h,if_true]<;>omega
    . simp only[h,if_false]<;>omega
 . cases hi with
   |none=>simp[sliceBounds,HT.aY]
   |some i=>
    simp only[sliceBounds,HT.aY,Option.getD_none,show(1:Int) > 0 by decide,if_true]
    by_cases h:i<0
    . simp only[h,if_true]<;>omega
    . simp only[h,if_false]<;>omega
theorem NL(its:ao)(lo hi:Option Int):slicePick its.toArray lo hi none=((its.drop (HT.aY its.length 0 lo)).take (HT.aY its.length its.length hi-HT.aY its.length 0 lo)).toArray:=by
 obtain⟨h1,h2,h3⟩:=NH lo hi its.toArray.size;unfold slicePick;rw[h1,h2,h3];simp only[sliceRange_one,pick_run,dW]<;>rfl
noncomputable def L3 (K:ag):V->Option Int->Option Int->Hp->VK->Prop:=λx lo hi H Q=>∃a xs,x= .ref a/\bM K H a xs/\∀p,H p=none->Q (.ref p) (upd H p (.lst (mK xs lo hi)))
theorem Rz:qU X (L3 X.K):=by
 intro pins s σ H x v vl vu lo hi sl Q I rx hs pl pu h;obtain⟨a,xs,rfl,hx,q⟩:=h;cases rx;obtain⟨its,r,ht,hz⟩:=I.list hx;have hlen:=r.length;refine⟨"list",_,slot_list_getitem.lookup,ht.isList.typeIs,?_⟩;refine wpAny_getItem_list_slice ht.isList hs pl pu .none (by simp) ?_ (by rw[dW]<;>omega)
 rw[NL,<-hlen];refine⟨.ref s.heap.objs.size,_,I.laid (t':=s.toks) (o:=.lst (mK xs lo hi)) (λb ob q=>bS _ q) (ba _) ?_,rfl,q _ (I.ar.fresh (ba _))⟩
 exact⟨c6 (CC xs lo hi) hz,_,0,(r.drop (HT.aY xs.length 0 lo)).take (HT.aY xs.length xs.length hi-HT.aY xs.length 0 lo),dz _ rfl⟩
theorem yG:cV X (.builtin "len") (λxs H Q=>∃p ys,xs= [.ref p]/\(bM X.K H p ys∨bI X.K H p ys)/\Q (.int ys.length) H):=by
 intro pins s σ H xs us Q I r h;obtain⟨p,ys,rfl,hq,q⟩:=h;obtain⟨u,rfl,rx⟩:=vals1 r;cases rx;have hn:=qk;rcases hq with hq|hq
 . obtain⟨its,r',pl,hz⟩:=I.list hq
   have hlen:=r'.length;exact Calls.call_len_list pl.isList (by simp only[dW]<;>omega) ⟨.int ys.length,H,I.tok _,⟨s.toks+1,by rw[dW,hlen]⟩,q⟩
 . obtain⟨its,r',pl,hz⟩:=I.tuple hq
   have hlen:=r'.length;exact len_tuple pl (by simp only[dW]<;>omega) ⟨.int ys.length,H,I.tok _,⟨s.toks+1,by rw[dW,hlen]⟩,q⟩
theorem N0:cV X (.builtin "len") (λxs H Q=>∃z,xs= [.str z]/\z.length<=sizeLine/\Q (.int z.length) H):=by
 intro pins s σ H xs us Q I r h;obtain⟨z,rfl,hz,q⟩:=h;obtain⟨u,rfl,t,rfl⟩:=vals1 r;have hn:=qk;exact len_str ∅ ⟨.int z.length,H,I.tok _,⟨_,rfl⟩,q⟩
def Kz(K:ag)(T:String)(x:V)(H:Hp):Prop:=match x with
 | .str _=>T= "str"
 | .int _=>T= "int"
 | .ref p=>(T= "list"/\∃xs,bM K H p xs)∨(T= "tuple"/\∃o,K.lookup p=some o/\o.cls= .type "tuple"/\o.dict=none)∨
  (T= "dict"/\((∃kvs,H p=some (.dK kvs))∨∃kvs,H p=some (.dT kvs)))∨(T= "set"/\∃S n,H p=some (.set S n))
 |_=>False
theorem S3{pins:aF}{σ:St}{H:Hp}{s:Shared}{T:String}{x:V}{v:Value}(I:Inv X pins σ H s)(r:RelV x v)(ty:Kz X.K T x H):
 s.TypeIs v T/\∀a,v= .ref a->∃ob,s.heap.get? a=some ob/\ob.dict=none:=by
 cases x with
 |str z=>
  obtain⟨t,rfl⟩:=r;cases(show T= "str" from ty)
  exact⟨typeIs_str s z t,λ_ e=>nomatch e⟩
 |int i=>
  obtain⟨t,rfl⟩:=r;cases(show T= "int" from ty)
  exact⟨typeIs_int s i t,λ_ e=>nomatch e⟩
 |ref p=>
  cases r;rcases ty with⟨rfl,xs,hq⟩|⟨rfl,o,hk,hc,hd⟩|⟨rfl,hk⟩|⟨rfl,S,n,hk⟩
  . obtain⟨its,_,pl,_⟩:=I.list hq
    refine⟨pl.isList.typeIs,λa e=>?_⟩
    cases e;obtain⟨o,n,e,c,hd,_⟩:=pl;exact⟨o,e,hd⟩
  . refine⟨⟨o,I.bW p o hk,hc⟩,λa e=>?_⟩
    cases e;exact⟨o,I.bW _ o hk,hd⟩
  . have z:∃o,s.heap.get? p=some o/\o.ExactDict:=by
     rcases hk with⟨kvs,hk⟩|⟨kvs,hk⟩
     . obtain⟨_,_,_,_,o,_,_,e,ex,_⟩:=I.ar p _ hk
       exact⟨o,e,ex⟩
     . obtain⟨_,_,_,_,o,_,_,e,ex,_⟩:=I.ar p _ hk
       exact⟨o,e,ex⟩
    obtain⟨o,e,ex⟩:=z;refine⟨⟨o,e,ex.1⟩,λa e2=>?_⟩
    cases e2;exact⟨o,e,ex.2.1⟩
  . obtain⟨o,_,_,_,e,ex,_⟩:=I.ar p _ hk
    refine⟨⟨o,e,ex.1⟩,λa e2=>?_⟩
    cases e2;exact⟨o,e,ex.2.1⟩
 |_=>exact False.elim ty
noncomputable def Xv (K:ag)(T:String)(r:V->LV->Hp->VK->Prop)(to:TE)(t:TA):TE:=λσ H Q=>to σ H λx H1=>Kz K T x H1/\t σ H1 λxs H2=>r x xs H2 Q
variable {o e:Expr}{es:aT}{to:TE}{t:TA}{name:Str}{apos cpos:Pos}{T id:String}{r:V->LV->Hp->VK->Prop}
theorem V8(pa:PlainAttrs T)(slot:Slot T name id)(hty:typeOf (.builtin id)=pure (.type "method_descriptor"))(hm:KO X id r)(ho:PE X o to)(ha:PA X (e::es) t)
 (hbase:attributeBase o name X.env (eval o X.env)=eval o X.env:=by rfl)
 (hfew:((backTo cpos (starEach (e::es) X.env)).all (λx=>!x.1)&&(backToKw cpos (keywordEach [] X.env)).all (λx=>x.1.isSome)
  &&decide ((e::es).length+([]:List Keyword).length+(if([]:List Keyword).isEmpty then 0 else 1)<30))=true:=by rfl)
 (hline:(apos.endLine==cpos.line)=true:=by rfl) (hs:starEach (e::es) X.env=(false,eval e X.env)::starEach es X.env:=by rfl) (hplain:(backTo cpos (starEach es X.env)).any (·.1)=false:=by rfl):
 PE X (.Call (.Attribute o name apos) (e::es) [] cpos) (Xv X.K T r to t):=by
 intro pins s σ H Q I h;refine wpAny_Call_method_late hbase hfew hline rfl (aB (ho pins s σ H _ I h) λv s1 zz=>?_);obtain⟨x,H1,I1,r1,ty,q1⟩:=zz
 obtain⟨h1,h2⟩:=S3 I1 r1 ty;refine⟨T,id,pa,slot,hty,h1,h2,?_⟩;have hA:=ha cpos pins s1 σ H1 _ I1 q1;rw[hs]at hA ⊢;refine Calls.callWith_builtin (by show(false||(backTo cpos (starEach es X.env)).any (·.1))=false;rw[hplain]<;>rfl) (Calls.evalArgs_plain ?_)
 exact aB hA λus s2 ⟨vs,H2,I2,r2,q2⟩=>hm pins s2 σ H2 x vs v us Q I2 r1 r2 q2
end
def KN(X:Cx)(id:String)(r:V->LV->Hp->VK->Prop):Prop:=
 ∀(pins:aF) (s:Shared) (σ:St) (H:Hp) (x:V) (xs:LV) (v:Value) (us:ao) (Q:VK),Inv X pins σ H s->RelV x v->Vals xs us->r x xs H Q->
  wpAny (model X.prog X.w) X.A (call (.builtin id) (v::us)) (EP X pins σ Q) X.xe s
theorem Vals.one:∀{x:V} {us:ao},Vals [x] us->∃u,us= [u]/\RelV x u
 |_,_,.cons r .nil=>⟨_,rfl,r⟩
theorem Vals.rep{xs:LV}{us:ao}(h:Vals xs us):∀k:Nat,Vals (List.replicate k xs).flatten (List.replicate k us).flatten
 |0=>.nil
 |k+1=>by
  rw[mV,mV,qL,qL];exact Vals.append h (Vals.rep h k)
theorem foldl_rep(its:ao):∀(k:Nat) (acc:ao),
 List.foldl (λx1 x2=>x1++x2) acc.toArray (List.replicate k its.toArray)=(acc++(List.replicate k its).flatten).toArray
 |0,acc=>by simp
 |k+1,acc=>by
  have e:acc.toArray++its.toArray=(acc++its).toArray:=by simp
  have e2:(acc++its)++(List.replicate k its).flatten=acc++(List.replicate (k+1) its).flatten:=by
   rw[mV,qL,List.append_assoc]
  rw[<-e2,<-foldl_rep its k (acc++its),<-e,mV,List.foldl_cons]
section
variable {X:Cx}{pins:aF}{σ:St}{H:Hp}{s:Shared}{l b:Addr}{xs ys zs:LV}
theorem Inv.yk{its its':ao}{n:Nat}{f:Array Value->Array Value}{t':Nat}(I:Inv X pins σ H s)(hH:H l=some (.lst xs))
 (e:s.heap.get? l=some { cls:=.type "list",data:=.seq its.toArray n }) (hf:f its.toArray=its'.toArray) (hv:Vals ys its') (hz:ys.length<=sizeLine):
 Inv X pins σ (upd H l (.lst ys)) { s with heap:=s.heap.update l (Obj.mapSeq f),toks:=t' }:=by
 have q:=PySem.IsL.update e f;rw[hf]at q;refine I.write (x:=l) (e:=l) (by rw[hH];exact trivial) (.inl rfl) (λb' u hb hu=>(Heap.get?_update_other s.heap (Obj.mapSeq f) (d9 hb)).trans hu) ⟨_,q⟩ ?_
 exact⟨hz,its',_,hv,q⟩
theorem Inv.yj{its:ao}{t':Nat}(I:Inv X pins σ H s)(hv:Vals ys its)(hz:ys.length<=sizeLine):
 Inv X pins σ (upd H s.heap.objs.size (.lst ys)) { s with heap:=s.heap.push { cls:=.type "list",data:=.seq its.toArray },toks:=t' }:=
 I.laid (λ_ _ q=>bS _ q) (ba _) ⟨hz,its,0,hv,dz _ rfl⟩
theorem Inv.fresh(I:Inv X pins σ H s):H s.heap.objs.size=none:=I.ar.fresh (ba _)
theorem Inv.rj(I:Inv X pins σ H s)(hH:H l=some (.lst xs)):xs.length<=sizeLine/\∃(its:ao) (n:Nat),Vals xs its/\xs.length=its.length/\s.heap.get? l=some { cls:=.type "list",data:=.seq its.toArray n }:=by
 obtain⟨z,its,n,r,e⟩:=I.ar l _ hH;exact⟨z,its,n,r,r.length,e⟩
theorem Qo{n:Nat}(h:n<=sizeLine):Builtin.List.listTooLong n=false:=by
 unfold Builtin.List.listTooLong;exact fv ∅
end
section
variable {X:Cx}
noncomputable def RX:V->LV->Hp->VK->Prop:=λx vs H Q=>∃l xs y,x= .ref l/\vs= [y]/\H l=some (.lst xs)/\xs.length<sizeLine/\Q .au (upd H l (.lst (xs++ [y])))
theorem Pz:KN X "list.append" RX:=by
 intro pins s σ H x vs v us Q I rx rv h;obtain⟨l,xs,y,rfl,rfl,hH,hz,q⟩:=h;cases rx;obtain⟨u,rfl,ru⟩:=rv.one;obtain⟨z,its,n,r,hl,e⟩:=I.rj hH;refine call_meets F.slot_list_append ⟨_,e,rfl⟩ F.entry_list_append (F.args_list_append_2 _ _) (PySem.list_append l its.toArray n u (by rw[dW];omega)) ⟨e,?_⟩
 refine⟨.au,_,I.yk (its':=its++ [u]) hH e (by simp) (r.append (.cons ru .nil)) ?_,rfl,q⟩
 rw[jF,List.length_singleton];omega
noncomputable def L4:R2:=λx y H Q=>∃l k xs,x= .ref l/\y= .int k/\H l=some (.lst xs)/\-(2 ^ 63)<=k/\k<2 ^ 63/\xs.length*k.toNat<=sizeLine/\
 ∀p,H p=none->Q (.ref p) (upd H p (.lst (List.replicate k.toNat xs).flatten))
theorem len_rep{α:Type}(xs:List α)(k:Nat):(List.replicate k xs).flatten.length=k*xs.length:=by
 induction k with
 |zero=>simp
 |succ k ih=>rw[mV,qL,jF,ih,Nat.succ_mul,Nat.add_comm]
theorem Tr:cN X (binaryOp .Mult) L4:=by
 intro pins s σ H x y v u Q I rx ry h;obtain⟨l,k,xs,rfl,rfl,hH,h1,h2,hz,q⟩:=h;cases rx;obtain⟨t,rfl⟩:=ry;obtain⟨z,its,n,r,hl,e⟩:=I.rj hH;have hlen:its.toArray.size*k.toNat<=sizeLine:=by rw[dW,<-hl];exact hz
 have hcap:¬its.toArray.size*k.toNat > (2 ^ 63-1) / 8:=by
  have:(sizeLine:Nat)<=(2 ^ 63-1) / 8:=by decide
  omega
 have hfit:¬(!Builtin.List.listFitsIndex k)=true:=by
  rw[fitsIndex_both h1 h2];exact gZ
 have hlong:¬Builtin.List.listTooLong (its.toArray.size*k.toNat)=true:=by
  rw[Qo hlen];exact gZ
 have hnew:List.foldl (λx1 x2=>x1++x2) #[] (List.replicate (if its.toArray.isEmpty=true then 0 else k.toNat) its.toArray)=(List.replicate k.toNat its).flatten.toArray:=by
  have f0:∀m:Nat,List.foldl (λx1 x2=>x1++x2) #[] (List.replicate m its.toArray)=(List.replicate m its).flatten.toArray:=λm=>by
   have:=foldl_rep its m [];rw[xN]at this;exact this
  rw[f0];cases its with
  |nil=>simp
  |cons a r'=>rw[aj (by simp)]
 refine wpAny_binaryOp_repeat_ref (T:="list") (U:="int") ⋯ ⟨_,e,rfl⟩ (λs'=>typeIs_int s' k t) noFill_list_mul F.fills_int_mul F.slot_int_rmul repeat_list F.slot_int_index.lookup
  (call_meets F.slot_int_rmul (typeIs_int s k t) F.entry_int_rmul (F.args_int_rmul_2 _ _) (int___rmul___int_list k t l its.toArray n)
   ⟨e,rfl,⟨_,e,rfl⟩,call_meets F.slot_list_mul ⟨_,e,rfl⟩ F.entry_list_mul (F.args_list_mul_2 _ _) (AutoListH.list___mul___list_int_3 l its.toArray n k t hfit hcap hlong) ⟨e,?_⟩⟩)
 rw[hnew];exact⟨.ref _,_,I.yj (t':=s.toks) (r.rep k.toNat) (by rw[len_rep,Nat.mul_comm];exact hz),rfl,q _ I.fresh⟩
end
section
variable {κ:Type}[DecidableEq κ]
noncomputable def fj (kvs:List (κ×V))(k:κ):Option V:=(kvs.find? λkv=>decide (kv.1=k)).map (·.2)
noncomputable def putK (kvs:List (κ×V))(k:κ)(v:V):List (κ×V):=
 if(kvs.any λkv=>decide (kv.1=k))=true then kvs.map (λkv=>if kv.1=k then(kv.1,v)else kv)else kvs++ [(k,v)]
noncomputable def i5 (kvs:List (κ×V))(k:κ):List (κ×V):=kvs.filter λkv=>decide (kv.1≠k)
theorem sC{p:κ×V}{r:List (κ×V)}{k:κ}(e:p.1=k):fj (p::r) k=some p.2:=by simp[fj,iC,e]
theorem oM{p:κ×V}{r:List (κ×V)}{k:κ}(e:¬p.1=k):fj (p::r) k=fj r k:=by simp[fj,iC,e]
theorem C9(k:κ):∀kvs:List (κ×V),(kvs.any λkv=>decide (kv.1=k))=(fj kvs k).isSome
 | []=>rfl
 |p::r=>by
  rw[mZ]
  by_cases e:p.1=k
  . simp only[sC e,mY e,Bool.true_or,Option.isSome_some]
  . rw[oM e,fv e,Bool.false_or];exact C9 k r
theorem Cf(kvs:List (κ×V))(k:κ)(v:V):(putK kvs k v).length<=kvs.length+1:=by
 unfold putK;split
 . rw[cb];omega
 . rw[jF,dc,List.length_nil];omega
theorem bG.bc{o:Option V}{u:bU}(r:bG o u):o.isSome=u.isSome:=by
 cases o with
 |none=>cases u with
  |none=>rfl
  |some _=>exact(show False from r).elim
 |some _=>cases u with
  |none=>exact(show False from r).elim
  |some _=>rfl
theorem bG.getD{o:Option V}{u:bU}{d:V}{d':Value}(r:bG o u)(rd:RelV d d'):RelV (o.getD d) (u.getD d'):=by
 cases o with
 |none=>cases u with
  |none=>exact rd
  |some _=>exact(show False from r).elim
 |some _=>cases u with
  |none=>exact(show False from r).elim
  |some _=>exact r
theorem KV.val{kvs:List (κ×V)}{vs:List (κ×Value)}(r:KV kvs vs)(k:κ):bG (fj kvs k) (valueAt vs k):=by
 unfold KV at r
 induction r with
 |nil=>exact True.intro
 | @cons p q ps qs h t ih=>
  obtain⟨h1,h2⟩:=h
  by_cases e:p.1=k
  . have e':q.1=k:=h1.symm.trans e
    have b:valueAt (q::qs) k=some q.2:=by simp[valueAt,iC,e']
    rw[sC e,b];exact h2
  . have e':¬q.1=k:=λz=>e (h1.trans z)
    have b:valueAt (q::qs) k=valueAt qs k:=by simp[valueAt,iC,e']
    rw[oM e,b];exact ih
theorem KV.any{kvs:List (κ×V)}{vs:List (κ×Value)}(r:KV kvs vs)(k:κ):(kvs.any λkv=>decide (kv.1=k))=vs.any λkv=>decide (kv.1=k):=by
 unfold KV at r
 induction r with
 |nil=>rfl
 |cons h t ih=>rw[mZ,mZ,ih,h.1]
theorem KV.pI{kvs:List (κ×V)}{vs:List (κ×Value)}(r:KV kvs vs)(k:κ){y:V}{u:Value}(ry:RelV y u):
 KV (kvs.map λkv=>if kv.1=k then(kv.1,y)else kv) (vs.map λkv=>if kv.1=k then(kv.1,u)else kv):=by
 unfold KV at r ⊢
 induction r with
 |nil=>exact .nil
 | @cons p q ps qs h t ih=>
  rw[cK,cK];refine .cons ?_ ih;obtain⟨h1,h2⟩:=h
  by_cases e:p.1=k
  . rw[az e,az (h1.symm.trans e)];exact⟨h1,ry⟩
  . rw[aj e,aj (λz=>e (h1.trans z))];exact⟨h1,h2⟩
theorem KV.put{kvs:List (κ×V)}{vs:List (κ×Value)}(r:KV kvs vs)(k:κ){y:V}{u:Value}(ry:RelV y u):KV (putK kvs k y) (stored vs k u):=by
 unfold putK stored;rw[r.any k]
 by_cases e:(vs.any λkv=>decide (kv.1=k))=true
 . rw[az e,az e];exact r.pI k ry
 . rw[aj e,aj e];exact Paired.snoc r ⟨rfl,ry⟩
theorem KV.drop{kvs:List (κ×V)}{vs:List (κ×Value)}(r:KV kvs vs)(k:κ):KV (i5 kvs k) (without vs k):=by
 unfold KV at r ⊢;unfold i5 without
 induction r with
 |nil=>exact .nil
 | @cons p q ps qs h t ih=>
  obtain⟨h1,h2⟩:=h;rw[lJ,lJ]
  by_cases e:p.1=k
  . have a:¬decide (p.1≠k)=true:=by simp[e]
    have b:¬decide (q.1≠k)=true:=by simp[h1.symm.trans e]
    rw[aj a,aj b];exact ih
  . have e':¬q.1=k:=λz=>e (h1.trans z)
    have a:decide (p.1≠k)=true:=by simp[e]
    have b:decide (q.1≠k)=true:=by simp[e']
    rw[az a,az b];exact .cons ⟨h1,h2⟩ ih
theorem KV.length{kvs:List (κ×V)}{vs:List (κ×Value)}(r:KV kvs vs):kvs.length=vs.length:=Paired.length r
theorem Qj(kvs:List (κ×V))(k:κ):(i5 kvs k).length<=kvs.length:=List.length_filter_le _ _
end
theorem i4{P:Program}{w:World}{k:Key}{u:Value}(r:RelV (kV k) u):(cH P w).is k u=true:=by
 cases k with
 |inl i=>obtain⟨t,e⟩:=(show ∃t,u=Value.int i t from r);subst e;exact Ov P w i t
 |inr x=>obtain⟨t,e⟩:=(show ∃t,u=Value.str x t from r);subst e;exact Ck P w x t
theorem Wj{P:Program}{w:World}{k:bC}{u:Value}(r:RelV (oV k) u):(optKind P w).is k u=true:=by
 cases k with
 |none=>cases(show u=Value.none from r);rfl
 |some j=>exact i4 (P:=P) (w:=w) r
theorem CO{P:Program}{w:World}:∀{ks:List bC} {us:ao},Vals (ks.map oV) us->ItemsAre (optKind P w) ks us
 | [],_,r=>by rw[tY]at r;cases r;exact .nil
 |k::ks,_,r=>by
  rw[cK]at r;cases r with
  |cons h t=>exact .cons (Wj h) (CO t)
abbrev KT(H:Hp):List (List bC×V)->List (List bC×Addr×Value)->Prop:=Paired λp q=>p.1=q.1/\H q.2.1=some (.tup (p.1.map oV))/\RelV p.2 q.2.2
theorem KT.val{H:Hp}{kvs:List (List bC×V)}{xs:List (List bC×Addr×Value)}(r:KT H kvs xs)(k:List bC):bG (fj kvs k) ((atKey xs k).map (·.2)):=by
 induction r with
 |nil=>exact True.intro
 | @cons p q ps qs h t ih=>
  obtain⟨h1,_,h2⟩:=h
  by_cases e:p.1=k
  . have e':q.1=k:=h1.symm.trans e
    have b:atKey (q::qs) k=some q.2:=by simp[atKey,iC,e']
    rw[sC e,b];exact h2
  . have e':¬q.1=k:=λz=>e (h1.trans z)
    have b:atKey (q::qs) k=atKey qs k:=by simp[atKey,iC,e']
    rw[oM e,b];exact ih
theorem KT.pI{H:Hp}{kvs:List (List bC×V)}{xs:List (List bC×Addr×Value)}(r:KT H kvs xs)(k:List bC){y:V}{u:Value}(ry:RelV y u):
 KT H (kvs.map λkv=>if kv.1=k then(kv.1,y)else kv) (xs.map (putAt k u)):=by
 induction r with
 |nil=>exact .nil
 | @cons p q ps qs h t ih=>
  rw[cK,cK];refine .cons ?_ ih;obtain⟨h1,h2,h3⟩:=h;unfold putAt
  by_cases e:p.1=k
  . rw[az e,az (h1.symm.trans e)];exact⟨h1,h2,ry⟩
  . rw[aj e,aj (λz=>e (h1.trans z))];exact⟨h1,h2,h3⟩
theorem KT.put{H:Hp}{kvs:List (List bC×V)}{xs:List (List bC×Addr×Value)}(r:KT H kvs xs)(k:List bC){b:Addr}{y:V}{u:Value}(hb:H b=some (.tup (k.map oV)))(ry:RelV y u):
 KT H (putK kvs k y) (storedH xs k b u):=by
 have e:(kvs.any λkv=>decide (kv.1=k))=(atKey xs k).isSome:=by
  rw[C9,(r.val k).bc,qM]
 unfold putK storedH;rw[e]
 by_cases q:(atKey xs k).isSome=true
 . rw[az q,az q];exact r.pI k ry
 . rw[aj q,aj q];exact Paired.snoc r ⟨rfl,hb,ry⟩
theorem KT.keeps{H H':Hp}{kvs:List (List bC×V)}{xs:List (List bC×Addr×Value)}(r:KT H kvs xs)(ht:∀b ys,H b=some (.tup ys)->H' b=some (.tup ys)):KT H' kvs xs:=
 Paired.oA r λ_ _ z=>⟨z.1,ht _ _ z.2.1,z.2.2⟩
section
variable {P:Program}{w:World}{H:Hp}{h:Heap}{a:Addr}
theorem FI{u:HO}(ok:bL P w H h)(e:Rd H a u):aH P w H h a u:=e.ok ok
theorem mB{kvs:List (Key×V)}(ok:bL P w H h)(e:Rd H a (.dK kvs)):kvs.length<=sizeLine/\(a==sysModules)=false/\∃vs,KV kvs vs/\h.DictOf (cH P w) a vs:=
 show aH P w H h a (.dK kvs)from FI ok e
theorem Gf{kvs:List (Key×V)}(ok:bL P w H h)(e:H a=some (.dK kvs)):kvs.length<=sizeLine/\(a==sysModules)=false/\∃vs,KV kvs vs/\h.DictOf (cH P w) a vs:=mB ok (.inl e)
theorem oZ{ks:List bC}(ok:bL P w H h)(e:H a=some (.tup (ks.map oV))):(tupleKind (optKind P w)).is h ks a:=by
 obtain⟨_,its,r,o,h1,h2,n,h3⟩:=(show aH P w H h a (.tup (ks.map oV))from ok a _ e)
 exact⟨o,its.toArray,n,h1,h2,h3,by simpa using CO r⟩
theorem o9{kvs:List (List bC×V)}(ok:bL P w H h)(e:Rd H a (.dT kvs)):kvs.length<=sizeLine/\(a==sysModules)=false/\
 ∃xs,KT H kvs xs/\h.DictOfH (tupleKind (optKind P w)) a xs:=by
 obtain⟨z,y,xs,r,o,es,ep,h1,h2,h3,h4,h5⟩:=(show aH P w H h a (.dT kvs)from FI ok e)
 refine⟨z,y,xs,r,o,es,ep,h1,h2,h3,h4,λx hx=>?_,h5⟩
 have all:∀{l:List (List bC×V)} {m:List (List bC×Addr×Value)},KT H l m->∀x∈m,(tupleKind (optKind P w)).is h x.1 x.2.1:=by
  intro l m q
  induction q with
  |nil=>intro x hx;exact nomatch hx
  | @cons p q ps qs hq t ih=>
   intro x hx;rcases cM.mp hx with e|hx
   . subst e
     exact oZ ok (by rw[<-hq.1];exact hq.2.1)
   . exact ih x hx
 exact all r x hx
theorem zG{kvs:List (List bC×V)}(ok:bL P w H h)(e:H a=some (.dT kvs)):kvs.length<=sizeLine/\(a==sysModules)=false/\
 ∃xs,KT H kvs xs/\h.DictOfH (tupleKind (optKind P w)) a xs:=o9 ok (.inl e)
end
def bJ(H:Hp)(a:Addr)(y:V)(r:Option V):Prop:=
 (∃kvs k,Rd H a (.dK kvs)/\y=kV k/\r=fj kvs k)∨∃kvs k b,Rd H a (.dT kvs)/\y= .ref b/\H b=some (.tup (k.map oV))/\r=fj kvs k
def eN(H:Hp)(a:Addr)(y v:V)(H':Hp):Prop:=
 (∃kvs k,H a=some (.dK kvs)/\y=kV k/\kvs.length<sizeLine/\H'=upd H a (.dK (putK kvs k v)))∨
 ∃kvs k b,H a=some (.dT kvs)/\y= .ref b/\H b=some (.tup (k.map oV))/\kvs.length<sizeLine/\H'=upd H a (.dT (putK kvs k v))
theorem bJ.k{H:Hp}{a:Addr}{kvs:List (Key×V)}{k:Key}(e:H a=some (.dK kvs)):bJ H a (kV k) (fj kvs k):=.inl ⟨kvs,k,.inl e,rfl,rfl⟩
theorem bJ.t{H:Hp}{a b:Addr}{kvs:List (List bC×V)}{k:List bC}(e:H a=some (.dT kvs))(eb:H b=some (.tup (k.map oV))):bJ H a (.ref b) (fj kvs k):=.inr ⟨kvs,k,b,.inl e,rfl,eb,rfl⟩
theorem eN.k{H:Hp}{a:Addr}{kvs:List (Key×V)}{k:Key}{v:V}(e:H a=some (.dK kvs))(hl:kvs.length<sizeLine):eN H a (kV k) v (upd H a (.dK (putK kvs k v))):=.inl ⟨kvs,k,e,rfl,hl,rfl⟩
theorem eN.t{H:Hp}{a b:Addr}{kvs:List (List bC×V)}{k:List bC}{v:V}(e:H a=some (.dT kvs))(eb:H b=some (.tup (k.map oV)))(hl:kvs.length<sizeLine):
 eN H a (.ref b) v (upd H a (.dT (putK kvs k v))):=.inr ⟨kvs,k,b,e,rfl,eb,hl,rfl⟩
section
variable {X:Cx}{pins:aF}{σ:St}{H:Hp}{s:Shared}{a:Addr}{y v:V}{u r:Value}{o:Option V}{A:Around}{E:aP}
theorem Inv.big(I:Inv X pins σ H s):sysModules<s.heap.objs.size:=by
 have h:mainGlobals<s.heap.objs.size:=(I.mod.glob.keeps I.bk).lt;exact ji ⋯ h
theorem P7{Q:aP}(hu:A.units+1<cLine)(I:Inv X pins σ H s)(g:bJ H a y (some v))(ry:RelV y u)(h:∀w' s',Inv X pins σ H s'->RelV v w'->Q w' s'):
 wpAny (model X.prog X.w) A (getItem (.ref a) u) Q E s:=by
 rcases g with⟨kvs,k,e,ey,l⟩|⟨kvs,k,b,e,ey,eb,l⟩
 . subst ey
   obtain⟨z,hd,vs,rel,dd⟩:=mB I.ar e;obtain⟨w',hw,rw'⟩:=bG.some_of (v:=v) (o:=valueAt vs k) (by rw[l];exact rel.val k)
   exact wpAny_getItem_of (i4 ry) dd.mapOf hw (h w' _ (I.tok _) rw')
 . subst ey
   cases(show u=Value.ref b from ry)
   obtain⟨z,hd,xs,rel,dd⟩:=o9 I.ar e;obtain⟨w',hw,rw'⟩:=bG.some_of (v:=v) (o:=(atKey xs k).map (·.2)) (by rw[l];exact rel.val k)
   obtain⟨p,hp,hp2⟩:=Option.map_eq_some_iff.mp hw;refine wpAny_getItem_heap (tupleKind_room_in1 hu) (oZ I.ar eb) dd hp ?_;rw[hp2];exact h w' _ (I.tok _) rw'
theorem Np{Q:aP}(hu:A.units+1<cLine)(I:Inv X pins σ H s)(g:bJ H a y o)(ry:RelV y u)(h:∀s',Inv X pins σ H s'->Q (.bool o.isSome) s'):
 wpAny (model X.prog X.w) A (compareOp .In u (.ref a)) Q E s:=by
 rcases g with⟨kvs,k,e,ey,l⟩|⟨kvs,k,b,e,ey,eb,l⟩
 . subst ey
   obtain⟨z,hd,vs,rel,dd⟩:=mB I.ar e;refine wpAny_in_of (i4 ry) hd dd.mapOf ?_;rw[<-(rel.val k).bc,<-l];exact h _ (I.tok _)
 . subst ey
   cases(show u=Value.ref b from ry)
   obtain⟨z,hd,xs,rel,dd⟩:=o9 I.ar e;refine wpAny_in_heap (tupleKind_room_in1 hu) (oZ I.ar eb) hd dd ?_;have q:=(rel.val k).bc;rw[qM]at q;rw[<-q,<-l];exact h _ (I.tok _)
theorem Sf{Q:aP}(hu:A.units+1<cLine)(I:Inv X pins σ H s)(g:bJ H a y o)(ry:RelV y u)(h:∀s',Inv X pins σ H s'->Q (.bool (!o.isSome)) s'):
 wpAny (model X.prog X.w) A (compareOp .NotIn u (.ref a)) Q E s:=by
 rcases g with⟨kvs,k,e,ey,l⟩|⟨kvs,k,b,e,ey,eb,l⟩
 . subst ey
   obtain⟨z,hd,vs,rel,dd⟩:=mB I.ar e;refine wpAny_notIn_of (i4 ry) hd dd.mapOf ?_;rw[<-(rel.val k).bc,<-l];exact h _ (I.tok _)
 . subst ey
   cases(show u=Value.ref b from ry)
   obtain⟨z,hd,xs,rel,dd⟩:=o9 I.ar e;refine wpAny_notIn_heap (tupleKind_room_in1 hu) (oZ I.ar eb) hd dd ?_;have q:=(rel.val k).bc;rw[qM]at q;rw[<-q,<-l];exact h _ (I.tok _)
theorem vM{h':Heap}{t':Nat}{ob:HO}(I:Inv X pins σ H s)(mu:qR (H a))(hs:Heap.SameBut a s.heap h')(he:∃q,h'.get? a=some q)(new:aH X.prog X.w (upd H a ob) h' a ob):
 Inv X pins σ (upd H a ob) { s with heap:=h',toks:=t' }:=
 I.write (x:=a) (e:=a) mu (.inl rfl) (λb q hb z=>(hs.2 b hb).trans z) he new
theorem Fb{P:Program}{w:World}{H':Hp}{h':Heap}{kvs:List (Key×V)}{vs:List (Key×Value)}(z:kvs.length<=sizeLine)(hd:(a==sysModules)=false)(rel:KV kvs vs)(dd:h'.DictOf (cH P w) a vs):
 aH P w H' h' a (.dK kvs):=⟨z,hd,vs,rel,dd⟩
theorem P6{H':Hp}{Q:Unit->Shared->Prop}(hu:A.units+1<cLine)(I:Inv X pins σ H s)(g:eN H a y v H')(ry:RelV y u)(rv:RelV v r)(h:∀s',Inv X pins σ H' s'->Q () s'):
 wpAny (model X.prog X.w) A (setItem (.ref a) u r) Q E s:=by
 rcases g with⟨kvs,k,e,ey,l,eH⟩|⟨kvs,k,b,e,ey,eb,l,eH⟩
 . subst ey eH
   obtain⟨z,hd,vs,rel,dd⟩:=Gf I.ar e;have hz:vs.length<=sizeLine:=by rw[<-rel.length];exact z
   have hl:(putK kvs k v).length<=sizeLine:=by have:=Cf kvs k v;omega
   refine wpAny_setItem_pairs (hsz:=hz) (i4 ry) dd λh' dd' hs=>h _ ?_
   have he:∃q,h'.get? a=some q:=let⟨q,_,_,hq,_⟩:=dd';⟨q,hq⟩;exact vM I (by rw[e];exact True.intro) hs he (Fb hl hd (rel.put k rv) dd')
 . subst ey eH
   cases(show u=Value.ref b from ry)
   obtain⟨z,hd,xs,rel,dd⟩:=zG I.ar e;have hz:xs.length<=sizeLine:=by rw[<-Paired.length rel];exact z
   have hl:(putK kvs k v).length<=sizeLine:=by have:=Cf kvs k v;omega
   refine wpAny_setItem_heap (hsz:=hz) (tupleKind_room_in1 hu) (oZ I.ar eb) dd λh' dd' hs=>h _ ?_
   obtain⟨q,es,ep,hq,h2,h3,h4,_,h5⟩:=dd';refine vM I (by rw[e];exact True.intro) hs ⟨q,hq⟩ ⟨hl,hd,_,(rel.put k eb rv).keeps λc ys ec=>?_,q,es,ep,hq,h2,h3,h4,h5⟩
   rw[aK (i0 ec e (λz=>nomatch z))]
   exact ec
end
section
variable {X:Cx}{pins:aF}{σ:St}{H:Hp}{s:Shared}{a:Addr}{kvs:List (Key×V)}{k:Key}{u:Value}{A:Around}{E:aP}
theorem P8{Q:Unit->Shared->Prop}(I:Inv X pins σ H s)(e:H a=some (.dK kvs))(ry:RelV (kV k) u)(l:(fj kvs k).isSome=true)(h:∀s',Inv X pins σ (upd H a (.dK (i5 kvs k))) s'->Q () s'):
 wpAny (model X.prog X.w) A (delItem (.ref a) u) Q E s:=by
 obtain⟨z,hd,vs,rel,dd⟩:=Gf I.ar e;refine wpAny_delItem_slot dd.typeIs ⋯ PySem.F.slot_dict_delitem
  (call_meetsIn PySem.F.slot_dict_delitem dd.typeIs PySem.F.entry_dict_delitem (PySem.F.args_dict_delitem_2 _ _) (meets_dict_delitem_pairs (cH X.prog X.w) a (i4 ry)) ⟨vs,dd,by rw[<-rel.length];exact z,by rw[<-(rel.val k).bc];exact l,λh' dd' hs=>h _ ?_⟩)
 have he:∃q,h'.get? a=some q:=let⟨q,_,_,hq,_⟩:=dd';⟨q,hq⟩;exact vM I (by rw[e];exact True.intro) hs he (Fb (c6 (Qj kvs k) z) hd (rel.drop k) dd')
theorem Xe{Q:aP}(I:Inv X pins σ H s)(e:Rd H a (.dK kvs))(h:∀t s',Inv X pins σ H s'->Q (.int kvs.length t) s'):wpAny (model X.prog X.w) A (call (.builtin "len") [.ref a]) Q E s:=by
 obtain⟨z,hd,vs,rel,dd⟩:=mB I.ar e;refine call_len_dict hd dd (by rw[<-rel.length];rw[sizeLine_eq]at z;omega) ?_
 rw[<-rel.length];exact h _ _ (I.tok _)
end
def xr(i:Expr):Prop:=∀ov iv,subscripted i false ov iv=operate [ov,iv] (getItem ov iv)
theorem DI{prog:Program}{w:World}{A:Around}{E:aP}{s:Shared}{env:Env}{value slice:Expr}{pos:Pos}{T id:String}{Q:aP}
 (hl:typeLookup (.type T) "__getitem__" =pure (some (.builtin id))) (hs:xr slice)
 (h:wpAny (model prog w) A (eval value env) (λo s₁=>wpAny (model prog w) A (eval slice env) (λi s₂=>s₂.TypeIs o T/\wpAny (model prog w) A (getItem o i) Q E s₂) E s₁) E s):
 wpAny (model prog w) A (eval (.Subscript value slice pos) env) Q E s:=by
 refine Subscript_ (eM h (λo s₁ h₁=>eM h₁ (λi s₂ h₂=>?_) λ_ _ x=>x) λ_ _ x=>x)
 obtain⟨hT,h₂⟩:=h₂;unfold subscriptTail;refine ak ?_;rw[getitemInPython_of_ne hT.not_modules];refine ak (wpAny_specialOf hT hl ?_);have fin:wpAny (model prog w) A (subscripted slice false o i) (λr s₃=>wpAny (model prog w) A (letTemporaryGo value o r >>= λ_=>pure r) Q E s₃) E s₂:=by
  rw[hs o i];exact wpAny_operating (eM h₂ (λr s₃ h₃=>ak (wpAny_letTemporaryGo (aR h₃))) λ_ _ x=>x)
 first
  |exact aR (ak fin)
  |exact ak (aR (ak fin))
  |exact ak fin
theorem Ol{X:Cx}{pins:aF}{σ:St}{H:Hp}{s:Shared}{a:Addr}{y:V}{o:Option V}(I:Inv X pins σ H s)(g:bJ H a y o):s.TypeIs (.ref a) "dict":=by
 rcases g with⟨kvs,k,e,_,_⟩|⟨kvs,k,b,e,_,_,_⟩
 . obtain⟨_,_,vs,_,dd⟩:=mB I.ar e
   exact dd.typeIs
 . obtain⟨_,_,xs,_,dd⟩:=o9 I.ar e
   exact dd.typeIs
def Vv(td ty:TE):TE:=λσ H Q=>td σ H λx H1=>ty σ H1 λy H2=>∃a v,x= .ref a/\bJ H2 a y (some v)/\Q v H2
def MI(ty td:TE):TE:=λσ H Q=>ty σ H λy H1=>td σ H1 λx H2=>∃a o,x= .ref a/\bJ H2 a y o/\Q (.bl o.isSome) H2
def R9(ty td:TE):TE:=λσ H Q=>ty σ H λy H1=>td σ H1 λx H2=>∃a o,x= .ref a/\bJ H2 a y o/\Q (.bl (!o.isSome)) H2
def VG(td ty tv:TE):TS:=λD σ H=>tv σ H λv H1=>td σ H1 λx H2=>ty σ H2 λy H3=>∃a H4,x= .ref a/\eN H3 a y v H4/\D.nx σ H4
section
variable {X:Cx}{o i e value:Expr}{pos pos' tpos:Pos}{td ty tv:TE}
theorem Sq(hu:X.A.units+1<cLine)(ho:PE X o td)(hi:PE X i ty)(hs:xr i):PE X (.Subscript o i pos) (Vv td ty):=by
 intro pins s σ H Q I h;refine DI PySem.F.slot_dict_getitem.lookup hs (aB (ho pins s σ H _ I h) λu s1 ⟨x,H1,I1,rx,q1⟩=>aB (hi pins s1 σ H1 _ I1 q1) λiv s2 zz=>?_);obtain⟨y,H2,I2,ry,a,v,ex,g,q2⟩:=zz
 subst ex;obtain rfl:u=Value.ref a:=rx;exact⟨Ol I2 g,P7 hu I2 g ry λw' s3 I3 rw'=>⟨v,H2,I3,rw',q2⟩⟩
theorem Ey(hu:X.A.units+1<cLine)(hi:PE X i ty)(ho:PE X o td):PC X .In i o (MI ty td):=by
 intro pins s σ H Q I h;refine aB (hi pins s σ H _ I h) λiv s1 ⟨y,H1,I1,ry,q1⟩=>aB (ho pins s1 σ H1 _ I1 q1) λu s2 zz=>?_;obtain⟨x,H2,I2,rx,a,ov,ex,g,q2⟩:=zz
 subst ex;obtain rfl:u=Value.ref a:=rx;exact Np hu I2 g ry λs3 I3=>⟨.bl ov.isSome,H2,I3,rfl,q2⟩
theorem C5(hu:X.A.units+1<cLine)(hi:PE X i ty)(ho:PE X o td):PC X .NotIn i o (R9 ty td):=by
 intro pins s σ H Q I h;refine aB (hi pins s σ H _ I h) λiv s1 ⟨y,H1,I1,ry,q1⟩=>aB (ho pins s1 σ H1 _ I1 q1) λu s2 zz=>?_;obtain⟨x,H2,I2,rx,a,ov,ex,g,q2⟩:=zz
 subst ex;obtain rfl:u=Value.ref a:=rx;exact Sf hu I2 g ry λs3 I3=>⟨.bl (!ov.isSome),H2,I3,rfl,q2⟩
theorem Rq(hu:X.A.units+1<cLine)(ho:PE X o td)(hi:PE X i ty)(hv:PE X value tv)(hs:swapsWith value (some (.Subscript o i pos')) pos.line X.env=pure false):
 PS X (.Assign [.Subscript o i pos'] value pos) (VG td ty tv):=by
 intro pins s σ H D I h;refine wpAny_Assign_Subscript (aB (hv pins s σ H _ I h) λr s1 ⟨v,H1,I1,rv,q1⟩=>aB (ho pins s1 σ H1 _ I1 q1) λu s2 ⟨x,H2,I2,rx,q2⟩=>aB (hi pins s2 σ H2 _ I2 q2) λiv s3 zz=>?_) hs;obtain⟨y,H3,I3,ry,a,H4,ex,g,q3⟩:=zz
 subst ex;obtain rfl:u=Value.ref a:=rx;exact P6 hu I3 g ry rv λs4 I4=>⟨σ,H4,I4,q3⟩
end
theorem Qk{P:Program}{w:World}{H:Hp}(h:Heap)(hb:sysModules<h.objs.size):aH P w H (h.push { cls:=.type "dict",data:=.dict #[] }) h.objs.size (.dK []):=
 ⟨lQ _,mW.mpr (d9 (cx hb)),[],.nil,Heap.DictOf.new h⟩
theorem QK{P:Program}{w:World}{H:Hp}(h:Heap)(hb:sysModules<h.objs.size):aH P w H (h.push { cls:=.type "dict",data:=.dict #[] }) h.objs.size (.dT []):=
 ⟨lQ _,mW.mpr (d9 (cx hb)),[],.nil,_,#[],0,dz _ rfl,⟨rfl,rfl,rfl⟩,rfl,rfl,List.nodup_nil⟩
def SN:TE:=λ_ H Q=>∀p,H p=none->Q (.ref p) (upd H p (.dK []))
def SM:TE:=λ_ H Q=>∀p,H p=none->Q (.ref p) (upd H p (.dT []))
section
variable {X:Cx}{pos:Pos}
theorem Q4:PE X (.Dict [] [] pos) SN:=λpins s σ H Q I h=>
 wpAny_Dict_empty ⟨.ref s.heap.objs.size,_,I.laid (a:=s.heap.objs.size) (o:=.dK []) (t':=s.toks) (λ_ _ q=>bS _ q) (ba _) (Qk s.heap I.big),rfl,h _ (I.ar.fresh (ba _))⟩
theorem Q3:PE X (.Dict [] [] pos) SM:=λpins s σ H Q I h=>
 wpAny_Dict_empty ⟨.ref s.heap.objs.size,_,I.laid (a:=s.heap.objs.size) (o:=.dT []) (t':=s.toks) (λ_ _ q=>bS _ q) (ba _) (QK s.heap I.big),rfl,h _ (I.ar.fresh (ba _))⟩
end
structure M1(X:Cx)(o:Expr)(m:Str)(apos:Pos)(e:Expr)(cpos:Pos):Prop where
 base:attributeBase o m X.env (eval o X.env)=eval o X.env
 pW:((backTo cpos (starEach [e] X.env)).all (λx=>!x.1)&&(backToKw cpos (keywordEach [] X.env)).all (λx=>x.1.isSome)
  &&decide (([e]:aT).length+([]:List Keyword).length+(if([]:List Keyword).isEmpty then 0 else 1)<30))=true
 line:(apos.endLine==cpos.line)=true
 trees:backTo cpos (starEach [e] X.env)= [(false,eval e X.env)]
structure M2(X:Cx)(o:Expr)(m:Str)(apos:Pos)(e f:Expr)(cpos:Pos):Prop where
 base:attributeBase o m X.env (eval o X.env)=eval o X.env
 pW:((backTo cpos (starEach [e,f] X.env)).all (λx=>!x.1)&&(backToKw cpos (keywordEach [] X.env)).all (λx=>x.1.isSome)
  &&decide (([e,f]:aT).length+([]:List Keyword).length+(if([]:List Keyword).isEmpty then 0 else 1)<30))=true
 line:(apos.endLine==cpos.line)=true
 trees:backTo cpos (starEach [e,f] X.env)= [(false,eval e X.env),(false,eval f X.env)]
def xT(H:Hp)(a:Addr):Prop:=(∃kvs,Rd H a (.dK kvs))∨∃kvs,Rd H a (.dT kvs)
theorem UH{X:Cx}{pins:aF}{σ:St}{H:Hp}{s:Shared}{a:Addr}(I:Inv X pins σ H s)(d:xT H a):
 s.TypeIs (.ref a) "dict"/\(∀b,Value.ref a= .ref b->∃ob,s.heap.get? b=some ob/\ob.dict=none)/\(a==sysModules)=false:=by
 rcases d with⟨kvs,e⟩|⟨kvs,e⟩
 . obtain⟨_,hd,vs,_,dd⟩:=mB I.ar e
   refine⟨dd.typeIs,λb q=>?_,hd⟩
   cases q;obtain⟨ob,_,_,h1,h2,_⟩:=dd;exact⟨ob,h1,h2.2.1⟩
 . obtain⟨_,hd,xs,_,dd⟩:=o9 I.ar e
   refine⟨dd.typeIs,λb q=>?_,hd⟩
   cases q;obtain⟨ob,_,_,h1,h2,_⟩:=dd;exact⟨ob,h1,h2.2.1⟩
section
variable {X:Cx}{pins:aF}{σ:St}{H:Hp}{s:Shared}{a:Addr}{y d:V}{u r:Value}{o:Option V}{A:Around}{E:aP}
theorem Va{Q:aP}(hu:A.units+1<cLine)(I:Inv X pins σ H s)(g:bJ H a y o)(ry:RelV y u)(h:∀w' s',Inv X pins σ H s'->RelV (o.getD .au) w'->Q w' s'):
 wpAny (model X.prog X.w) A (call (.builtin "dict.get") [.ref a,u]) Q E s:=by
 rcases g with⟨kvs,k,e,ey,l⟩|⟨kvs,k,b,e,ey,eb,l⟩
 . subst ey
   obtain⟨z,hd,vs,rel,dd⟩:=mB I.ar e;refine call_meetsIn PySem.F.slot_dict_get dd.typeIs PySem.F.entry_dict_get (PySem.F.args_dict_get_2 _ _) (meets_dict_get (cH X.prog X.w) a (i4 ry) hd) ⟨_,dd.mapOf,h _ _ (I.tok _) ?_⟩;rw[l];exact(rel.val k).getD rfl
 . subst ey
   cases(show u=Value.ref b from ry)
   obtain⟨z,hd,xs,rel,dd⟩:=o9 I.ar e;refine call_meetsIn PySem.F.slot_dict_get dd.typeIs PySem.F.entry_dict_get (PySem.F.args_dict_get_2 _ _) (meetsH_dict_get (tupleKind (optKind X.prog X.w)) a b hd) ⟨tupleKind_room_in1 hu,k,xs,oZ I.ar eb,dd,h _ _ (I.tok _) ?_⟩;rw[l];exact(rel.val k).getD rfl
end
def SO(td ty:TE):TE:=λσ H Q=>td σ H λx H1=>∃a,x= .ref a/\xT H1 a/\ty σ H1 λy H2=>∃o,bJ H2 a y o/\Q (o.getD .au) H2
section
variable {X:Cx}{o e f:Expr}{apos cpos:Pos}{td ty tx:TE}
theorem Q5(hu:X.A.units+1<cLine)(ho:PE X o td)(he:PE X e ty)(m:M1 X o "get" apos e cpos):PE X (.Call (.Attribute o "get" apos) [e] [] cpos) (SO td ty):=by
 intro pins s σ H Q I h;refine wpAny_Call_method m.base m.pW m.line PySem.F.plainAttrs_dict PySem.F.slot_dict_get PySem.F.type_dict_get (aB (ho pins s σ H _ I h) λu s1 zz=>?_);obtain⟨x,H1,I1,rx,a,ex,d,q1⟩:=zz
 subst ex;obtain rfl:u=Value.ref a:=rx;obtain⟨t1,t2,_⟩:=UH I1 d;refine⟨t1,t2,?_⟩;rw[m.trees];refine Calls.callWith_builtin rfl (Calls.evalArgs_plain (Calls.spliced_cons (aB (he pins s1 σ H1 _ I1 q1) λiv s2 ⟨y,H2,I2,ry,ov,g,q2⟩=>Calls.spliced_nil ?_)))
 exact Va hu I2 g ry λw' s3 I3 rw'=>⟨_,H2,I3,rw',q2⟩
end
end L2
namespace Att
open PySem PySem.W PySem.Calls PyProof.Rows
theorem ND{P:Params}{h:Heap}:∀(ns:List Int) (vs:ao),WellAll P h vs (ns.map WData.int)->IntsAre vs ns:=by
 intro ns
 induction ns with
 |nil=>
  intro vs w;rw[tY]at w;cases w;exact .nil
 |cons n ns ih=>
  intro vs w;rw[cK]at w;cases w with
  |cons a b=>
   cases a;exact .cons _ _ (ih _ b)
theorem OY{l:OpenLaw}{n:Nat}(hn:l.most=some n){P:Params}{h:Heap}{args:List WData}{vals:ao}
 (hpre:l.row.toRowW.claim.pre args=true) (hwl:WellAll P h vals args):
 ∃a vs ns,vals= [Value.ref a]/\args= [WData.list (ns.map WData.int)]/\h.get? a=some { cls:=.type "list",data:=.seq vs.toArray }/\IntsAre vs ns/\ns.length<=n:=by
 have hsh:WShape.hasAll [] args [.list .int]=true:=(pre_splitW hpre).1;have hc:l.pre.holds [] { args:=args }=true:=(pre_splitW hpre).2;obtain⟨d,r,rfl,h1,h2⟩:=hasAllW_cons hsh;obtain rfl:=hasAllW_nil h2;obtain⟨xs,rfl,h3⟩:=hasW_list h1;obtain⟨ns,rfl⟩:=items_int h3;have hlen:ns.length<=n:=by
  unfold OpenLaw.pre at hc;have h4:(WTm.not (.lt (.lit (.int (n:Int))) (.len (.arg 0)))).holds [] { args:=[.list (ns.map .int)] }=true:=by
   have h4:=(holds_andW hc).1;rw[hn]at h4;exact h4
  have h5:=condW_of h4 (w_not (w_lt w_lit (w_len_list (w_arg rfl))));rw[cb]at h5;refine Nat.le_of_not_lt λq=>?_
  have q':(n:Int)<((ns.length:Nat):Int):=by omega
  first
   |(rw[mY q']at h5;exact bp h5 ⋯)
   |(simp at h5;omega)
 cases hwl with
 |cons w1 w2=>
  cases w2;cases w1 with
  |list ho hall=>exact⟨_,_,ns,rfl,rfl,ho,ND ns _ hall,hlen⟩
theorem Pq(l:OpenLaw)(args:List WData):l.row.toRowW.claim.post args (.bool true) args=true:=
 postW_of (r:=l.row.toRowW) (X:=(true==true))
  (show WShape.has [] (.bool true) .bool=true by first|rfl|decide|simp[WShape.has,WShape.arms,WShape.armsAll])
  (show(WTm.eq .res (.lit (.bool true))).value [] { args:=args,res:=some (.bool true),after:=args }=some (.bool (true==true))from w_eq_bool (w_res rfl) w_lit) rfl
theorem fC{l:OpenLaw}{n:Nat}{q:Program}{loose:ay}{XP:(aU)->Heap->Prop}{YP:World->Heap->Prop}{d:DefRec}
 (hn:l.most=some n) (hdf:d.params.defaults= [])
 (call:∀(w:World) (s₀ s₁:Shared) (mg mb:aU) (fa:Addr) (o:Obj) (pm cd doc:Value) (a:Addr) (vs:ao) (ns:List Int),
  Ground q loose [] XP w s₀ mg mb s₁.heap->YP w s₁.heap->
  s₁.heap.get? fa=some o->o.data= .func (docDef d.name d.params d.body d.scope pm cd doc)->s₁.heap.CodeRec cd d.name->mg d.name=some (.ref fa)->
  s₁.heap.get? a=some { cls:=.type "list",data:=.seq vs.toArray }->IntsAre vs ns->ns.length<=n->s₁.gens= #[]->
  codeAny (model l.prog w) callerA (.call (.ref fa) ⟨[.ref a],[]⟩) (λr s'=>r= .ok (.ret (.bool true))/\OldK s₁.heap s'.heap/\s'.os=s₁.os/\AllBare s'.gens) s₁):
 WalkO q loose XP YP l.row.toRowW d [] (λf vs=>PySem.call f vs):=by
 intro w s₀ s₁ mg mb G Y fa o pm cd doc dV kV ho hd hcd hD hmg hg args vals as hpre hlay hrd hwl hlo;obtain rfl:dV= .none:=Dflts.none hD hdf;obtain rfl:kV= .none:=Dflts.noKw hD;obtain⟨a,vs,ns,rfl,rfl,hobj,hints,hlen⟩:=OY hn hpre hwl;refine enter_call (codeAny_mono (call w s₀ s₁ mg mb fa o pm cd doc a vs ns G Y ho (fd_plain hd) hcd hmg hobj hints hlen hg) λr s' hq=>?_)
 obtain⟨rfl,h2,h3,h4⟩:=hq;exact⟨.inl ⟨.bool true,.bool true,[],rfl,λ_=>rfl,.bool true,Pq l _,λ_=>⟨List.Pairwise.nil,λ_ hm=>(nomatch hm)⟩⟩,h2,h3,h4⟩
section
variable {prog:Program}{w:World}{A:Around}{E:aP}{s:Shared}{K:Frag}
noncomputable def ledger (h:Heap)(L d:Addr):aF:=(List.range h.objs.size).filterMap λa=>if a=L∨a=d then none else(h.get? a).map λo=>(a,o)
end
end Att
namespace L2
open PySem PySem.Spec PyProof.Rows
theorem r8:∀{vs:ao} {ns:List Int},IntsAre vs ns->Vals (ns.map V.int) vs
 |_,_,.nil=>.nil
 |_,_,.cons n t h=>.cons ⟨t,rfl⟩ (r8 h)
def xq(H:Hp):Prop:=∀b,H b=none∨∃o xs,H b=some (.aZ o (.lst xs))
theorem Qu{P:Program}{w:World}{K:ag}{mg mb:aU}{CX:gC}{k:Nat}{fa a:Addr}{fd:FuncData}{x:Str}{sp:Sp}{s₁:Shared}{vs:ao}{ns:List Int}
 (KX:K.In s₁.heap) (hns:s₁.heap.Ns mainGlobals mg) (hb:s₁.heap.Ns builtinsNs mb) (hbb:∀x:Str,x≠"__name__"->mb x=bootBuiltins x) (hlim:s₁.heap.NoLimit) (hg:s₁.gens= #[])
 (ha:s₁.heap.get? a=some { cls:=.type "list",data:=.seq vs.toArray }) (hi:IntsAre vs ns) (hl:ns.length<=sizeLine) (hr:aI k callerA)
 (F:∀base:Heap,K.In base->base.Ns mainGlobals mg->bQ P w K mg base CX k fa fd [x] sp) (hbind:∀(s:Shared) (u:Value),BindsTo s fd ⟨[u],[]⟩ [(x,u)])
 (hsp:∀H:Hp,xq H->bM K H a (ns.map V.int)->sp [.ref a] H (λv _=>v= .bl true) λ_ _ _=>False)
 (hCX:∀H e s',CX [] H s₁ (λ_ _ _=>False) e s'->False):
 codeAny (model P w) callerA (.call (.ref fa) ⟨[.ref a],[]⟩) (λr s'=>r= .ok (.ret (.bool true))/\OldK s₁.heap s'.heap/\s'.os=s₁.os/\AllBare s'.gens) s₁:=by
 have rv:=r8 hi;have lenV:=hi.length;have core:∀H:Hp,xq H->bM K H a (ns.map V.int)->bL P w H s₁.heap->(∀b,H b≠none->b=a)->(H a≠none->K.lookup a=none)->
  codeAny (model P w) callerA (.call (.ref fa) ⟨[.ref a],[]⟩) (λr s'=>r= .ok (.ret (.bool true))/\OldK s₁.heap s'.heap/\s'.os=s₁.os/\AllBare s'.gens) s₁:=by
  intro H hO hS ar hA hK;have base_of:∀{b:Addr} {o:Obj},s₁.heap.get? b=some o->H b=none->(lr s₁.heap H).get? b=some o:=λe n=>QC e n
  have noA:∀{b:Addr} {o:Obj} {es:Array DictEntry} {ep:Nat},s₁.heap.get? b=some o->o.data= .dict es ep->H b=none:=λ{b o es ep} e d=>by
   cases q:H b with
   |none=>rfl
   |some u=>
    have e':b=a:=hA b (by rw[q];simp)
    subst e';rw[ha]at e;cases e;have d':Data.seq vs.toArray _=Data.dict es ep:=d;cases d'
  have nsK:∀{b:Addr} {m:aU},s₁.heap.Ns b m->(lr s₁.heap H).Ns b m:=λ{b m} ⟨o,es,ep,e,d,r⟩=>⟨o,es,ep,base_of e (noA e d),d,r⟩
  have hKb:K.In (lr s₁.heap H):=λb o e=>base_of (KX b o e) (by
   cases q:H b with
   |none=>rfl
   |some u=>
    have e':b=a:=hA b (by rw[q];simp)
    subst e';rw[hK (by rw[q];simp)]at e;cases e)
  have hM:Mod K mg (lr s₁.heap H):=⟨hKb,nsK hns,⟨mb,nsK hb,hbb⟩,let⟨mc,h1,h2⟩:=hlim;⟨mc,nsK h1,h2⟩⟩;have e0:fY P w K mg (lr s₁.heap H) callerA [] s₁ H:=⟨rfl,hM,λb o e=>SD e,Nat.le_of_eq (Pg _ _),trivial,λb hb=>bp (show b∈([]:List Addr)from hb) (by simp),ar,.of_eq hg⟩
  refine codeAny_mono ((F _ hKb (nsK hns)).run callerA [] s₁ H ⟨[.ref a],[]⟩ [.ref a] [.ref a] _ _ hr e0 (hbind s₁ (.ref a)) (.cons rfl .nil) (hsp H hO hS)) λr s' h=>?_
  cases r with
  |error e=>exact(hCX H e s' h).elim
  |ok fl=>
   cases fl with
   |next=>exact False.elim h
   |brk=>exact False.elim h
   |cont=>exact False.elim h
   |ret u=>
    obtain⟨v,H',os,bare,un,hok',r',q⟩:=h;have q':v= .bl true:=q;subst q';obtain rfl:u=Value.bool true:=r';refine⟨rfl,OldK.of_keep λb o e=>?_,os,bare⟩
    cases q:H b with
    |none=>exact un.keep b o e q (by intro z;exact bp (show b∈([]:List Addr)from z) (by simp)) (by simp)
    |some u=>
     rcases hO b with z|⟨ob,xs,z⟩
     . rw[q]at z;cases z
     . have z2:=un.aE b ob _ z
       obtain⟨e1,_⟩:=ar b _ z;obtain⟨e2,_⟩:=hok' b _ z2;rw[e]at e1;cases e1;exact e2
 cases hk:K.lookup a with
 |some o=>
  have e:=KX a o hk;rw[ha]at e;cases e;refine core (λ_=>none) (λ_=>.inl rfl) (.inr ⟨_,vs.toArray,_,hk,rfl,rfl,rfl,by rw[dW,lenV];exact hl,by simpa using rv⟩) (λb u z=>by have z':(none:Option HO)=some u:=z;cases z') (λb z=>bp rfl z) λz=>bp rfl z
 |none=>
  refine core (λb=>if b=a then some (.aZ { cls:=.type "list",data:=.seq vs.toArray } (.lst (ns.map V.int)))else none) (λb=>?_) (.inl (.inr ⟨{ cls:=.type "list",data:=.seq vs.toArray },az rfl⟩)) (λb u z=>?_) (λb z=>?_) λ_=>hk
  . by_cases hb:b=a
    . exact .inr ⟨_,_,az hb⟩
    . exact .inl (aj hb)
  . by_cases hb:b=a
    . have z':=(az hb).symm.trans z
      cases z';subst hb;exact⟨ha,by rw[cb];exact hl,vs,_,rv,ha⟩
    . have z':=(aj hb).symm.trans z
      cases z'
  . by_cases hb:b=a
    . exact hb
    . exact bp (aj hb) z
noncomputable abbrev KOf {K:ag} {h:Heap} (_:K.In h):ag:=K
theorem lL{l:PySem.W.OpenLaw}{n k:Nat}{q:Program}{loose:ay}{XP:(aU)->Heap->Prop}{YP:World->Heap->Prop}{d:DefRec}{K:Params->ag}{CX:World->gC}{sp:World->Sp}{x:Str}
 (hn:l.most=some n) (hn2:n<=sizeLine) (hdf:d.params.defaults= []) (hr:aI k callerA)
 (hY:∀(w:World) (h:Heap),YP w h->(K w.params).In h)
 (F:∀(w:World) (mg:aU) (fa:Addr) (h:Heap),(K w.params).In h->h.Ns mainGlobals mg->mg d.name=some (.ref fa)->
  ∃fd:FuncData,(∀(s:Shared) (u:Value),BindsTo s fd ⟨[u],[]⟩ [(x,u)])/\
   ∀base:Heap,(K w.params).In base->base.Ns mainGlobals mg->bQ l.prog w (K w.params) mg base (CX w) k fa fd [x] (sp w))
 (hsp:∀(w:World) (H:Hp) (a:Addr) (ns:List Int),ns.length<=n->xq H->bM (K w.params) H a (ns.map V.int)->sp w [.ref a] H (λv _=>v= .bl true) λ_ _ _=>False)
 (hCX:∀(w:World) (H:Hp) (s:Shared) (e:Value) (s':Shared),CX w [] H s (λ_ _ _=>False) e s'->False):
 PySem.W.WalkO q loose XP YP l.row.toRowW d [] (λf vs=>PySem.call f vs):=by
 refine Att.fC hn hdf λw s₀ s₁ mg mb fa o pm cd doc a vs ns G Y ho hd hcd hmg hobj hints hlen hg=>?_
 have KX:=hY w _ Y;obtain⟨fd,hb,hF⟩:=F w mg fa _ KX G.T.g hmg;exact Qu KX G.T.g G.T.b G.T.builtins G.T.nolimit hg hobj hints (c6 hlen hn2) hr hF hb (λH hO hS=>hsp w H a ns hlen hO hS) λH e s'=>hCX w H s₁ e s'
noncomputable def inClass (s:Stmt)(j:Nat):Stmt:=match s with
 | .ClassDef _ _ _ body _ _ _ _ _ _ _=>body.getD j (.Pass ⟨0,0,0,0⟩)
 |_=>.Pass ⟨0,0,0,0⟩
noncomputable def Eh (s:Stmt):Arguments:=match s with
 | .FunctionDef _ a _ _ _ _ _ _ _ _=>a
 |_=>{ posonlyargs:=[],args:=[],vararg:=none,kwonlyargs:=[],kw_defaults:=[],kwarg:=none,defaults:=[] }
noncomputable def fh (s:Stmt):List Stmt:=match s with
 | .FunctionDef _ _ b _ _ _ _ _ _ _=>b
 |_=>[]
noncomputable def bK (s:Stmt):Scope:=match s with
 | .FunctionDef _ _ _ _ _ _ sc _ _ _=>sc
 |_=>{ kind:=.function,names:=[],isGenerator:=false,isCoroutine:=false }
abbrev eG:gC:=λ_ _ _ _ _ _=>False
abbrev E0:XK:=λ_ _ _=>False
theorem ph{X:Cx}:Passes eG X E0:=λ_ _ _ _ _ _ _ h=>h.elim
structure m7(K:ag)(x qual:Str)(st:Stmt)(f:Addr)(fd:FuncData):Prop where
 ex:∃(oc:Value) (od:Option Addr) (kV doc pm:Value) (an:Option Addr) (cdv ct:Value) (osl:Array (bU)),
  fd=PySem.W.fnOf x qual (Eh st) (fh st) (bK st) .none kV doc pm an cdv ct/\K.lookup f=some ⟨oc,od,.func fd,osl⟩/\PySem.W.codeIn K cdv qual=true
 kp:PySem.W.keepIn K (.ref f)=true
section
variable {P:Program}{w:World}{K:ag}{mg:aU}{base:Heap}
theorem m7.ok{x qual:Str}{st:Stmt}{f:Addr}{fd:FuncData}{N ps:ay}{k:Nat}{sp:Sp}(F:m7 K x qual st f fd)(S:kN N ps (bK st))(len:∀vs H Q E,sp vs H Q E->vs.length=ps.length)
 (hbody:∀(cdv:Value),fd.code=cdv->∀(A:Around) (outer:List Env) (s:Shared) (H:Hp) (vs:LV) (Q:VK) (E:XK),aI k (A.deeper (envOfC qual (bK st) s.heap.objs.size f cdv))->sp vs H Q E->
  ∃t,eX (gh eG P w K mg base N qual (bK st) f cdv A outer s H E).cg (fh st) t/\t { nx:=λ_ H'=>Q .au H',rt:=Q } (start N vs) H):bQ P w K mg base eG (k+1) f fd ps sp:=by
 obtain⟨oc,od,kV,doc,pm,an,cdv,ct,osl,rfl,lk,hcd⟩:=F.ex;refine FL lk hcd S len λA outer s H vs Q E hr hsp=>?_
 obtain⟨t,h,q⟩:=hbody cdv rfl A outer s H vs Q E hr hsp;exact⟨t,h.cg,q⟩
end
theorem la{A:Around}{k:Nat}(hr:aI k A):A.units+1<cLine:=xP (Nat.add_le_add_left (by decide:1<=64) _) hr.units
theorem pB{A B:Prop}(h:B):if false=true then A else B:=by
 rw[aj gZ];exact h
theorem pA{A B:Prop}(h:A):if true=true then A else B:=by
 rw[az rfl];exact h
section
variable {X:Cx}
theorem Qh:cV X (.builtin "len") (λxs H Q=>∃a kvs,xs= [V.ref a]/\H a=some (.dK kvs)/\Q (.int kvs.length) H):=by
 intro pins s σ H xs us Q I r h;obtain⟨a,kvs,rfl,ha,q⟩:=h;obtain⟨u,rfl,ru⟩:=vals1 r;cases ru;exact Xe I (.inl ha) λt s' I'=>⟨.int kvs.length,H,I',⟨t,rfl⟩,q⟩
end
end L2
namespace R
open PySem PySem.Spec PyProof.Rows L2
inductive RV where
 |au|bl (b:Bool)|int (i:Int)|str (x:Str)|ref (a:Addr)|ty (n:String)
 |tup (xs:List RV)|ls (xs:List RV)
abbrev LR:=List RV
abbrev bO:=List (Key×RV)
def Fz(K:ag)(H:Hp)(a:Addr)(vs:LV):Prop:=
 (∃o,H a=some (.aZ o (.lst vs)))∨
  ∃(o:Obj) (its:Array Value) (n:Nat),K.lookup a=some o/\o.cls= .type "list"/\o.dict=Option.none/\o.data= .seq its n/\its.size<=sizeLine/\Vals vs its.toList
theorem Fz.sq{K:ag}{H:Hp}{a:Addr}{vs:LV}(h:Fz K H a vs):bM K H a vs:=by
 rcases h with⟨o,h⟩|h
 . exact .inl (.inr ⟨o,h⟩)
 . exact .inr h
instance {K:ag} {H:Hp} {a:Addr} {xs:LV}:Coe (H a=some (HO.tup xs)) (bI K H a xs):=⟨bI.of⟩
mutual
def Rep(K:ag)(H:Hp):RV->V->Prop
 | .au,v=>v= .au
 | .bl b,v=>v= .bl b
 | .int i,v=>v= .int i
 | .str x,v=>v= .str x
 | .ref a,v=>v= .ref a
 | .ty n,v=>v= .ty n
 | .tup xs,v=>∃a vs,v= .ref a/\H a=some (.tup vs)/\ae K H xs vs
 | .ls xs,v=>∃a vs,v= .ref a/\Fz K H a vs/\ae K H xs vs
def ae(K:ag)(H:Hp):LR->LV->Prop
 | [],vs=>vs= []
 |x::xs,vs=>∃v r,vs=v::r/\Rep K H x v/\ae K H xs r
end
noncomputable def jB:HO->Bool
 | .dK _=>true
 | .dT _=>true
 |_=>false
structure bj(H H':Hp):Prop where
 aV:∀b xs,H b=some (.tup xs)->H' b=some (.tup xs)
 aE:∀b o u,jB u=false->H b=some (.aZ o u)->H' b=some (.aZ o u)
structure Ext(H H':Hp):Prop where
 aV:∀b xs,H b=some (.tup xs)->H' b=some (.tup xs)
 aE:∀b o u,H b=some (.aZ o u)->H' b=some (.aZ o u)
theorem Ext.w{H H':Hp}(e:Ext H H'):bj H H':=⟨e.aV,λb o u _ h=>e.aE b o u h⟩
theorem Ext.refl(H:Hp):Ext H H:=⟨λ_ _ h=>h,λ_ _ _ h=>h⟩
theorem Ext.trans{H H1 H2:Hp}(a:Ext H H1)(b:Ext H1 H2):Ext H H2:=⟨λc x h=>b.aV c x (a.aV c x h),λc o x h=>b.aE c o x (a.aE c o x h)⟩
theorem bj.trans{H H1 H2:Hp}(a:bj H H1)(b:bj H1 H2):bj H H2:=⟨λc x h=>b.aV c x (a.aV c x h),λc o x n h=>b.aE c o x n (a.aE c o x n h)⟩
theorem Ext.new{H:Hp}{p:Addr}{o:HO}(h:H p=none):Ext H (upd H p o):=
 ⟨λb xs e=>by rw[aK (eJ e h)];exact e,λb o xs e=>by rw[aK (eJ e h)];exact e⟩
noncomputable def Nr:HO->Bool
 | .tup _=>false
 | .aZ _ _=>false
 |_=>true
theorem bj.bH{H:Hp}{p:Addr}{o:Obj}{u:HO}(h:H p=some (.aZ o u))(s:jB u=true){v:HO}:bj H (upd H p v):=by
 refine⟨λb xs e=>?_,λb ob xs nd e=>?_⟩
 . have n:b≠p:=by rintro rfl;rw[h]at e;cases e
   rw[aK n];exact e
 . have n:b≠p:=by rintro rfl;rw[h]at e;cases e;rw[s]at nd;cases nd
   rw[aK n];exact e
theorem Ext.write{H:Hp}{p:Addr}{o o':HO}(h:H p=some o)(s:Nr o=true):Ext H (upd H p o'):=by
 refine⟨λb xs e=>?_,λb ob xs e=>?_⟩
 . have n:b≠p:=by rintro rfl;rw[h]at e;cases e;cases s
   rw[aK n];exact e
 . have n:b≠p:=by rintro rfl;rw[h]at e;cases e;cases s
   rw[aK n];exact e
theorem bI.aW{K:ag}{H H':Hp}{a:Addr}{vs:LV}(e:bj H H')(h:bI K H a vs):bI K H' a vs:=by
 rcases h with(h|⟨o,h⟩)|h
 . exact .inl (.inl (e.aV _ _ h))
 . exact .inl (.inr ⟨o,e.aE _ _ _ rfl h⟩)
 . exact .inr h
theorem Fz.aW{K:ag}{H H':Hp}{a:Addr}{vs:LV}(e:bj H H')(h:Fz K H a vs):Fz K H' a vs:=by
 rcases h with⟨o,h⟩|h
 . exact .inl ⟨o,e.aE _ _ _ rfl h⟩
 . exact .inr h
mutual
theorem Rep.aW{K:ag}{H H':Hp}(e:bj H H'):∀(r:RV) (v:V),Rep K H r v->Rep K H' r v
 | .au,v,h=>by simpa only[Rep]using h
 | .bl _,v,h=>by simpa only[Rep]using h
 | .int _,v,h=>by simpa only[Rep]using h
 | .str _,v,h=>by simpa only[Rep]using h
 | .ref _,v,h=>by simpa only[Rep]using h
 | .ty _,v,h=>by simpa only[Rep]using h
 | .tup xs,v,h=>by
  simp only[Rep]at h ⊢;obtain⟨a,vs,e1,h1,h2⟩:=h;exact⟨a,vs,e1,e.aV _ _ h1,ae.aW e xs vs h2⟩
 | .ls xs,v,h=>by
  simp only[Rep]at h ⊢;obtain⟨a,vs,e1,h1,h2⟩:=h;exact⟨a,vs,e1,h1.aW e,ae.aW e xs vs h2⟩
theorem ae.aW{K:ag}{H H':Hp}(e:bj H H'):∀(rs:LR) (vs:LV),ae K H rs vs->ae K H' rs vs
 | [],vs,h=>by simpa only[ae]using h
 |x::xs,vs,h=>by
  simp only[ae]at h ⊢;obtain⟨v,r,e1,h1,h2⟩:=h;exact⟨v,r,e1,Rep.aW e x v h1,ae.aW e xs r h2⟩
end
section
variable {K:ag}{H:Hp}
theorem ae.cons{x:RV}{xs:LR}{v:V}{vs:LV}(h:Rep K H x v)(t:ae K H xs vs):ae K H (x::xs) (v::vs):=by
 simp only[ae];exact⟨v,vs,rfl,h,t⟩
theorem ae.nil:ae K H [] []:=by simp only[ae]
theorem ae.length:∀{xs:LR} {vs:LV},ae K H xs vs->xs.length=vs.length
 | [],vs,h=>by simp only[ae]at h;subst h;rfl
 |x::xs,vs,h=>by
  simp only[ae]at h;obtain⟨v,r,rfl,_,t⟩:=h;simp[ae.length t]
theorem ae.get:∀{xs:LR} {vs:LV} {i:Nat} {x:RV},ae K H xs vs->xs[i]? =some x->∃v,vs[i]? =some v/\Rep K H x v
 | [],_,_,_,_,e=>by simp at e
 |y::xs,vs,0,x,h,e=>by
  simp only[ae]at h;obtain⟨v,r,rfl,h1,_⟩:=h;simp at e;subst e;exact⟨v,by simp,h1⟩
 |y::xs,vs,i+1,x,h,e=>by
  simp only[ae]at h;obtain⟨v,r,rfl,_,t⟩:=h;obtain⟨u,h1,h2⟩:=ae.get (i:=i) t (by simpa using e)
  exact⟨u,by simpa using h1,h2⟩
theorem ae.append:∀{xs ys:LR} {vs ws:LV},ae K H xs vs->ae K H ys ws->ae K H (xs++ys) (vs++ws)
 | [],_,vs,_,h,t=>by simp only[ae]at h;subst h;simpa using t
 |x::xs,ys,vs,ws,h,t=>by
  simp only[ae]at h;obtain⟨v,r,rfl,h1,h2⟩:=h;exact ae.cons h1 (ae.append h2 t)
theorem ae.take:∀{xs:LR} {vs:LV} (n:Nat),ae K H xs vs->ae K H (xs.take n) (vs.take n)
 |_,_,0,_=>by simpa using ae.nil
 | [],vs,n+1,h=>by simp only[ae]at h;subst h;simpa using ae.nil
 |x::xs,vs,n+1,h=>by
  simp only[ae]at h;obtain⟨v,r,rfl,h1,h2⟩:=h;exact ae.cons h1 (ae.take n h2)
theorem ae.drop:∀{xs:LR} {vs:LV} (n:Nat),ae K H xs vs->ae K H (xs.drop n) (vs.drop n)
 |_,_,0,h=>by simpa using h
 | [],vs,n+1,h=>by simp only[ae]at h;subst h;simpa using ae.nil
 |x::xs,vs,n+1,h=>by
  simp only[ae]at h;obtain⟨v,r,rfl,h1,h2⟩:=h;exact ae.drop n h2
theorem ae.set{x:RV}{v:V}(hx:Rep K H x v):∀{xs:LR} {vs:LV} (i:Nat),ae K H xs vs->ae K H (xs.set i x) (vs.set i v)
 | [],vs,i,h=>by simp only[ae]at h;subst h;simpa using ae.nil
 |y::xs,vs,0,h=>by
  simp only[ae]at h;obtain⟨w,r,rfl,h1,h2⟩:=h;exact ae.cons hx h2
 |y::xs,vs,i+1,h=>by
  simp only[ae]at h;obtain⟨w,r,rfl,h1,h2⟩:=h;exact ae.cons h1 (ae.set hx i h2)
theorem ae.bz{xs:LR}{vs:LV}{i:Int}{x:RV}(h:ae K H xs vs)(e:L2.bz xs i=some x):∃v,L2.bz vs i=some v/\Rep K H x v:=by
 unfold L2.bz at e ⊢;rw[<-h.length];cases q:dY xs.length i with
 |none=>rw[q]at e;cases e
 |some j=>rw[q]at e;exact h.get (by simpa using e)
end
inductive RO where
 |lst (xs:LR)
 |dk (kvs:bO)
 |dt (kvs:List (List bC×RV))
 |ins (C:Addr) (fs:List (Str×RV))
 |fk (kvs:bO)
 |ft (kvs:List (List bC×RV))
 |tb (P:Addr) (pos:Pos) (q:Str)
noncomputable def J1 (P:Addr)(pos:Pos)(x:Option Addr):Heap->Prop:=λh=>h.get? P=some { cls:=.none,data:=.fields (match x with|none=>#[]|some c=>#[rawInt pos.line,rawInt pos.col,.ref c]) }
abbrev RM:=Addr->Option RO
noncomputable def put (M:RM)(a:Addr)(o:RO):RM:=λb=>if b=a then some o else M b
theorem cE{M:RM}{a:Addr}{o:RO}:put M a o a=some o:=by unfold put;rw[az rfl]
theorem put_ne{M:RM}{a b:Addr}{o:RO}(h:b≠a):put M a o b=M b:=by unfold put;rw[aj h]
theorem iu{M:RM}{a:Addr}{o o':RO}:put (put M a o) a o'=put M a o':=by
 funext b;unfold put;split<;>rfl
noncomputable def aJ {κ:Type}(K:ag)(H:Hp):List (κ×RV)->List (κ×V)->Prop
 | [],ws=>ws= []
 |(k,x)::r,ws=>∃v t,ws=(k,v)::t/\Rep K H x v/\aJ K H r t
theorem aJ.aW{κ:Type}{K:ag}{H H':Hp}(e:bj H H'):∀{xs:List (κ×RV)} {ws:List (κ×V)},aJ K H xs ws->aJ K H' xs ws
 | [],_,h=>h
 |(k,x)::r,ws,h=>by
  obtain⟨v,t,e1,h1,h2⟩:=h;exact⟨v,t,e1,Rep.aW e x v h1,aJ.aW e h2⟩
noncomputable def cQ (K:ag)(H:Hp):RO->HO->Prop
 | .lst xs,o=>∃vs,o= .lst vs/\ae K H xs vs
 | .dk kvs,o=>∃ws,o= .dK ws/\aJ K H kvs ws
 | .dt kvs,o=>∃ws,o= .dT ws/\aJ K H kvs ws
 | .ins C fs,o=>∃dx gs,o= .ins C dx gs/\aJ K H fs gs
 | .fk kvs,o=>∃ob ws,o= .aZ ob (.dK ws)/\aJ K H kvs ws
 | .ft kvs,o=>∃ob ws,o= .aZ ob (.dT ws)/\aJ K H kvs ws
 | .tb P pos q,o=>o= .ext (J1 P pos none)∨∃c oc vs t,o= .ext (J1 P pos (some c))/\H c=some (.aZ oc (.own c))/\oc.data= .fields vs/\vs[1]? =some (.str q t)
theorem cQ.aW{K:ag}{H H':Hp}(e:bj H H'):∀{o:RO} {ho:HO},cQ K H o ho->cQ K H' o ho
 | .lst xs,_,h=>by obtain⟨vs,e1,h1⟩:=h;exact⟨vs,e1,ae.aW e xs vs h1⟩
 | .dk _,_,h=>by obtain⟨ws,e1,h1⟩:=h;exact⟨ws,e1,h1.aW e⟩
 | .dt _,_,h=>by obtain⟨ws,e1,h1⟩:=h;exact⟨ws,e1,h1.aW e⟩
 | .ins _ _,_,h=>by obtain⟨dx,gs,e1,h1⟩:=h;exact⟨dx,gs,e1,h1.aW e⟩
 | .fk _,_,h=>by obtain⟨dx,gs,e1,h1⟩:=h;exact⟨dx,gs,e1,h1.aW e⟩
 | .ft _,_,h=>by obtain⟨dx,gs,e1,h1⟩:=h;exact⟨dx,gs,e1,h1.aW e⟩
 | .tb _ _ _,_,h=>h.imp id λ⟨c,oc,vs,t,e1,h1,h2⟩=>⟨c,oc,vs,t,e1,e.aE _ _ _ rfl h1,h2⟩
theorem cQ.yd{K:ag}{H:Hp}{p:Addr}{v:HO}:∀{o:RO} {ho:HO},cQ K H o ho->H p=some ho->bj H (upd H p v)
 | .lst _,_,h,e=>by obtain⟨_,rfl,_⟩:=h;exact(Ext.write e rfl).w
 | .dk _,_,h,e=>by obtain⟨_,rfl,_⟩:=h;exact(Ext.write e rfl).w
 | .dt _,_,h,e=>by obtain⟨_,rfl,_⟩:=h;exact(Ext.write e rfl).w
 | .ins _ _,_,h,e=>by obtain⟨_,_,rfl,_⟩:=h;exact(Ext.write e rfl).w
 | .fk _,_,h,e=>by obtain⟨_,_,rfl,_⟩:=h;exact bj.bH e rfl
 | .ft _,_,h,e=>by obtain⟨_,_,rfl,_⟩:=h;exact bj.bH e rfl
 | .tb _ _ _,_,h,e=>by rcases h with rfl|⟨_,_,_,_,rfl,_⟩<;>exact(Ext.write e rfl).w
section
variable {K:ag}{H H':Hp}
theorem bI.ext{a:Addr}{vs:LV}(e:Ext H H')(h:bI K H a vs):bI K H' a vs:=bI.aW e.w h
theorem Fz.ext{a:Addr}{vs:LV}(h:Fz K H a vs)(e:Ext H H'):Fz K H' a vs:=h.aW e.w
theorem Rep.ext(e:Ext H H')(r:RV)(v:V)(h:Rep K H r v):Rep K H' r v:=Rep.aW e.w r v h
theorem ae.ext(e:Ext H H')(r:LR)(v:LV)(h:ae K H r v):ae K H' r v:=ae.aW e.w r v h
theorem aJ.ext{κ:Type}{xs:List (κ×RV)}{ws:List (κ×V)}(h:aJ K H xs ws)(e:Ext H H'):aJ K H' xs ws:=aJ.aW e.w h
theorem cQ.ext{o:RO}{ho:HO}(h:cQ K H o ho)(e:Ext H H'):cQ K H' o ho:=cQ.aW e.w h
end
def View(K:ag)(H:Hp)(M:RM):Prop:=∀a o,M a=some o->∃ho,H a=some ho/\cQ K H o ho
section
variable {K:ag}{H H':Hp}{M:RM}{p:Addr}{ho:HO}{o:RO}
theorem View.free(w:View K H M)(h:H p=none):M p=none:=by
 cases q:M p with
 |none=>rfl
 |some o=>obtain⟨ho,e,_⟩:=w p o q;rw[h]at e;cases e
theorem View.new(w:View K H M)(h:H p=none):View K (upd H p ho) M:=λa o e=>by
 obtain⟨ho',e1,r⟩:=w a o e;exact⟨ho',by rw[aK (eJ e1 h)];exact e1,r.ext (Ext.new h)⟩
theorem View.cS(w:View K H M)(h:H p=none)(r:cQ K (upd H p ho) o ho):View K (upd H p ho) (put M p o):=λa o' e=>by
 by_cases ha:a=p
 . subst ha;rw[cE]at e;cases e;exact⟨ho,d6,r⟩
 . rw[put_ne ha]at e;exact w.new h a o' e
theorem View.write{o':RO}(w:View K H M)(h:M p=some o')(r:cQ K (upd H p ho) o ho):View K (upd H p ho) (put M p o):=λa o'' e=>by
 by_cases ha:a=p
 . subst ha;rw[cE]at e;cases e;exact⟨ho,d6,r⟩
 . rw[put_ne ha]at e
   obtain⟨ho',e1,r1⟩:=w a o'' e;obtain⟨hp,e2,r2⟩:=w p o' h;exact⟨ho',by rw[aK ha];exact e1,cQ.aW (r2.yd e2) r1⟩
end
abbrev bq:=List (Option RV)
abbrev aq:=RV->RM->Prop
abbrev aw:=bq->RM->aq->Prop
abbrev c9:=bq->RM->(Bool->RM->Prop)->Prop
abbrev bx:=bq->RM->(LR->RM->Prop)->Prop
def aQ(K:ag)(H:Hp)(σ:bq)(σ0:L2.St):Prop:=σ.length=σ0.length/\∀(i:Nat) r,σ[i]? =some (some r)->∃v,σ0[i]? =some (some v)/\Rep K H r v
theorem aQ.aW{K:ag}{H H':Hp}{σ:bq}{σ0:L2.St}(h:aQ K H σ σ0)(e:bj H H'):aQ K H' σ σ0:=
 ⟨h.1,λi r q=>by obtain⟨v,e1,h1⟩:=h.2 i r q;exact⟨v,e1,Rep.aW e r v h1⟩⟩
theorem aQ.ext{K:ag}{H H':Hp}{σ:bq}{σ0:L2.St}(h:aQ K H σ σ0)(e:Ext H H'):aQ K H' σ σ0:=h.aW e.w
theorem aQ.set{K:ag}{H:Hp}{σ:bq}{σ0:L2.St}{r:RV}{v:V}(h:aQ K H σ σ0)(hr:Rep K H r v)(i:Nat):aQ K H (σ.set i (some r)) (σ0.set i (some v)):=by
 refine⟨by simp[h.1],λj r' q=>?_⟩
 by_cases hj:i=j
 . subst hj
   rw[List.getElem?_set]at q;split at q
   . split at q
     . cases q;rename_i hl _ ;exact⟨v,by rw[List.getElem?_set_self (by rw[<-h.1];assumption)],hr⟩
     . cases q
   . rename_i z;exact bp rfl z
 . rw[List.getElem?_set_ne hj]at q
   obtain⟨w,e1,h1⟩:=h.2 j r' q;exact⟨w,by rw[List.getElem?_set_ne hj];exact e1,h1⟩
def gH(K:ag)(H:Hp)(Q:aq)(Q0:VK):Prop:=∀rv M' v H',Q rv M'->Ext H H'->View K H' M'->Rep K H' rv v->Q0 v H'
theorem gH.ext{K:ag}{H H':Hp}{Q:aq}{Q0:VK}(h:gH K H Q Q0)(e:Ext H H'):gH K H' Q Q0:=λrv M' v H2 q e2 w r=>h rv M' v H2 q (e.trans e2) w r
def up(K:ag)(t:aw):TE:=λσ0 H Q0=>∃σ M Q,aQ K H σ σ0/\View K H M/\t σ M Q/\gH K H Q Q0
def AD(K:ag)(t:c9):TT:=λσ0 H Q0=>∃σ M Q,aQ K H σ σ0/\View K H M/\t σ M Q/\∀b M' H',Q b M'->Ext H H'->View K H' M'->Q0 b H'
noncomputable def AB (K:ag)(t:bx):TA:=λσ0 H Q0=>∃σ M Q,aQ K H σ σ0/\View K H M/\t σ M Q/\∀rs M' vs H',Q rs M'->Ext H H'->View K H' M'->ae K H' rs vs->Q0 vs H'
structure RD where
 nx:bq->RM->Prop
 rt:aq
 bk:bq->RM->Prop:=λ_ _=>False
 ct:bq->RM->Prop:=λ_ _=>False
abbrev bY:=RD->bq->RM->Prop
def ni(K:ag)(H:Hp)(q:bq->RM->Prop)(q0:L2.St->Hp->Prop):Prop:=∀σ M σ0 H',q σ M->Ext H H'->View K H' M->aQ K H' σ σ0->q0 σ0 H'
theorem ni.ext{K:ag}{H H':Hp}{Q:bq->RM->Prop}{Q0:L2.St->Hp->Prop}(h:ni K H Q Q0)(e:Ext H H'):ni K H' Q Q0:=λσ M σ0 H2 q e2 w r=>h σ M σ0 H2 q (e.trans e2) w r
structure ug(K:ag)(H:Hp)(D:RD)(D0:Ends):Prop where
 nx:ni K H D.nx D0.nx
 rt:gH K H D.rt D0.rt
 bk:ni K H D.bk D0.bk
 ct:ni K H D.ct D0.ct
theorem ug.ext{K:ag}{H H':Hp}{D:RD}{D0:Ends}(h:ug K H D D0)(e:Ext H H'):ug K H' D D0:=⟨h.nx.ext e,h.rt.ext e,h.bk.ext e,h.ct.ext e⟩
def KD(K:ag)(t:bY):TS:=λD0 σ0 H=>∃σ M D,aQ K H σ σ0/\View K H M/\t D σ M/\ug K H D D0
def ai(X:Cx)(e:Expr)(t:aw):Prop:=PE X e (up X.K t)
def cy(X:Cx)(e:Expr)(t:c9):Prop:=PT X e (AD X.K t)
def lR(X:Cx)(e:Expr)(t:c9):Prop:=PW X e (AD X.K t)
def cw(X:Cx)(es:aT)(t:bx):Prop:=PA X es (AB X.K t)
def c8(X:Cx)(s:Stmt)(t:bY):Prop:=PS X s (KD X.K t)
def gU(X:Cx)(s:List Stmt)(t:bY):Prop:=eX X s (KD X.K t)
section
variable {X:Cx}
theorem PE.imp{e:Expr}{t t':TE}(h:PE X e t)(i:∀σ H Q,t' σ H Q->t σ H Q):PE X e t':=λpins s σ H Q I w=>h pins s σ H Q I (i σ H Q w)
theorem PT.imp{e:Expr}{t t':TT}(h:PT X e t)(i:∀σ H Q,t' σ H Q->t σ H Q):PT X e t':=λpins s σ H Q I w=>h pins s σ H Q I (i σ H Q w)
theorem PW.imp{e:Expr}{t t':TT}(h:PW X e t)(i:∀σ H Q,t' σ H Q->t σ H Q):PW X e t':=λwh pins s σ H Q I w=>h wh pins s σ H Q I (i σ H Q w)
theorem PA.imp{e:aT}{t t':TA}(h:PA X e t)(i:∀σ H Q,t' σ H Q->t σ H Q):PA X e t':=λpos pins s σ H Q I w=>h pos pins s σ H Q I (i σ H Q w)
theorem PS.imp{e:Stmt}{t t':TS}(h:PS X e t)(i:∀D σ H,t' D σ H->t D σ H):PS X e t':=λpins s σ H D I w=>h pins s σ H D I (i D σ H w)
theorem eX.imp{e:List Stmt}{t t':TS}(h:eX X e t)(i:∀D σ H,t' D σ H->t D σ H):eX X e t':=λpins s σ H D I w=>h pins s σ H D I (i D σ H w)
end
section
variable {X:Cx}{a b c:Expr}{ta tb tc:aw}{tA tB:c9}{pos:Pos}{rest:aT}
def jz(i:Nat):aw:=λσ M Q=>match σ[i]? with|some (some v)=>Q v M|_=>False
def rC(v:RV):aw:=λ_ M Q=>Q v M
theorem rv(i:Nat){x:Str}{pos:Pos}(hN:X.N[i]? =some x:=by rfl)(hv:pS X.env.scope x)(hd:(x==("__debug__":Str))=false:=by decide)
 (hcd:(x==("__classdict__":Str))=false:=by decide):ai X (.Name x pos) (jz i):=PE.imp (TN hN hv hd hcd) λσ0 H Q h=>by
 obtain⟨σ,M,Qr,hs,hv,ht,hk⟩:=h;unfold jz at ht;split at ht
 . rename_i r e
   obtain⟨v,e1,h1⟩:=hs.2 i r e;exact⟨v,e1,hk r M v H ht (.refl H) hv h1⟩
 . exact ht.elim
theorem qi{e:Expr}{v:V}{r:RV}(h:PE X e (tC v))(hr:∀H,Rep X.K H r v):ai X e (rC r):=PE.imp h λσ0 H Q h=>by
 obtain⟨σ,M,Qr,hs,hv,ht,hk⟩:=h;exact hk r M v H ht (.refl H) hv (hr H)
theorem ri{i j pos}:ai X (.Constant (.int i) j pos) (rC (.int i)):=qi Ti λH=>by simp only[Rep]
theorem rb{b j pos}:ai X (.Constant (.bool b) j pos) (rC (.bl b)):=qi V9 λH=>by simp only[Rep]
theorem rn{j pos}:ai X (.Constant .none j pos) (rC .au):=qi Th λH=>by simp only[Rep]
theorem rs{x j pos}:ai X (.Constant (.str x) j pos) (rC (.str x)):=qi TR λH=>by simp only[Rep]
theorem zx{x:Str}{v:V}{r:RV}{u:Value}{pos:Pos}(hm:X.mg x=some u)(rl:RelV v u)(hr:∀H,Rep X.K H r v)(hg:Gl X x:=by rfl)(hd:(x==("__debug__":Str))=false:=by decide):ai X (.Name x pos) (rC r):=
 qi (Ry hg hm rl hd) hr
theorem qq{x:Str}{v:V}{r:RV}{u:Value}{pos:Pos}(hm:X.mg x=none)(hv:bootBuiltins x=some u)(rl:RelV v u)(hr:∀H,Rep X.K H r v)(hg:Gl X x:=by rfl)(hn:x≠"__name__":=by decide)(hd:(x==("__debug__":Str))=false:=by decide):ai X (.Name x pos) (rC r):=
 qi (Ss hg hm hv rl hn hd) hr
abbrev bV:=RV->RV->RM->aq->Prop
def qH(K:ag)(rr:bV):R2:=λx y H Q0=>∃rx ry M Q,Rep K H rx x/\Rep K H ry y/\View K H M/\rr rx ry M Q/\gH K H Q Q0
def ck(X:Cx)(f:Value->Value->Sem Value)(rr:bV):Prop:=cN X f (qH X.K rr)
def mP(rr:bV)(ta tb:aw):aw:=λσ M Q=>ta σ M λx M1=>tb σ M1 λy M2=>rr x y M2 Q
theorem vN{K:ag}{rr:bV}{σ0:L2.St}{H:Hp}{Q0:VK}(h:up K (mP rr ta tb) σ0 H Q0):qG (qH K rr) (up K ta) (up K tb) σ0 H Q0:=by
 obtain⟨σ,M,Q,hs,hv,ht,hk⟩:=h;refine⟨σ,M,_,hs,hv,ht,λrx M1 x H1 hb e1 v1 r1=>?_⟩
 refine⟨σ,M1,_,hs.ext e1,v1,hb,λry M2 y H2 hr e2 v2 r2=>?_⟩
 exact⟨rx,ry,M2,Q,Rep.ext e2 rx x r1,r2,v2,hr,hk.ext (e1.trans e2)⟩
theorem Xq{op:Operator}{rr:bV}(ho:ck X (binaryOp op) rr)(ha:ai X a ta)(hb:ai X b tb):ai X (.BinOp a op b pos) (mP rr ta tb):=PE.imp (V6 ho ha hb) λ_ _ _ h=>vN h
theorem Mu{op:CmpOp}{rr:bV}(ho:ck X (compareOp op) rr)(ha:ai X a ta)(hb:ai X b tb)(hm:behindInMarks op b=false):ai X (.Compare a [op] [b] pos) (mP rr ta tb):=
 PE.imp (D2 ho ha hb hm) λ_ _ _ h=>vN h
def k7(t:aw):c9:=λσ M Q=>t σ M λv M'=>match v with| .bl k=>Q k M'|_=>False
theorem oU{K:ag}{H:Hp}{Q:Bool->RM->Prop}{Q0:Bool->Hp->Prop}(hk:∀b M' H',Q b M'->Ext H H'->View K H' M'->Q0 b H'):
 gH K H (λv M'=>match v with| .bl k=>Q k M'|_=>False) (λx H'=>∃k,x= .bl k/\Q0 k H'):=λrv M' v H' q e w r=>by
 cases rv with
 |bl k=>simp only[Rep]at r;exact⟨k,r,hk k M' H' q e w⟩
 |_=>exact q.elim
theorem Vn{op:CmpOp}{rr:bV}(ho:ck X (compareOp op) rr)(ha:ai X a ta)(hb:ai X b tb)(hm:behindInMarks op b=false):cy X (.Compare a [op] [b] pos) (k7 (mP rr ta tb)):=
 PT.imp (DY ho ha hb hm) λσ0 H Q0 h=>by
  obtain⟨σ,M,Q,hs,hv,ht,hk⟩:=h;exact vN ⟨σ,M,_,hs,hv,ht,oU hk⟩
theorem Vl{e:Expr}{t:aw}(h:ai X e t)(he:∀whole,isTrue e X.env whole=(do let v<-whole;standAt e.pos;holding [v] (truthy v)):=by intro _;rfl):cy X e (k7 t):=
 PT.imp (Tv h he) λσ0 H Q0 h=>by
  obtain⟨σ,M,Q,hs,hv,ht,hk⟩:=h;exact⟨σ,M,_,hs,hv,ht,oU hk⟩
noncomputable def qj (rr rr':bV)(ta tb tc:aw):aw:=λσ M Q=>ta σ M λx M1=>tb σ M1 λy M2=>rr x y M2 λz M3=>match z with
 | .bl k=>(k=true->tc σ M3 λw M4=>rr' y w M4 Q)/\(k=false->Q (.bl false) M3)
 |_=>False
theorem CT{K:ag}{rr rr':bV}{σ0:L2.St}{H:Hp}{Q0:VK}(h:up K (qj rr rr' ta tb tc) σ0 H Q0):zj (qH K rr) (qH K rr') (up K ta) (up K tb) (up K tc) σ0 H Q0:=by
 obtain⟨σ,M,Q,hs,hv,ht,hk⟩:=h;refine⟨σ,M,_,hs,hv,ht,λrx M1 x H1 hb e1 v1 r1=>?_⟩
 refine⟨σ,M1,_,hs.ext e1,v1,hb,λry M2 y H2 hr e2 v2 r2=>?_⟩
 refine⟨rx,ry,M2,_,Rep.ext e2 rx x r1,r2,v2,hr,λrz M3 z H3 hz e3 v3 r3=>?_⟩
 cases rz with
 |bl k=>
  simp only[Rep]at r3;refine⟨k,r3,?_⟩;have e13:=(e1.trans e2).trans e3;cases k with
  |true=>
   refine pA ?_;refine⟨σ,M3,_,hs.ext e13,v3,hz.1 rfl,λrw M4 w H4 hw e4 v4 r4=>?_⟩
   exact⟨ry,rw,M4,Q,Rep.ext (e3.trans e4) ry y r2,r4,v4,hw,hk.ext (e13.trans e4)⟩
  |false=>exact pB (hk _ M3 _ H3 (hz.2 rfl) e13 v3 (by simp only[Rep]))
 |_=>exact hz.elim
theorem Ue{op op':CmpOp}{rr rr':bV}(ho:ck X (compareOp op) rr)(ho':ck X (compareOp op') rr')(ha:ai X a ta)(hb:ai X b tb)(hc:ai X c tc)(hm:lastMarks [op,op'] [b,c]=false:=by with_unfolding_all rfl):
 ai X (.Compare a [op,op'] [b,c] pos) (qj rr rr' ta tb tc):=PE.imp (Q6 ho ho' ha hb hc hm) λ_ _ _ h=>CT h
theorem RH{op op':CmpOp}{rr rr':bV}(ho:ck X (compareOp op) rr)(ho':ck X (compareOp op') rr')(ha:ai X a ta)(hb:ai X b tb)(hc:ai X c tc)(hm:lastMarks [op,op'] [b,c]=false:=by with_unfolding_all rfl):
 cy X (.Compare a [op,op'] [b,c] pos) (k7 (qj rr rr' ta tb tc)):=PT.imp (QT ho ho' ha hb hc hm) λσ0 H Q0 h=>by
 obtain⟨σ,M,Q,hs,hv,ht,hk⟩:=h;exact CT ⟨σ,M,_,hs,hv,ht,oU hk⟩
def Ks(g:RV->RM->aq->Prop)(ta:aw):aw:=λσ M Q=>ta σ M λx M1=>g x M1 Q
def KG(K:ag)(g:RV->RM->aq->Prop):V->Hp->VK->Prop:=λx H Q0=>∃rx M Q,Rep K H rx x/\View K H M/\g rx M Q/\gH K H Q Q0
theorem RE{K:ag}{g:RV->RM->aq->Prop}{σ0:L2.St}{H:Hp}{Q0:VK}(h:up K (Ks g ta) σ0 H Q0):Ky (KG K g) (up K ta) σ0 H Q0:=by
 obtain⟨σ,M,Q,hs,hv,ht,hk⟩:=h;exact⟨σ,M,_,hs,hv,ht,λrx M1 x H1 hb e1 v1 r1=>⟨rx,M1,Q,r1,v1,hb,hk.ext e1⟩⟩
theorem run{op:UnaryOp}{g:RV->RM->aq->Prop}(ho:AV X (unaryOp op) (KG X.K g))(ha:ai X a ta):ai X (.UnaryOp op a pos) (Ks g ta):=PE.imp (V4 ho ha) λ_ _ _ h=>RE h
def wZ(t u:c9):c9:=λσ M Q=>t σ M λc M1=>(c=true->u σ M1 Q)/\(c=false->Q false M1)
def xy(t u:c9):c9:=λσ M Q=>t σ M λc M1=>(c=true->Q true M1)/\(c=false->u σ M1 Q)
def Kh(t:c9):c9:=λσ M Q=>t σ M λc M1=>Q (!c) M1
theorem Wu(ha:cy X a tA):lR X (.BoolOp .And [a] pos) tA:=Rm ha
theorem Mr(ha:cy X a tA):lR X (.BoolOp .Or [a] pos) tA:=Tt ha
theorem rand(ha:cy X a tA)(hb:lR X (.BoolOp .And (b::rest) pos) tB):lR X (.BoolOp .And (a::b::rest) pos) (wZ tA tB):=PW.imp (Tu ha hb) λσ0 H Q0 h=>by
 obtain⟨σ,M,Q,hs,hv,ht,hk⟩:=h;refine⟨σ,M,_,hs,hv,ht,λk M1 H1 q e1 v1=>?_⟩
 cases k with
 |true=>exact pA ⟨σ,M1,Q,hs.ext e1,v1,q.1 rfl,λb M' H' z e2 w=>hk b M' H' z (e1.trans e2) w⟩
 |false=>exact pB (hk false M1 H1 (q.2 rfl) e1 v1)
theorem Ku(ha:cy X a tA)(hb:lR X (.BoolOp .Or (b::rest) pos) tB):lR X (.BoolOp .Or (a::b::rest) pos) (xy tA tB):=PW.imp (WB ha hb) λσ0 H Q0 h=>by
 obtain⟨σ,M,Q,hs,hv,ht,hk⟩:=h;refine⟨σ,M,_,hs,hv,ht,λk M1 H1 q e1 v1=>?_⟩
 cases k with
 |true=>exact pA (hk true M1 H1 (q.1 rfl) e1 v1)
 |false=>exact pB ⟨σ,M1,Q,hs.ext e1,v1,q.2 rfl,λb M' H' z e2 w=>hk b M' H' z (e1.trans e2) w⟩
theorem xA(h:lR X a tA):cy X a tA:=PW.pt h
theorem Vm(ha:cy X a tA):cy X (.UnaryOp .Not a pos) (Kh tA):=PT.imp (Tw ha) λσ0 H Q0 h=>by
 obtain⟨σ,M,Q,hs,hv,ht,hk⟩:=h;exact⟨σ,M,_,hs,hv,ht,λk M1 H1 q e1 v1=>hk (!k) M1 H1 q e1 v1⟩
def wH(ta tb:aw):aw:=λσ M Q=>ta σ M λx M1=>match x with| .bl c=>(c=true->tb σ M1 Q)/\(c=false->Q (.bl false) M1)|_=>False
def wU(ta tb:aw):aw:=λσ M Q=>ta σ M λx M1=>match x with| .bl c=>(c=true->Q (.bl true) M1)/\(c=false->tb σ M1 Q)|_=>False
def Fu(ta:aw):aw:=λσ M Q=>ta σ M λx M1=>match x with| .bl c=>Q (.bl (!c)) M1|_=>False
theorem Ka{op}{t:aw}(h:ai X a t):ai X (.BoolOp op [a] pos) t:=TU h
theorem FJ(ha:ai X a ta)(hb:ai X (.BoolOp .And (b::rest) pos) tb):ai X (.BoolOp .And (a::b::rest) pos) (wH ta tb):=PE.imp (Tn ha hb) λσ0 H Q0 h=>by
 obtain⟨σ,M,Q,hs,hv,ht,hk⟩:=h;refine⟨σ,M,_,hs,hv,ht,λrx M1 x H1 q e1 v1 r1=>?_⟩
 cases rx with
 |bl k=>
  simp only[Rep]at r1;refine⟨k,r1,?_⟩;cases k with
  |true=>exact pA ⟨σ,M1,Q,hs.ext e1,v1,q.1 rfl,hk.ext e1⟩
  |false=>exact pB (hk _ M1 _ H1 (q.2 rfl) e1 v1 (by simp only[Rep]))
 |_=>exact q.elim
theorem J9(ha:ai X a ta)(hb:ai X (.BoolOp .Or (b::rest) pos) tb):ai X (.BoolOp .Or (a::b::rest) pos) (wU ta tb):=PE.imp (V5 ha hb) λσ0 H Q0 h=>by
 obtain⟨σ,M,Q,hs,hv,ht,hk⟩:=h;refine⟨σ,M,_,hs,hv,ht,λrx M1 x H1 q e1 v1 r1=>?_⟩
 cases rx with
 |bl k=>
  simp only[Rep]at r1;refine⟨k,r1,?_⟩;cases k with
  |true=>exact pA (hk _ M1 _ H1 (q.1 rfl) e1 v1 (by simp only[Rep]))
  |false=>exact pB ⟨σ,M1,Q,hs.ext e1,v1,q.2 rfl,hk.ext e1⟩
 |_=>exact q.elim
theorem Wm(ha:ai X a ta):ai X (.UnaryOp .Not a pos) (Fu ta):=PE.imp (Tg ha) λσ0 H Q0 h=>by
 obtain⟨σ,M,Q,hs,hv,ht,hk⟩:=h;refine⟨σ,M,_,hs,hv,ht,λrx M1 x H1 q e1 v1 r1=>?_⟩
 cases rx with
 |bl k=>simp only[Rep]at r1;exact⟨k,r1,hk _ M1 _ H1 q e1 v1 (by simp only[Rep])⟩
 |_=>exact q.elim
def xx(t:c9)(ta tb:aw):aw:=λσ M Q=>t σ M λc M1=>(c=true->ta σ M1 Q)/\(c=false->tb σ M1 Q)
theorem Xo{c:Expr}(hc:cy X c tA)(ha:ai X a ta)(hb:ai X b tb):ai X (.IfExp c a b pos) (xx tA ta tb):=PE.imp (Q2 hc ha hb) λσ0 H Q0 h=>by
 obtain⟨σ,M,Q,hs,hv,ht,hk⟩:=h;refine⟨σ,M,_,hs,hv,ht,λk M1 H1 q e1 v1=>?_⟩
 cases k with
 |true=>exact pA ⟨σ,M1,Q,hs.ext e1,v1,q.1 rfl,hk.ext e1⟩
 |false=>exact pB ⟨σ,M1,Q,hs.ext e1,v1,q.2 rfl,hk.ext e1⟩
variable {e:Expr}{es:aT}{te:aw}{t:bx}
def jA:bx:=λ_ M Q=>Q [] M
def mC(ta:aw)(tr:bx):bx:=λσ M Q=>ta σ M λx M1=>tr σ M1 λxs M2=>Q (x::xs) M2
theorem pG:cw X [] jA:=PA.imp To λσ0 H Q0 h=>by
 obtain⟨σ,M,Q,hs,hv,ht,hk⟩:=h;exact hk [] M [] H ht (.refl H) hv ae.nil
theorem kZ(ha:ai X e te)(hr:cw X es t)(hs:starEach (e::es) X.env=(false,eval e X.env)::starEach es X.env:=by rfl):cw X (e::es) (mC te t):=PA.imp (Su ha hr hs) λσ0 H Q0 h=>by
 obtain⟨σ,M,Q,hs,hv,ht,hk⟩:=h;refine⟨σ,M,_,hs,hv,ht,λrx M1 x H1 q e1 v1 r1=>?_⟩
 refine⟨σ,M1,_,hs.ext e1,v1,q,λrs M2 vs H2 q2 e2 v2 r2=>?_⟩
 exact hk (rx::rs) M2 (x::vs) H2 q2 (e1.trans e2) v2 (ae.cons (Rep.ext e2 rx x r1) r2)
def Kc(t:bx):aw:=λσ M Q=>t σ M λrs M1=>rs.length<=sizeLine/\Q (.tup rs) M1
theorem sE{K:ag}{H:Hp}{p:Addr}{rs:LR}{vs:LV}(h:H p=none)(r:ae K H rs vs):Rep K (upd H p (.tup vs)) (.tup rs) (.ref p):=by
 simp only[Rep];exact⟨p,vs,rfl,d6,ae.ext (Ext.new h) rs vs r⟩
theorem oY{K:ag}{H:Hp}{p:Addr}{o:Obj}{rs:LR}{vs:LV}(h:H p=none)(r:ae K H rs vs):Rep K (upd H p (.aZ o (.lst vs))) (.ls rs) (.ref p):=by
 simp only[Rep];exact⟨p,vs,rfl,.inl ⟨o,d6⟩,ae.ext (Ext.new h) rs vs r⟩
theorem J8{x1}(h:cw X es t):ai X (.Tuple es x1 pos) (Kc t):=PE.imp (TQ h) λσ0 H Q0 h=>by
 obtain⟨σ,M,Q,hs,hv,ht,hk⟩:=h;refine⟨σ,M,_,hs,hv,ht,λrs M1 vs H1 q e1 v1 r1=>⟨by rw[<-r1.length];exact q.1,λp hp=>?_⟩⟩
 exact hk _ M1 _ _ q.2 (e1.trans (Ext.new hp)) (v1.new hp) (sE hp r1)
def Jy(t:bx):aw:=λσ M Q=>t σ M λrs M1=>rs.length<=sizeLine/\∀p,M1 p=none->Q (.ref p) (put M1 p (.lst rs))
theorem Ms(h:cw X es t):ai X (.List es pos) (Jy t):=PE.imp (Ew h) λσ0 H Q0 h=>by
 obtain⟨σ,M,Q,hs,hv,ht,hk⟩:=h;refine⟨σ,M,_,hs,hv,ht,λrs M1 vs H1 q e1 v1 r1=>⟨by rw[<-r1.length];exact q.1,λp hp=>?_⟩⟩
 exact hk _ _ _ _ (q.2 p (v1.free hp)) (e1.trans (Ext.new hp)) (v1.cS hp ⟨vs,rfl,ae.ext (Ext.new hp) rs vs r1⟩) (by simp only[Rep])
end
section
variable {X:Cx}{pins:aF}{σ:L2.St}{H:Hp}{s:Shared}
theorem freeze{p:Addr}{xs:LV}(I:Inv X pins σ H s)(h:H p=some (.lst xs)):∃o,Inv X pins σ (upd H p (.aZ o (.lst xs))) s:=by
 have hz:xs.length<=sizeLine/\∃(its:ao) (n:Nat),Vals xs its/\s.heap.get? p=some { cls:=.type "list",data:=.seq its.toArray n }:=I.ar p _ h;obtain⟨z,its,n,r,e⟩:=id hz;have np:∀b,H b=none->b≠p:=λb q w=>by subst w;rw[h]at q;cases q
 refine⟨{ cls:=.type "list",data:=.seq its.toArray n },⟨I.ok,I.os,I.bare,⟨I.base.keep,I.base.slot,λb o q w x=>?_,I.base.there,λb xs' q=>?_,λb o u q=>?_,λb ps q=>?_⟩,I.loc,I.cell,?_,λx c q=>?_,λq hq=>?_,λb u q=>?_,I.len⟩⟩
 . have:=I.base.free b o q w x
   rw[aK (np b this)];exact this
 . have e1:=I.base.aV b xs' q
   rw[aK (i0 e1 h (by intro z;cases z))];exact e1
 . have e1:=I.base.aE b o u q
   rw[aK (i0 e1 h (by intro z;cases z))];exact e1
 . obtain⟨more,e1⟩:=I.base.bR b ps q
   exact⟨more,by rw[aK (i0 e1 h (by intro z;cases z))];exact e1⟩
 . rw[aK (np _ I.free)];exact I.free
 . have:=I.bo x c q
   rw[aK (np _ this)];exact this
 . obtain⟨a1,a2,a3⟩:=I.pin q hq
   exact⟨a1,by rw[aK (np _ a2)];exact a2,a3⟩
 . by_cases hb:b=p
   . subst hb
     rw[d6]at q;cases q;exact⟨e,z,its,n,r,e⟩
   . rw[aK hb]at q
     refine(I.ar b u q).cY (λ_ _ _ q=>q) (λc q=>?_) λc ys q=>?_
     . rw[aK (i0 q h (by intro z;cases z))];exact q
     . rw[aK (i0 q h (by intro z;cases z))];exact q
theorem frozen{Q:VK}{u:Value}(h:EP X pins σ (λv H'=>∃H1 p xs,v= .ref p/\H1 p=none/\H'=upd H1 p (.lst xs)/\∀o,Q (.ref p) (upd H1 p (.aZ o (.lst xs)))) u s):EP X pins σ Q u s:=by
 obtain⟨v,H',I,r,H1,p,xs,rfl,hn,rfl,q⟩:=h;obtain⟨o,I'⟩:=freeze I (p:=p) (xs:=xs) d6;rw[R0]at I';exact⟨.ref p,_,I',r,q o⟩
end
section
variable {X:Cx}{es:aT}{t:bx}{pos:Pos}
def Jz(t:bx):aw:=λσ M Q=>t σ M λrs M1=>rs.length<=sizeLine/\Q (.ls rs) M1
theorem Kb(h:cw X es t):ai X (.List es pos) (Jz t):=λpins s σ0 H Q0 I hw=>by
 obtain⟨σ,M,Q,hs,hv,ht,hk⟩:=hw;refine aB (Ew h pins s σ0 H (λv H'=>∃H1 p xs,v= .ref p/\H1 p=none/\H'=upd H1 p (.lst xs)/\∀o,Q0 (.ref p) (upd H1 p (.aZ o (.lst xs)))) I ?_) λ_ _ e=>frozen e
 refine⟨σ,M,_,hs,hv,ht,λrs M1 vs H1 q e1 v1 r1=>⟨by rw[<-r1.length];exact q.1,λp hp=>⟨H1,p,vs,rfl,hp,rfl,λo=>?_⟩⟩⟩
 exact hk _ M1 _ _ q.2 (e1.trans (Ext.new hp)) (v1.new hp) (oY hp r1)
end
section
variable {X:Cx}{st:Stmt}{rest:List Stmt}{t u:bY}{e:Expr}{te:aw}{pos:Pos}
def k8:bY:=λD σ M=>D.nx σ M
def gz(t u:bY):bY:=λD σ M=>t { D with nx:=u D } σ M
theorem qD:gU X [] k8:=eX.imp Ro λD0 σ0 H h=>by
 obtain⟨σ,M,D,hs,hv,ht,hd⟩:=h;exact hd.nx σ M σ0 H ht (.refl H) hv hs
theorem mw(h1:c8 X st t)(h2:gU X rest u):gU X (st::rest) (gz t u):=eX.imp (QU h1 h2) λD0 σ0 H h=>by
 obtain⟨σ,M,D,hs,hv,ht,hd⟩:=h;refine⟨σ,M,_,hs,hv,ht,⟨λσ' M' σ0' H' q e w r=>?_,hd.rt,hd.bk,hd.ct⟩⟩
 exact⟨σ',M',D,r,w,q,hd.ext e⟩
def FE(te:aw):bY:=λD σ M=>te σ M λ_ M1=>D.nx σ M1
theorem VF(he:ai X e te)(hs:swapsWith e none pos.line X.env=pure false:=by rfl):c8 X (.Expr e pos) (FE te):=PS.imp (Rp he hs) λD0 σ0 H h=>by
 obtain⟨σ,M,D,hs,hv,ht,hd⟩:=h;exact⟨σ,M,_,hs,hv,ht,λrx M1 x H1 q e1 v1 r1=>hd.nx σ M1 σ0 H1 q e1 v1 (hs.ext e1)⟩
def wR(te:aw):bY:=λD σ M=>te σ M D.rt
theorem J3(he:ai X e te):c8 X (.Return (some e) pos) (wR te):=PS.imp (TB he) λD0 σ0 H h=>by
 obtain⟨σ,M,D,hs,hv,ht,hd⟩:=h;exact⟨σ,M,_,hs,hv,ht,hd.rt⟩
def pv(c:c9)(t u:bY):bY:=λD σ M=>c σ M λb M1=>(b=true->t D σ M1)/\(b=false->u D σ M1)
theorem Kv{c:Expr}{a b:List Stmt}{tc:c9}(hc:cy X c tc)(ha:gU X a t)(hb:gU X b u):c8 X (.If c a b pos) (pv tc t u):=PS.imp (WD hc ha hb) λD0 σ0 H h=>by
 obtain⟨σ,M,D,hs,hv,ht,hd⟩:=h;refine⟨σ,M,_,hs,hv,ht,λk M1 H1 q e1 v1=>?_⟩
 cases k with
 |true=>exact pA ⟨σ,M1,D,hs.ext e1,v1,q.1 rfl,hd.ext e1⟩
 |false=>exact pB ⟨σ,M1,D,hs.ext e1,v1,q.2 rfl,hd.ext e1⟩
def tH(i:Nat)(te:aw):bY:=λD σ M=>te σ M λx M1=>D.nx (σ.set i (some x)) M1
theorem sset(i:Nat){x:Str}{pos':Pos}(he:ai X e te)(hN:X.N.Nodup)(hi:X.N[i]? =some x:=by rfl)(hx:Loc X.env.scope x)(hs:swapsWith e (some (.Name x pos')) pos.line X.env=pure false:=by rfl)
 (hf:X.fn x=true∨X.env.scope.names.lookup x=some .local):c8 X (.Assign [.Name x pos'] e pos) (tH i te):=PS.imp (Tz hN hi hx he hs hf) λD0 σ0 H h=>by
 obtain⟨σ,M,D,hs,hv,ht,hd⟩:=h;exact⟨σ,M,_,hs,hv,ht,λrx M1 x H1 q e1 v1 r1=>hd.nx _ M1 _ H1 q e1 v1 ((hs.ext e1).set r1 i)⟩
abbrev jo:=RV->bq->RM->(bq->RM->Prop)->Prop
def XH(K:ag)(g:jo):TG:=λv σ0 H Q0=>∃rv σ M Q,Rep K H rv v/\aQ K H σ σ0/\View K H M/\g rv σ M Q/\ni K H Q Q0
def ng(X:Cx)(target:Expr)(g:jo):Prop:=PG X target (XH X.K g)
theorem PG.imp{tg:Expr}{t t':TG}(h:PG X tg t)(i:∀v σ H Q,t' v σ H Q->t v σ H Q):PG X tg t':=λpins s σ H v u Q I r w=>h pins s σ H v u Q I r (i v σ H Q w)
def mQ(i:Nat):jo:=λx σ M Q=>Q (σ.set i (some x)) M
theorem WX(i:Nat){x:Str}{pos:Pos}(hN:X.N.Nodup)(hi:X.N[i]? =some x:=by rfl)(hx:Loc X.env.scope x)
 (hf:X.fn x=true∨X.env.scope.names.lookup x=some .local):ng X (.Name x pos) (mQ i):=PG.imp (vQ hN hi hx hf) λv σ0 H Q0 h=>by
 obtain⟨rv,σ,M,Q,hr,hs,hv,hg,hk⟩:=h;exact hk _ M _ H hg (.refl H) hv (hs.set hr i)
noncomputable def sG:bq->List Nat->LR->bq
 |σ,i::is,x::xs=>sG (σ.set i (some x)) is xs
 |σ,_,_=>σ
def lu:List Nat->lS
 | []=>JQ
 |i::is=>FK (zD i) (lu is)
theorem DN{K:ag}{H:Hp}{Q0:L2.St->Hp->Prop}:∀{is:List Nat} {rs:LR} {vs:LV} {σ:bq} {σ0:L2.St},rs.length=is.length->ae K H rs vs->aQ K H σ σ0->
 (∀σ0',aQ K H (sG σ is rs) σ0'->Q0 σ0' H)->lu is vs σ0 H Q0
 | [],[],vs,σ,σ0,_,r,hs,k=>by
  simp only[ae]at r;exact⟨r,k σ0 hs⟩
 |i::is,x::rs,vs,σ,σ0,hl,r,hs,k=>by
  simp only[ae]at r;obtain⟨v,vs',rfl,h1,h2⟩:=r;refine⟨v,vs',rfl,?_⟩;show lu is vs' (σ0.set i (some v)) H Q0;exact DN (σ:=σ.set i (some x)) (by simpa using hl) h2 (hs.set h1 i) k
def mR(is:List Nat):jo:=λx σ M Q=>match x with| .tup xs=>xs.length=is.length/\Q (sG σ is xs) M|_=>False
theorem Nl{es:aT}{k:Nat}{is:List Nat}{n:Nat}{pos:Pos}(hc:X.calm=true)(h:m8 X es (lu is))(hl:n=is.length:=by rfl)
 (hn:(assignEach es X.env).length=n:=by rfl) (hst:(assignEach es X.env).findIdx? (·.1)=none:=by rfl):ng X (.Tuple es k pos) (mR is):=PG.imp (Eu hc h hn hst) λv σ0 H Q0 h=>by
 obtain⟨rv,σ,M,Q,hr,hs,hv,hg,hk⟩:=h;cases rv with
 |tup xs=>
  simp only[Rep]at hr;obtain⟨a,vs,rfl,h1,h2⟩:=hr;exact⟨a,vs,rfl,bI.of h1,by rw[<-h2.length,hl];exact hg.1,DN hg.1 h2 hs λσ0' q=>hk _ M σ0' H hg.2 (.refl H) hv q⟩
 |_=>exact hg.elim
def Ad(te:aw)(g:jo):bY:=λD σ M=>te σ M λx M1=>g x σ M1 D.nx
theorem J5{tg e:Expr}{te:aw}{g:jo}{pos:Pos}(he:ai X e te)(hg:ng X tg g)(hs:swapsWithSole [tg] e pos.line X.env=pure false:=by rfl)(hw:swappedStores [tg] e X.env=pure none:=by rfl)
 (h1:(assignEach [tg] X.env).map (·.2)= [assign tg X.env]:=by rfl):c8 X (.Assign [tg] e pos) (Ad te g):=PS.imp (TJ he hg hs hw h1) λD0 σ0 H h=>by
 obtain⟨σ,M,D,hs,hv,ht,hd⟩:=h;exact⟨σ,M,_,hs,hv,ht,λrx M1 x H1 q e1 v1 r1=>⟨rx,σ,M1,D.nx,r1,hs.ext e1,v1,q,hd.nx.ext e1⟩⟩
abbrev wL:=RV->RV->RV->RM->(RM->Prop)->Prop
noncomputable def Fo (K:ag)(g:wL):xo:=λo i v H Q0=>∃ro ri rx M Q,Rep K H ro o/\Rep K H ri i/\Rep K H rx v/\View K H M/\g ro ri rx M Q/\∀M' H',Q M'->Ext H H'->View K H' M'->Q0 H'
def FH(to ti:aw)(g:wL):jo:=λv σ M Q=>to σ M λo M1=>ti σ M1 λi M2=>g o i v M2 λM3=>Q σ M3
theorem Nm{o i:Expr}{to ti:aw}{g:wL}{pos:Pos}(ho:ai X o to)(hi:ai X i ti)(hs:xp X (Fo X.K g))
 (ha:∀v,assign (.Subscript o i pos) X.env v=(do
  let ov<-holding [v] (eval o X.env)
  let iv<-holding [v,ov] (eval i X.env)
  standAt pos
  holding [v,ov,iv] (setItem ov iv v)
  release [v,ov,iv] []):=by intro _;rfl):ng X (.Subscript o i pos) (FH to ti g):=PG.imp (TM ho hi hs ha) λv σ0 H Q0 h=>by
 obtain⟨rv,σ,M,Q,hr,hs,hv,hg,hk⟩:=h;refine⟨σ,M,_,hs,hv,hg,λro M1 o H1 q e1 v1 r1=>?_⟩
 refine⟨σ,M1,_,hs.ext e1,v1,q,λri M2 i H2 q2 e2 v2 r2=>?_⟩
 refine⟨ro,ri,rv,M2,_,Rep.ext e2 ro o r1,r2,Rep.ext (e1.trans e2) rv v hr,v2,q2,λM3 H3 q3 e3 v3=>?_⟩
 have e:=(e1.trans e2).trans e3;exact hk σ M3 σ0 H3 q3 e v3 (hs.ext e)
noncomputable def gR (g:jo)(tb:bY)(D:RD)(ok:RM->Prop)(un:RM->RM):LR->bq->RM->Prop
 | [],σ,M=>ok M/\D.nx σ (un M)
 |x::r,σ,M=>ok M/\g x σ M λσ2 M2=>tb { D with nx:=gR g tb D ok un r,ct:=gR g tb D ok un r,bk:=λσ M=>ok M/\D.nx σ (un M),rt:=λv M=>ok M/\D.rt v (un M) } σ2 M2
end
open PySem.SeqAt (EqAt RcAt RcNeAt)
mutual
def bw:RV->RV->Bool
 | .au,.au=>true
 | .bl a,.bl b=>a==b
 | .bl a,.int b=>(if a then 1 else 0)==b
 | .int a,.bl b=>a==(if b then 1 else 0)
 | .int a,.int b=>a==b
 | .str a,.str b=>a==b
 | .tup xs,.tup ys=>gy xs ys
 | .ls xs,.ls ys=>gy xs ys
 |_,_=>false
def gy:LR->LR->Bool
 | [],[]=>true
 |x::xs,y::ys=>bw x y&&gy xs ys
 |_,_=>false
end
noncomputable def aG:Nat->RV->Bool
 |_,.au=>true
 |_,.bl _=>true
 |_,.int _=>true
 |_,.str _=>true
 |n+1,.tup xs=>xs.all (aG n)
 |n+1,.ls xs=>xs.all (aG n)
 |_,_=>false
mutual
def Den(h:Heap):RV->Value->Prop
 | .au,u=>u= .none
 | .bl b,u=>u= .bool b
 | .int i,u=>∃t,u= .int i t
 | .str x,u=>∃t,u= .str x t
 | .tup xs,u=>∃a its,u= .ref a/\h.IsTuple a its.toArray/\aA h xs its
 | .ls xs,u=>∃a its,u= .ref a/\h.IsList a its.toArray/\aA h xs its
 | .ref _,_=>False
 | .ty _,_=>False
def aA(h:Heap):LR->ao->Prop
 | [],us=>us= []
 |x::xs,us=>∃u r,us=u::r/\Den h x u/\aA h xs r
end
theorem aA.length{h:Heap}:∀{xs:LR} {us:ao},aA h xs us->xs.length=us.length
 | [],us,d=>by simp only[aA]at d;subst d;rfl
 |x::xs,us,d=>by
  simp only[aA]at d;obtain⟨u,r,rfl,_,t⟩:=d;simp[aA.length t]
theorem aA.get{h:Heap}:∀{xs:LR} {us:ao} {j:Nat} {u:Value},aA h xs us->us[j]? =some u->Den h (xs.getD j .au) u/\xs.getD j .au∈xs
 | [],us,_,_,d,e=>by simp only[aA]at d;subst d;simp at e
 |x::xs,us,0,u,d,e=>by
  simp only[aA]at d;obtain⟨v,r,rfl,h1,_⟩:=d;simp at e;subst e;exact⟨by simpa using h1,by simp⟩
 |x::xs,us,j+1,u,d,e=>by
  simp only[aA]at d;obtain⟨v,r,rfl,_,t⟩:=d;obtain⟨a,b⟩:=aA.get (j:=j) t (by simpa using e)
  exact⟨by simpa using a,by simp only[List.getD_cons_succ];exact fM _ b⟩
section
variable {X:Cx}{pins:aF}{σ:L2.St}{H:Hp}{s:Shared}
theorem Vals.cons_inv{v:V}{vs:LV}{us:ao}(r:Vals (v::vs) us):∃u us',us=u::us'/\RelV v u/\Vals vs us':=by
 cases r with
 |cons a b=>exact⟨_,_,rfl,a,b⟩
theorem iV(I:Inv X pins σ H s):∀(n:Nat),(∀(r:RV) (v:V) (u:Value),aG n r=true->Rep X.K H r v->RelV v u->Den s.heap r u):=by
 intro n
 induction n with
 |zero=>
  intro r v u o h w;cases r with
  |au=>simp only[Rep]at h;subst h;simp only[Den];exact w
  |bl b=>simp only[Rep]at h;subst h;simp only[Den];exact w
  |int i=>simp only[Rep]at h;subst h;simp only[Den];exact w
  |str x=>simp only[Rep]at h;subst h;simp only[Den];exact w
  |_=>simp[aG]at o
 |succ n ih=>
  have all:∀(rs:LR) (vs:LV) (us:ao),rs.all (aG n)=true->ae X.K H rs vs->Vals vs us->aA s.heap rs us:=by
   intro rs
   induction rs with
   |nil=>
    intro vs us _ h w;simp only[ae]at h;subst h;cases w;simp only[aA]
   |cons x xs ihx=>
    intro vs us o h w;simp only[ae]at h;obtain⟨v,r,rfl,h1,h2⟩:=h;obtain⟨u,us',rfl,w1,w2⟩:=Vals.cons_inv w;rw[eF,bh]at o;simp only[aA];exact⟨u,us',rfl,ih x v u o.1 h1 w1,ihx r us' o.2 h2 w2⟩
  intro r v u o h w;cases r with
  |au=>simp only[Rep]at h;subst h;simp only[Den];exact w
  |bl b=>simp only[Rep]at h;subst h;simp only[Den];exact w
  |int i=>simp only[Rep]at h;subst h;simp only[Den];exact w
  |str x=>simp only[Rep]at h;subst h;simp only[Den];exact w
  |tup xs=>
   simp only[Rep]at h;obtain⟨a,vs,rfl,h1,h2⟩:=h;obtain⟨its,rv,ht,_⟩:=I.tuple (bI.of h1);simp only[Den];exact⟨a,its,w,ht,all xs vs its o h2 rv⟩
  |ls xs=>
   simp only[Rep]at h;obtain⟨a,vs,rfl,h1,h2⟩:=h;obtain⟨its,rv,ht,_⟩:=I.list h1.sq;simp only[Den];exact⟨a,its,w,ht.isList,all xs vs its o h2 rv⟩
  |_=>simp[aG]at o
end
theorem DK{h:Heap}{a:Addr}{xs ys:ao}(p:h.IsTuple a xs.toArray)(q:h.IsTuple a ys.toArray):xs=ys:=by
 obtain⟨o,e,_,n,d⟩:=p;obtain⟨o',e',_,n',d'⟩:=q;rw[e]at e';cases e';rw[d]at d';injection d' with d1 _
 simpa using congrArg Array.toList d1
theorem D5{h:Heap}{a:Addr}{xs ys:ao}(p:h.IsList a xs.toArray)(q:h.IsList a ys.toArray):xs=ys:=by
 obtain⟨o,e,_,n,d⟩:=p;obtain⟨o',e',_,n',d'⟩:=q;rw[e]at e';cases e';rw[d]at d';injection d' with d1 _
 simpa using congrArg Array.toList d1
theorem Dx{h:Heap}{a:Addr}{xs ys:Array Value}(p:h.IsList a xs)(q:h.IsTuple a ys):False:=by
 obtain⟨o,e,c,_⟩:=p;obtain⟨o',e',c',_⟩:=q;rw[e]at e';cases e';rw[c]at c';exact bp c' (by decide+kernel)
noncomputable def ot:RV->Bool
 | .au=>true
 | .bl _=>true
 | .int _=>true
 | .str _=>true
 |_=>false
noncomputable def Jq:Value->Option RV
 | .none=>some .au
 | .bool b=>some (.bl b)
 | .int i _=>some (.int i)
 | .str x _=>some (.str x)
 |_=>none
theorem Gg{h:Heap}{u:Value}:∀{x:RV},ot x=true->Den h x u->Jq u=some x
 | .au,_,d=>by simp only[Den]at d;subst d;rfl
 | .bl _,_,d=>by simp only[Den]at d;subst d;rfl
 | .int _,_,d=>by simp only[Den]at d;obtain⟨t,rfl⟩:=d;rfl
 | .str _,_,d=>by simp only[Den]at d;obtain⟨t,rfl⟩:=d;rfl
theorem Xd{h:Heap}{u:Value}:∀{x:RV},ot x=false->Den h x u->Jq u=none
 | .tup _,_,d=>by simp only[Den]at d;obtain⟨a,its,rfl,_⟩:=d;rfl
 | .ls _,_,d=>by simp only[Den]at d;obtain⟨a,its,rfl,_⟩:=d;rfl
 | .ref _,_,d=>by simp only[Den]at d
 | .ty _,_,d=>by simp only[Den]at d
theorem y9{h:Heap}:∀(n:Nat) (x y:RV) (u:Value),aG n x=true->aG n y=true->Den h x u->Den h y u->x=y:=by
 intro n;have sc:∀(x y:RV) (u:Value),ot x=true->Den h x u->Den h y u->x=y:=by
  intro x y u sx dx dy;have ex:=Gg sx dx;cases sy:ot y with
  |true=>
   have ey:=Gg sy dy;rw[ex]at ey;exact de ey
  |false=>
   have ey:=Xd sy dy;rw[ex]at ey;cases ey
 induction n with
 |zero=>
  intro x y u ox oy dx dy;have sx:ot x=true:=by cases x<;>first|rfl|(simp[aG]at ox)
  exact sc x y u sx dx dy
 |succ n ih=>
  have all:∀(xs ys:LR) (us:ao),xs.all (aG n)=true->ys.all (aG n)=true->aA h xs us->aA h ys us->xs=ys:=by
   intro xs
   induction xs with
   |nil=>
    intro ys us _ _ d e;simp only[aA]at d;subst d;cases ys with
    |nil=>rfl
    |cons y ys=>simp only[aA]at e;obtain⟨_,_,z,_⟩:=e;cases z
   |cons x xs ihx=>
    intro ys us ox oy d e;simp only[aA]at d;obtain⟨u,r,rfl,d1,d2⟩:=d;cases ys with
    |nil=>simp only[aA]at e;cases e
    |cons y ys=>
     simp only[aA]at e;obtain⟨u',r',z,e1,e2⟩:=e;cases z;rw[eF,bh]at ox oy;rw[ih x y u ox.1 oy.1 d1 e1,ihx ys r ox.2 oy.2 d2 e2]
  intro x y u ox oy dx dy;cases sx:ot x with
  |true=>exact sc x y u sx dx dy
  |false=>
   cases sy:ot y with
   |true=>exact(sc y x u sy dy dx).symm
   |false=>
    cases x with
    |tup xs=>
     simp only[Den]at dx;obtain⟨a,its,rfl,p,d⟩:=dx;cases y with
     |tup ys=>
      simp only[Den]at dy;obtain⟨a',its',z,p',d'⟩:=dy;cases z;obtain rfl:=DK p p';rw[all xs ys its ox oy d d']
     |ls ys=>
      simp only[Den]at dy;obtain⟨a',its',z,p',d'⟩:=dy;cases z;exact(Dx p' p).elim
     |ref _=>simp only[Den]at dy
     |ty _=>simp only[Den]at dy
     |_=>cases sy
    |ls xs=>
     simp only[Den]at dx;obtain⟨a,its,rfl,p,d⟩:=dx;cases y with
     |ls ys=>
      simp only[Den]at dy;obtain⟨a',its',z,p',d'⟩:=dy;cases z;obtain rfl:=D5 p p';rw[all xs ys its ox oy d d']
     |tup ys=>
      simp only[Den]at dy;obtain⟨a',its',z,p',d'⟩:=dy;cases z;exact(Dx p p').elim
     |ref _=>simp only[Den]at dy
     |ty _=>simp only[Den]at dy
     |_=>cases sy
    |ref _=>simp only[Den]at dx
    |ty _=>simp only[Den]at dx
    |_=>cases sx
mutual
theorem oO:∀(x:RV),(∃n,aG n x=true)->bw x x=true
 | .au,_=>by simp[bw]
 | .bl _,_=>by simp[bw]
 | .int _,_=>by simp[bw]
 | .str _,_=>by simp[bw]
 | .tup xs,⟨n,o⟩=>by
  rw[bw];refine yQ xs ?_;cases n with
  |zero=>simp[aG]at o
  |succ n=>exact⟨n,o⟩
 | .ls xs,⟨n,o⟩=>by
  rw[bw];refine yQ xs ?_;cases n with
  |zero=>simp[aG]at o
  |succ n=>exact⟨n,o⟩
 | .ref _,⟨n,o⟩=>by cases n<;>simp[aG]at o
 | .ty _,⟨n,o⟩=>by cases n<;>simp[aG]at o
theorem yQ:∀(xs:LR),(∃n,xs.all (aG n)=true)->gy xs xs=true
 | [],_=>by simp[gy]
 |x::xs,⟨n,o⟩=>by
  rw[eF,bh]at o;rw[gy,oO x ⟨n,o.1⟩,yQ xs ⟨n,o.2⟩];rfl
end
noncomputable abbrev pk (xs ys:LR) (j:Nat):Bool:=bw (xs.getD j .au) (ys.getD j .au)
theorem qc:∀xs ys:LR,((List.range (min xs.length ys.length)).all (pk xs ys)&&xs.length==ys.length)=gy xs ys
 | [],[]=>by simp[gy]
 | [],_::_=>by simp[gy]
 |_::_,[]=>by simp[gy]
 |x::xs,y::ys=>by
  have ih:=qc xs ys;have e1:min (x::xs).length (y::ys).length=min xs.length ys.length+1:=by simp only[dc];omega
  have e2:((x::xs).length==(y::ys).length)=(xs.length==ys.length):=by simp
  have e3:(List.range (min xs.length ys.length+1)).all (pk (x::xs) (y::ys))=(bw x y&&(List.range (min xs.length ys.length)).all (pk xs ys)):=by
   rw[List.range_succ_eq_map,eF,List.all_map];rfl
  rw[e1,e2,e3,gy,<-ih,Bool.and_assoc]
theorem yP{xs ys:LR}(h:xs.length=ys.length):(List.range xs.length).all (pk xs ys)=gy xs ys:=by
 have:=qc xs ys;rw[<-h,Nat.min_self]at this;simpa using this
theorem yB{xs ys:LR}(h:xs.length≠ys.length):gy xs ys=false:=by
 have:=qc xs ys;rw[<-this];simp[h]
theorem in1_units(A:Around):A.in1.units=A.units+1:=rfl
theorem yS:∀(n:Nat) (x y:RV) (A:Around) (s:Shared) (u w:Value),aG n x=true->aG n y=true->Den s.heap x u->Den s.heap y w->A.units+n<cLine->EqAt A s u w (bw x y):=by
 intro n
 induction n with
 |zero=>
  intro x y A s u w ox oy dx dy hu;cases x<;>cases y<;>first|(simp only[Den]at dx;done)|(simp only[Den]at dy;done)|(simp[aG]at ox;done)|(simp[aG]at oy;done)|(simp only[Den]at dx dy;(first|subst dx|obtain⟨t1,rfl⟩:=dx|obtain⟨a1,its1,rfl,p1,d1⟩:=dx);(first|subst dy|obtain⟨t2,rfl⟩:=dy|obtain⟨a2,its2,rfl,p2,d2⟩:=dy);first|(simp only[bw,Bool.not_false,Bool.not_true];with_reducible first|exact EqAt.same _|exact EqAt.none_bool _|exact EqAt.none_int _ _|exact EqAt.none_str _ _|exact EqAt.bool_none _|exact EqAt.bool_bool _ _|exact EqAt.bool_int _ _ _|exact EqAt.bool_str _ _ _|exact EqAt.int_none _ _|exact EqAt.int_bool _ _ _|exact EqAt.int_int _ _ _ _|exact EqAt.int_str _ _ _ _|exact EqAt.str_none _ _|exact EqAt.str_bool _ _ _|exact EqAt.str_int _ _ _ _|exact EqAt.str_str _ _ _ _))
 |succ n ih=>
  intro x y A s u w ox oy dx dy hu;have hu0:A.units<cLine:=by omega
  have item:∀(xs ys:LR) (us ws:ao),xs.all (aG n)=true->ys.all (aG n)=true->aA s.heap xs us->aA s.heap ys ws->
   ∀j (j1:j<us.toArray.size) (j2:j<ws.toArray.size),EqAt A.in1 s us.toArray[j] ws.toArray[j] (pk xs ys j):=λxs ys us ws o1 o2 d1 d2 j j1 j2=>by
   obtain⟨a1,b1⟩:=d1.get (j:=j) (u:=us.toArray[j]) (by simp)
   obtain⟨a2,b2⟩:=d2.get (j:=j) (u:=ws.toArray[j]) (by simp)
   exact ih _ _ A.in1 s _ _ (gk.mp o1 _ b1) (gk.mp o2 _ b2) a1 a2 (by rw[in1_units];omega)
  have same_EqAt_tup:∀(xs ys:LR) (a a':Addr) (its its':ao),s.heap.IsTuple a its.toArray->s.heap.IsTuple a' its'.toArray->aA s.heap xs its->aA s.heap ys its'->aG (n+1) (.tup xs)=true->aG (n+1) (.tup ys)=true->EqAt A s (.ref a) (.ref a') (bw (RV.tup xs) (RV.tup ys)):=by
   intro xs ys a a' its its' p p' d d' ox oy
   by_cases ha:a=a'
   . subst ha
     obtain rfl:=DK p p';have e:RV.tup xs=RV.tup ys:=y9 (n+1) _ _ (.ref a) ox oy (by simp only[Den];exact⟨a,its,rfl,p,d⟩) (by simp only[Den];exact⟨a,its,rfl,p,d'⟩)
     rw[<-e,oO _ ⟨_,ox⟩];exact EqAt.same _
   refine EqAt.of_refs ha ?_;rw[bw,<-qc,d.length,d'.length];have:=RcAt.tuples p p' hu0 (item xs ys its its' ox oy d d');simpa using this
  have same_EqAt_ls:∀(xs ys:LR) (a a':Addr) (its its':ao),s.heap.IsList a its.toArray->s.heap.IsList a' its'.toArray->aA s.heap xs its->aA s.heap ys its'->aG (n+1) (.ls xs)=true->aG (n+1) (.ls ys)=true->EqAt A s (.ref a) (.ref a') (bw (RV.ls xs) (RV.ls ys)):=by
   intro xs ys a a' its its' p p' d d' ox oy
   by_cases ha:a=a'
   . subst ha
     obtain rfl:=D5 p p';have e:RV.ls xs=RV.ls ys:=y9 (n+1) _ _ (.ref a) ox oy (by simp only[Den];exact⟨a,its,rfl,p,d⟩) (by simp only[Den];exact⟨a,its,rfl,p,d'⟩)
     rw[<-e,oO _ ⟨_,ox⟩];exact EqAt.same _
   refine EqAt.of_refs ha ?_;rw[bw]
   by_cases hz:xs.length=ys.length
   . rw[<-yP hz,d.length]
     have:=RcAt.lists p p' (by simp[<-d.length,<-d'.length,hz]) hu0 (item xs ys its its' ox oy d d')
     simpa using this
   . rw[yB hz]
     exact RcAt.lists_lengths p p' (by simp[<-d.length,<-d'.length,hz]) hu0
  cases x<;>cases y<;>first|(simp only[Den]at dx;done)|(simp only[Den]at dy;done)|(simp only[Den]at dx dy;(first|subst dx|obtain⟨t1,rfl⟩:=dx|obtain⟨a1,its1,rfl,p1,d1⟩:=dx);(first|subst dy|obtain⟨t2,rfl⟩:=dy|obtain⟨a2,its2,rfl,p2,d2⟩:=dy);first|with_reducible exact same_EqAt_tup _ _ _ _ _ _ p1 p2 d1 d2 ox oy|with_reducible exact same_EqAt_ls _ _ _ _ _ _ p1 p2 d1 d2 ox oy|(simp only[bw,Bool.not_false,Bool.not_true];with_reducible first|exact EqAt.same _|exact EqAt.none_bool _|exact EqAt.none_int _ _|exact EqAt.none_str _ _|exact EqAt.bool_none _|exact EqAt.bool_bool _ _|exact EqAt.bool_int _ _ _|exact EqAt.bool_str _ _ _|exact EqAt.int_none _ _|exact EqAt.int_bool _ _ _|exact EqAt.int_int _ _ _ _|exact EqAt.int_str _ _ _ _|exact EqAt.str_none _ _|exact EqAt.str_bool _ _ _|exact EqAt.str_int _ _ _ _|exact EqAt.str_str _ _ _ _|exact EqAt.tuple_none p1 hu0|exact EqAt.tuple_bool _ p1 hu0|exact EqAt.tuple_int _ _ p1 hu0|exact EqAt.tuple_str _ _ p1 hu0|exact EqAt.list_none p1 hu0|exact EqAt.list_bool _ p1 hu0|exact EqAt.list_int _ _ p1 hu0|exact EqAt.list_str _ _ p1 hu0|exact EqAt.none_tuple p2 hu0|exact EqAt.bool_tuple _ p2 hu0|exact EqAt.int_tuple _ _ p2 hu0|exact EqAt.str_tuple _ _ p2 hu0|exact EqAt.none_list p2 hu0|exact EqAt.bool_list _ p2 hu0|exact EqAt.int_list _ _ p2 hu0|exact EqAt.str_list _ _ p2 hu0|exact EqAt.tuple_list p1 p2 hu0|exact EqAt.list_tuple p1 p2 hu0))
theorem OK(n:Nat)(x y:RV)(A:Around)(s:Shared)(u w:Value)(ox:aG (n+1) x=true)(oy:aG (n+1) y=true)(dx:Den s.heap x u)(dy:Den s.heap y w)(hu:A.units+(n+1)<cLine):RcNeAt A s u w (!bw x y):=by
 have hu0:A.units<cLine:=by omega
 have item:∀(xs ys:LR) (us ws:ao),xs.all (aG n)=true->ys.all (aG n)=true->aA s.heap xs us->aA s.heap ys ws->
  ∀j (j1:j<us.toArray.size) (j2:j<ws.toArray.size),EqAt A.in1 s us.toArray[j] ws.toArray[j] (pk xs ys j):=λxs ys us ws o1 o2 d1 d2 j j1 j2=>by
  obtain⟨a1,b1⟩:=d1.get (j:=j) (u:=us.toArray[j]) (by simp)
  obtain⟨a2,b2⟩:=d2.get (j:=j) (u:=ws.toArray[j]) (by simp)
  exact yS n _ _ A.in1 s _ _ (gk.mp o1 _ b1) (gk.mp o2 _ b2) a1 a2 (by rw[in1_units];omega)
 have same_RcNeAt_tup:∀(xs ys:LR) (a a':Addr) (its its':ao),s.heap.IsTuple a its.toArray->s.heap.IsTuple a' its'.toArray->aA s.heap xs its->aA s.heap ys its'->aG (n+1) (.tup xs)=true->aG (n+1) (.tup ys)=true->RcNeAt A s (.ref a) (.ref a') (!bw (RV.tup xs) (RV.tup ys)):=by
  intro xs ys a a' its its' p p' d d' ox oy;rw[bw,<-qc,d.length,d'.length];have:=RcNeAt.tuples p p' hu0 (item xs ys its its' ox oy d d');simpa using this
 have same_RcNeAt_ls:∀(xs ys:LR) (a a':Addr) (its its':ao),s.heap.IsList a its.toArray->s.heap.IsList a' its'.toArray->aA s.heap xs its->aA s.heap ys its'->aG (n+1) (.ls xs)=true->aG (n+1) (.ls ys)=true->RcNeAt A s (.ref a) (.ref a') (!bw (RV.ls xs) (RV.ls ys)):=by
  intro xs ys a a' its its' p p' d d' ox oy;rw[bw]
  by_cases hz:xs.length=ys.length
  . rw[<-yP hz,d.length]
    have:=RcNeAt.lists p p' (by simp[<-d.length,<-d'.length,hz]) hu0 (item xs ys its its' ox oy d d')
    simpa using this
  . rw[yB hz]
    exact RcNeAt.lists_lengths p p' (by simp[<-d.length,<-d'.length,hz]) hu0
 cases x<;>cases y<;>first|(simp only[Den]at dx;done)|(simp only[Den]at dy;done)|(simp only[Den]at dx dy;(first|subst dx|obtain⟨t1,rfl⟩:=dx|obtain⟨a1,its1,rfl,p1,d1⟩:=dx);(first|subst dy|obtain⟨t2,rfl⟩:=dy|obtain⟨a2,its2,rfl,p2,d2⟩:=dy);first|with_reducible exact same_RcNeAt_tup _ _ _ _ _ _ p1 p2 d1 d2 ox oy|with_reducible exact same_RcNeAt_ls _ _ _ _ _ _ p1 p2 d1 d2 ox oy|(simp only[bw,Bool.not_false,Bool.not_true];with_reducible first|exact RcNeAt.none_none|exact RcNeAt.none_bool _|exact RcNeAt.none_int _ _|exact RcNeAt.none_str _ _|exact RcNeAt.bool_none _|exact RcNeAt.bool_bool _ _|exact RcNeAt.bool_int _ _ _|exact RcNeAt.bool_str _ _ _|exact RcNeAt.int_none _ _|exact RcNeAt.int_bool _ _ _|exact RcNeAt.int_int _ _ _ _|exact RcNeAt.int_str _ _ _ _|exact RcNeAt.str_none _ _|exact RcNeAt.str_bool _ _ _|exact RcNeAt.str_int _ _ _ _|exact RcNeAt.str_str _ _ _ _|exact RcNeAt.tuple_none p1 hu0|exact RcNeAt.tuple_bool _ p1 hu0|exact RcNeAt.tuple_int _ _ p1 hu0|exact RcNeAt.tuple_str _ _ p1 hu0|exact RcNeAt.list_none p1 hu0|exact RcNeAt.list_bool _ p1 hu0|exact RcNeAt.list_int _ _ p1 hu0|exact RcNeAt.list_str _ _ p1 hu0|exact RcNeAt.none_tuple p2 hu0|exact RcNeAt.bool_tuple _ p2 hu0|exact RcNeAt.int_tuple _ _ p2 hu0|exact RcNeAt.str_tuple _ _ p2 hu0|exact RcNeAt.none_list p2 hu0|exact RcNeAt.bool_list _ p2 hu0|exact RcNeAt.int_list _ _ p2 hu0|exact RcNeAt.str_list _ _ p2 hu0|exact RcNeAt.tuple_list p1 p2 hu0|exact RcNeAt.list_tuple p1 p2 hu0))
theorem PQ(n:Nat)(x y:RV)(A:Around)(s:Shared)(u w:Value)(ox:aG (n+1) x=true)(oy:aG (n+1) y=true)(dx:Den s.heap x u)(dy:Den s.heap y w)(hu:A.units+(n+1)<cLine):RcAt A s u w (bw x y):=by
 have hu0:A.units<cLine:=by omega
 have item:∀(xs ys:LR) (us ws:ao),xs.all (aG n)=true->ys.all (aG n)=true->aA s.heap xs us->aA s.heap ys ws->
  ∀j (j1:j<us.toArray.size) (j2:j<ws.toArray.size),EqAt A.in1 s us.toArray[j] ws.toArray[j] (pk xs ys j):=λxs ys us ws o1 o2 d1 d2 j j1 j2=>by
  obtain⟨a1,b1⟩:=d1.get (j:=j) (u:=us.toArray[j]) (by simp)
  obtain⟨a2,b2⟩:=d2.get (j:=j) (u:=ws.toArray[j]) (by simp)
  exact yS n _ _ A.in1 s _ _ (gk.mp o1 _ b1) (gk.mp o2 _ b2) a1 a2 (by rw[in1_units];omega)
 have same_RcAt_tup:∀(xs ys:LR) (a a':Addr) (its its':ao),s.heap.IsTuple a its.toArray->s.heap.IsTuple a' its'.toArray->aA s.heap xs its->aA s.heap ys its'->aG (n+1) (.tup xs)=true->aG (n+1) (.tup ys)=true->RcAt A s (.ref a) (.ref a') (bw (RV.tup xs) (RV.tup ys)):=by
  intro xs ys a a' its its' p p' d d' ox oy;rw[bw,<-qc,d.length,d'.length];have:=RcAt.tuples p p' hu0 (item xs ys its its' ox oy d d');simpa using this
 have same_RcAt_ls:∀(xs ys:LR) (a a':Addr) (its its':ao),s.heap.IsList a its.toArray->s.heap.IsList a' its'.toArray->aA s.heap xs its->aA s.heap ys its'->aG (n+1) (.ls xs)=true->aG (n+1) (.ls ys)=true->RcAt A s (.ref a) (.ref a') (bw (RV.ls xs) (RV.ls ys)):=by
  intro xs ys a a' its its' p p' d d' ox oy;rw[bw]
  by_cases hz:xs.length=ys.length
  . rw[<-yP hz,d.length]
    have:=RcAt.lists p p' (by simp[<-d.length,<-d'.length,hz]) hu0 (item xs ys its its' ox oy d d')
    simpa using this
  . rw[yB hz]
    exact RcAt.lists_lengths p p' (by simp[<-d.length,<-d'.length,hz]) hu0
 cases x<;>cases y<;>first|(simp only[Den]at dx;done)|(simp only[Den]at dy;done)|(simp only[Den]at dx dy;(first|subst dx|obtain⟨t1,rfl⟩:=dx|obtain⟨a1,its1,rfl,p1,d1⟩:=dx);(first|subst dy|obtain⟨t2,rfl⟩:=dy|obtain⟨a2,its2,rfl,p2,d2⟩:=dy);first|with_reducible exact same_RcAt_tup _ _ _ _ _ _ p1 p2 d1 d2 ox oy|with_reducible exact same_RcAt_ls _ _ _ _ _ _ p1 p2 d1 d2 ox oy|(simp only[bw,Bool.not_false,Bool.not_true];with_reducible first|exact RcAt.none_none|exact RcAt.none_bool _|exact RcAt.none_int _ _|exact RcAt.none_str _ _|exact RcAt.bool_none _|exact RcAt.bool_bool _ _|exact RcAt.bool_int _ _ _|exact RcAt.bool_str _ _ _|exact RcAt.int_none _ _|exact RcAt.int_bool _ _ _|exact RcAt.int_int _ _ _ _|exact RcAt.int_str _ _ _ _|exact RcAt.str_none _ _|exact RcAt.str_bool _ _ _|exact RcAt.str_int _ _ _ _|exact RcAt.str_str _ _ _ _|exact RcAt.tuple_none p1 hu0|exact RcAt.tuple_bool _ p1 hu0|exact RcAt.tuple_int _ _ p1 hu0|exact RcAt.tuple_str _ _ p1 hu0|exact RcAt.list_none p1 hu0|exact RcAt.list_bool _ p1 hu0|exact RcAt.list_int _ _ p1 hu0|exact RcAt.list_str _ _ p1 hu0|exact RcAt.none_tuple p2 hu0|exact RcAt.bool_tuple _ p2 hu0|exact RcAt.int_tuple _ _ p2 hu0|exact RcAt.str_tuple _ _ p2 hu0|exact RcAt.none_list p2 hu0|exact RcAt.bool_list _ p2 hu0|exact RcAt.int_list _ _ p2 hu0|exact RcAt.str_list _ _ p2 hu0|exact RcAt.tuple_list p1 p2 hu0|exact RcAt.list_tuple p1 p2 hu0))
section
variable {X:Cx}
theorem mF{f:Value->Value->Sem Value}{r:R2}{rr:bV}(h:cN X f r)(ri:∀(i j:Int) M Q (H:Hp) (Q0:VK),rr (.int i) (.int j) M Q->(∀z:RV,Q z M->∀v,Rep X.K H z v->Q0 v H)->r (.int i) (.int j) H Q0)
 (no:∀x y M Q,rr x y M Q->∃i j,x= .int i/\y= .int j):ck X f rr:=by
 intro pins s σ H x y v u Q0 I rx ry h';obtain⟨a,b,M,Q,ra,rb,hv,hq,hk⟩:=h';obtain⟨i,j,rfl,rfl⟩:=no a b M Q hq;simp only[Rep]at ra rb;subst ra;subst rb;exact h pins s σ H _ _ v u Q0 I rx ry (ri i j M Q H Q0 hq λz q v' rz=>hk z M v' H q (.refl H) hv rz)
def tj(C:Int->Int->Prop)(g:Int->Int->RV):bV:=λx y M Q=>match x,y with| .int i,.int j=>C i j/\Q (g i j) M|_,_=>False
def pf(g:Int->Int->RV):bV:=λx y M Q=>match x,y with| .int i,.int j=>Q (g i j) M|_,_=>False
theorem yW{C:Int->Int->Prop}{g:Int->Int->RV}(x y:RV)(M:RM)(Q:aq)(h:tj C g x y M Q):∃i j,x= .int i/\y= .int j:=by
 unfold tj at h;split at h
 . exact⟨_,_,rfl,rfl⟩
 . exact h.elim
theorem sD{g:Int->Int->RV}(x y:RV)(M:RM)(Q:aq)(h:pf g x y M Q):∃i j,x= .int i/\y= .int j:=by
 unfold pf at h;split at h
 . exact⟨_,_,rfl,rfl⟩
 . exact h.elim
abbrev Ke:bV:=pf λi j=>.int (i-j)
theorem L9:ck X (binaryOp .Sub) Ke:=mF Tq (λi j M Q H Q0 h k=>⟨i,j,rfl,rfl,k _ h _ (by simp only[Rep])⟩) sD
abbrev Jx:bV:=tj (λ_ j=>0<j) λi j=>.int (i % j)
theorem M6:ck X (binaryOp .Mod) Jx:=mF UL (λi j M Q H Q0 h k=>⟨i,j,rfl,rfl,h.1,k _ h.2 _ (by simp only[Rep])⟩) yW
abbrev JH:bV:=tj (λ_ j=>0<j/\j<1073741824) λi j=>.int (i / j)
theorem Nb:ck X (binaryOp .FloorDiv) JH:=mF Sx (λi j M Q H Q0 h k=>⟨i,j,rfl,rfl,h.1,k _ h.2 _ (by simp only[Rep])⟩) yW
abbrev Kf:bV:=tj (λi j=>0<=j/\j<=1000000/\i.natAbs<2 ^ 64) λi j=>.int (i ^ j.toNat)
theorem Mb:ck X (binaryOp .Pow) Kf:=mF Ts (λi j M Q H Q0 h k=>⟨i,j,rfl,rfl,h.1,k _ h.2 _ (by simp only[Rep])⟩) yW
abbrev Kq:bV:=pf λi j=>.bl (decide (i<j))
theorem Lp:ck X (compareOp .Lt) Kq:=mF We (λi j M Q H Q0 h k=>⟨i,j,rfl,rfl,k _ h _ (by simp only[Rep])⟩) sD
abbrev Kp:bV:=pf λi j=>.bl (decide (i<=j))
theorem Lo:ck X (compareOp .LtE) Kp:=mF Wf (λi j M Q H Q0 h k=>⟨i,j,rfl,rfl,k _ h _ (by simp only[Rep])⟩) sD
abbrev Kn:bV:=pf λi j=>.bl (decide (j<i))
theorem Lk:ck X (compareOp .Gt) Kn:=mF Wg (λi j M Q H Q0 h k=>⟨i,j,rfl,rfl,k _ h _ (by simp only[Rep])⟩) sD
abbrev Km:bV:=pf λi j=>.bl (decide (j<=i))
theorem Lj:ck X (compareOp .GtE) Km:=mF Wh (λi j M Q H Q0 h k=>⟨i,j,rfl,rfl,k _ h _ (by simp only[Rep])⟩) sD
noncomputable def zZ (x:Str)(n:Nat):Str:=⟨(List.replicate n x.cps).foldl (. ++ ·) #[]⟩
def Wy:bV:=λx y M Q=>match x,y with
 | .str z,.int k=>2<=k/\k<=1000/\z.length=1/\Q (.str (zZ z k.toNat)) M
 |_,_=>False
theorem size_rep{α:Type}(a:Array α):∀(n:Nat) (acc:Array α),((List.replicate n a).foldl (. ++ ·) acc).size=acc.size+n*a.size
 |0,acc=>by simp
 |n+1,acc=>by
  rw[mV,List.foldl_cons,size_rep a n,Array.size_append,Nat.succ_mul];omega
theorem Wi:ck X (binaryOp .Mult) Wy:=by
 intro pins s σ H x y v u Q0 I rx ry h;obtain⟨a,b,M,Q,ra,rb,hv,hq,hk⟩:=h;cases a with
 |str z=>cases b with
  |int k=>
   simp only[Rep]at ra rb;subst ra;subst rb;obtain⟨t,rfl⟩:=rx;obtain⟨t',rfl⟩:=ry;obtain⟨h1,h2,h3,hq⟩:=hq;have hn:¬k<1:=by omega
   have hn1:(k==1||z.length==0)=false:=by
    rw[h3];have:(k==1)=false:=by simp;omega
    rw[this];rfl
   refine PySem.P.mul_str ?_ ?_ ?_ ?_
   . rw[fv ∅,fv ∅];rfl
   . intro _ _ hgt
     rw[h3]at hgt;have h5:(2 ^ 63-1) / k ≥ 1:=by
      have:(1:Int)*k<=2 ^ 63-1:=by omega
      exact Int.le_ediv_of_mul_le ∅ this
     have h6:((1:Nat):Int)=1:=rfl;omega
   . intro _ _
     rw[h3];unfold Builtin.Str.tooLong;exact fv (by have:(1000:Nat)<=sizeLine:=⋯;omega)
   . rw[aj hn,hn1]
     simp only[lF,if_false];refine⟨?_,⟨.str (zZ z k.toNat),H,I.tok _,⟨_,rfl⟩,hk _ M _ H hq (.refl H) hv (by simp only[Rep])⟩⟩
     show Array.size (List.foldl _ _ _)<=sizeLine;rw[size_rep];have:z.cps.size=1:=h3;rw[this];have h7:(1000:Nat)<=sizeLine:=by decide
     simp only[Array.size_empty];omega
  |_=>exact(show False from hq).elim
 |_=>cases b<;>exact(show False from hq).elim
noncomputable def Kk:bV:=λx y M Q=>match x,y with
 | .int i,.int j=>gB i j/\Q (.int (i*j)) M
 | .str z,.int k=>2<=k/\k<=1000/\z.length=1/\Q (.str (zZ z k.toNat)) M
 | .ref a,.int k=>∃xs,M a=some (.lst xs)/\-(2 ^ 63)<=k/\k<2 ^ 63/\xs.length*k.toNat<=sizeLine/\Q (.ls (List.replicate k.toNat xs).flatten) M
 |_,_=>False
theorem CZ{K:ag}{H:Hp}{xs:LR}{vs:LV}(r:ae K H xs vs):∀n:Nat,ae K H (List.replicate n xs).flatten (List.replicate n vs).flatten
 |0=>by simpa using ae.nil
 |n+1=>by
  rw[mV,qL,mV,qL];exact r.append (CZ r n)
theorem M5:ck X (binaryOp .Mult) Kk:=by
 intro pins s σ H x y v u Q0 I rx ry h;obtain⟨a,b,M,Q,ra,rb,hv,hq,hk⟩:=h;cases a with
 |int i=>
  cases b with
  |int j=>simp only[Rep]at ra rb;exact UK pins s σ H x y v u Q0 I rx ry ⟨i,j,ra,rb,hq.1,hk _ M _ H hq.2 (.refl H) hv (by simp only[Rep])⟩
  |_=>exact(show False from hq).elim
 |str z=>
  cases b with
  |int k=>exact Wi pins s σ H x y v u Q0 I rx ry ⟨.str z,.int k,M,Q,ra,rb,hv,hq,hk⟩
  |_=>exact(show False from hq).elim
 |ref p=>
  cases b with
  |int k=>
   simp only[Rep]at ra rb;obtain⟨xs,hm,h1,h2,h3,h4⟩:=hq;obtain⟨ho,e,r⟩:=hv p _ hm;obtain⟨vs,rfl,rr⟩:=r;refine aB (Tr pins s σ H x y v u (λv H'=>∃H1 p xs,v= .ref p/\H1 p=none/\H'=upd H1 p (.lst xs)/\∀o,Q0 (.ref p) (upd H1 p (.aZ o (.lst xs)))) I rx ry ⟨p,k,vs,ra,rb,e,h1,h2,by rw[<-rr.length];exact h3,λq hq=>⟨H,q,_,rfl,hq,rfl,λo=>?_⟩⟩) λ_ _ e=>frozen e
   exact hk _ M _ _ h4 (Ext.new hq) (hv.new hq) (oY hq (CZ rr _))
  |_=>exact(show False from hq).elim
 |_=>cases b<;>exact(show False from hq).elim
noncomputable def xf:bV:=λx y M Q=>match x,y with
 | .int i,.int j=>Q (.int (i+j)) M
 | .str i,.str j=>i.length+j.length<=sizeLine/\Q (.str (i++j)) M
 | .tup xs,.tup ys=>xs.length+ys.length<=sizeLine/\Q (.tup (xs++ys)) M
 | .ls xs,.ls ys=>xs.length+ys.length<=sizeLine/\Q (.ls (xs++ys)) M
 |_,_=>False
theorem Rh{prog:Program}{w:World}{A:Around}{E:aP}{s:Shared}{t b:Addr}{ws:ao}{Q:aP}(ht:IsTup s.heap t ([]:ao).toArray)(hb:IsTup s.heap b ws.toArray)(h:Q (.ref b) s):
 wpAny (model prog w) A (binaryOp .Add (.ref t) (.ref b)) Q E s:=by
 obtain⟨⟨cls,dd,data,sl⟩,ho,hc,n,hd⟩:=id ht;obtain⟨⟨cls2,dd2,data2,sl2⟩,ho2,hc2,n2,hd2⟩:=id hb;simp only at hc hd hc2 hd2;subst hc hd hc2 hd2;exact concat_meets ⟨_,ho,rfl⟩ ⟨_,ho2,rfl⟩ noFill_tuple_add seq_tuple_add PySem.F.slot_tuple_add PySem.F.entry_tuple_add (PySem.F.args_tuple_add_2 _ _)
  (tuple_addW0 t b [].toArray ws.toArray n n2 dd dd2 sl sl2 (by simp)) ⟨ho,ho2,h⟩
theorem S8{prog:Program}{w:World}{A:Around}{E:aP}{s:Shared}{l b:Addr}{vs ws:ao}{Q:aP}(hl:s.heap.IsList l vs.toArray)(hb:s.heap.IsList b ws.toArray)
 (h:Q (.ref s.heap.objs.size) { s with heap:=s.heap.push { cls:=.type "list",data:=.seq (vs++ws).toArray } }) (hsz:vs.length+ws.length<=sizeLine):
 wpAny (model prog w) A (binaryOp .Add (.ref l) (.ref b)) Q E s:=by
 obtain⟨⟨cls,dd,data,sl⟩,ho,hc,n,hd⟩:=id hl;obtain⟨⟨cls2,dd2,data2,sl2⟩,ho2,hc2,n2,hd2⟩:=id hb;simp only at hc hd hc2 hd2;subst hc hd hc2 hd2;have e:vs.toArray++ws.toArray=(vs++ws).toArray:=by simp
 refine concat_meets ⟨_,ho,rfl⟩ ⟨_,ho2,rfl⟩ noFill_list_add seq_list_add PySem.F.slot_list_add PySem.F.entry_list_add (PySem.F.args_list_add_2 _ _) (list_addW l b vs.toArray ws.toArray n n2 dd dd2 sl sl2 (by simpa using hsz)) ⟨ho,ho2,?_⟩
 rw[e];exact h
theorem Nf:ck X (binaryOp .Add) xf:=by
 intro pins s σ H x y v u Q0 I rx ry h;obtain⟨a,b,M,Q,ra,rb,hv,hq,hk⟩:=h;cases a with
 |int i=>
  cases b with
  |int j=>simp only[Rep]at ra rb;exact UN pins s σ H x y v u Q0 I rx ry ⟨i,j,ra,rb,hk _ M _ H hq (.refl H) hv (by simp only[Rep])⟩
  |_=>exact(show False from hq).elim
 |str i=>
  cases b with
  |str j=>simp only[Rep]at ra rb;exact Ox pins s σ H x y v u Q0 I rx ry ⟨i,j,ra,rb,hq.1,hk _ M _ H hq.2 (.refl H) hv (by simp only[Rep])⟩
  |_=>exact(show False from hq).elim
 |tup xs=>
  cases b with
  |tup ys=>
   obtain⟨hz,hq⟩:=hq;simp only[Rep]at ra rb;obtain⟨p,vs,rfl,hp,hr⟩:=ra;obtain⟨q,ws,rfl,hp2,hr2⟩:=rb
   by_cases hn:vs= []
   . subst hn
     have hx:xs= []:=by have:=hr.length;simpa using this
     subst hx;cases rx;cases ry;obtain⟨its,r1,p1,_⟩:=I.tuple (bI.of hp);obtain⟨its2,r2,p2,_⟩:=I.tuple (bI.of hp2);cases r1;exact Rh p1 p2 ⟨.ref q,H,I,rfl,hk _ M _ H hq (.refl H) hv (by simp only[Rep,xN];exact⟨q,ws,rfl,hp2,hr2⟩)⟩
   . refine Sy pins s σ H _ _ v u Q0 I rx ry ⟨p,q,vs,ws,rfl,rfl,hp,hp2,hn,by rw[<-hr.length,<-hr2.length];exact hz,λe=>?_,λe l hl=>?_⟩
     . subst e
       have hy:ys= []:=by have:=hr2.length;simpa using this
       subst hy;exact hk _ M _ H hq (.refl H) hv (by simp only[Rep,jm];exact⟨p,vs,rfl,hp,hr⟩)
     . exact hk _ M _ _ hq (Ext.new hl) (hv.new hl) (sE hl (hr.append hr2))
  |_=>exact(show False from hq).elim
 |ls xs=>
  cases b with
  |ls ys=>
   obtain⟨hz,hq⟩:=hq;simp only[Rep]at ra rb;obtain⟨p,vs,rfl,hp,hr⟩:=ra;obtain⟨q,ws,rfl,hp2,hr2⟩:=rb;cases rx;cases ry;obtain⟨its,r1,p1,z1⟩:=I.list hp.sq;obtain⟨its2,r2,p2,z2⟩:=I.list hp2.sq;have hz':vs.length+ws.length<=sizeLine:=by rw[<-hr.length,<-hr2.length];exact hz
   refine aB (S8 (Q:=EP X pins σ (λv H'=>∃H1 p xs,v= .ref p/\H1 p=none/\H'=upd H1 p (.lst xs)/\∀o,Q0 (.ref p) (upd H1 p (.aZ o (.lst xs))))) p1.isList p2.isList ?_ (by rw[<-r1.length,<-r2.length];exact hz')) λ_ _ e=>frozen e
   have hf:=I.ar.fresh (ba s.heap.objs.size);refine⟨.ref s.heap.objs.size,upd H s.heap.objs.size (.lst (vs++ws)),I.laid (t':=s.toks) (λb ob q=>bS _ q) (ba _) ?_,rfl,H,_,_,rfl,hf,rfl,λo=>?_⟩
   . exact⟨by rw[jF];exact hz',_,0,r1.append r2,dz _ rfl⟩
   . exact hk _ M _ _ hq (Ext.new hf) (hv.new hf) (oY hf (hr.append hr2))
  |_=>exact(show False from hq).elim
 |_=>cases b<;>exact(show False from hq).elim
noncomputable def fe:RV->Bool
 | .au=>true
 |_=>false
theorem DW{K:ag}{H:Hp}:∀{a:RV} {x:V},Rep K H a x->decide (x= .au)=fe a:=by
 intro a x h;cases a with
 |tup xs=>simp only[Rep]at h;obtain⟨p,vs,rfl,_⟩:=h;simp[fe]
 |ls xs=>simp only[Rep]at h;obtain⟨p,vs,rfl,_⟩:=h;simp[fe]
 |_=>simp only[Rep]at h;subst h;simp[fe]
def Ko:bV:=λx y M Q=>match y with| .au=>Q (.bl (fe x)) M|_=>False
def E6:bV:=λx y M Q=>match y with| .au=>Q (.bl (!fe x)) M|_=>False
theorem Lm:ck X (compareOp .Is) Ko:=by
 intro pins s σ H x y v u Q0 I rx ry h;obtain⟨a,b,M,Q,ra,rb,hv,hq,hk⟩:=h;cases b with
 |au=>simp only[Rep]at rb;exact UM pins s σ H x y v u Q0 I rx ry ⟨rb,by rw[DW ra];exact hk _ M _ H hq (.refl H) hv (by simp only[Rep])⟩
 |_=>exact(show False from hq).elim
theorem UR:ck X (compareOp .IsNot) E6:=by
 intro pins s σ H x y v u Q0 I rx ry h;obtain⟨a,b,M,Q,ra,rb,hv,hq,hk⟩:=h;cases b with
 |au=>simp only[Rep]at rb;exact Sw pins s σ H x y v u Q0 I rx ry ⟨rb,by rw[DW ra];exact hk _ M _ H hq (.refl H) hv (by simp only[Rep])⟩
 |_=>exact(show False from hq).elim
noncomputable def fq:bV:=λx y M Q=>match x,y with
 | .tup xs,.int i=>match bz xs i with|some v=>Q v M|none=>False
 | .ls xs,.int i=>match bz xs i with|some v=>Q v M|none=>False
 | .ref a,.int i=>match M a with
  |some (.lst xs)=>match bz xs i with|some v=>Q v M|none=>False
  |_=>False
 | .str z,.int i=>z.length<=sizeLine/\match bz z.cps.toList i with|some c=>Q (.str ⟨#[c]⟩) M|none=>False
 |_,_=>False
theorem Ln:qQ X (qH X.K fq):=by
 intro value slice pins s σ H x y v u Q0 I rx ry h hs;obtain⟨a,b,M,Q,ra,rb,hv,hq,hk⟩:=h;cases b with
 |int i=>
  simp only[Rep]at rb;cases a with
  |tup xs=>
   simp only[Rep]at ra;obtain⟨p,vs,rfl,hp,hr⟩:=ra;simp only[fq]at hq;cases e:bz xs i with
   |none=>rw[e]at hq;exact hq.elim
   |some z=>
    rw[e]at hq;obtain⟨w,e1,r1⟩:=hr.bz e;exact UA value slice pins s σ H _ y v u Q0 I rx ry ⟨p,vs,i,w,rfl,rb,hp,e1,hk _ M _ H hq (.refl H) hv r1⟩ hs
  |ls xs=>
   simp only[Rep]at ra;obtain⟨p,vs,rfl,hp,hr⟩:=ra;simp only[fq]at hq;cases e:bz xs i with
   |none=>rw[e]at hq;exact hq.elim
   |some z=>
    rw[e]at hq;obtain⟨w,e1,r1⟩:=hr.bz e;exact DS value slice pins s σ H _ y v u Q0 I rx ry ⟨p,vs,i,w,rfl,rb,hp.sq,e1,hk _ M _ H hq (.refl H) hv r1⟩ hs
  |ref p=>
   simp only[Rep]at ra;simp only[fq]at hq;split at hq
   . rename_i xs em
     obtain⟨ho,e,r⟩:=hv p _ em;obtain⟨vs,rfl,hr⟩:=r;cases e2:bz xs i with
     |none=>rw[e2]at hq;exact hq.elim
     |some z=>
      rw[e2]at hq;obtain⟨w,e1,r1⟩:=hr.bz e2;exact DS value slice pins s σ H x y v u Q0 I rx ry ⟨p,vs,i,w,ra,rb,bM.of e,e1,hk _ M _ H hq (.refl H) hv r1⟩ hs
   . exact hq.elim
  |str z=>
   simp only[Rep]at ra;simp only[fq]at hq;obtain⟨hz,hq⟩:=hq;cases e:bz z.cps.toList i with
   |none=>rw[e]at hq;exact hq.elim
   |some c=>
    rw[e]at hq;exact UB value slice pins s σ H x y v u Q0 I rx ry ⟨z,i,c,ra,rb,hz,e,hk _ M _ H hq (.refl H) hv (by simp only[Rep])⟩ hs
  |_=>exact(show False from hq).elim
 |_=>cases a<;>exact(show False from hq).elim
theorem Xp{a b:Expr}{ta tb:aw}{pos:Pos}(ha:ai X a ta)(hb:ai X b tb)(hs:Eb b:=by intro _ _;rfl):ai X (.Subscript a b pos) (mP fq ta tb):=PE.imp (V7 Ln ha hb hs) λ_ _ _ h=>vN h
noncomputable def pd:wL:=λo i v M Q=>match o,i with
 | .ref p,.int k=>match M p with
  |some (.lst xs)=>match dY xs.length k with|some j=>Q (put M p (.lst (xs.set j v)))|none=>False
  |_=>False
 |_,_=>False
theorem Wc:xp X (Fo X.K pd):=by
 intro pins s σ H o i v ov iv u Q0 I ro ri rv h;obtain⟨a,b,c,M,Q,ra,rb,rc,hv,hq,hk⟩:=h;cases a with
 |ref p=>
  cases b with
  |int k=>
   simp only[Rep]at ra rb;simp only[pd]at hq;split at hq
   . rename_i xs em
     obtain⟨ho,e,r⟩:=hv p _ em;obtain⟨vs,rfl,hr⟩:=r;cases e2:dY xs.length k with
     |none=>rw[e2]at hq;exact hq.elim
     |some j=>
      rw[e2]at hq;have ex:Ext H (upd H p (.lst (vs.set j v))):=Ext.write e rfl;exact set_list pins s σ H o i v ov iv u Q0 I ro ri rv ⟨p,vs,k,j,ra,rb,e,by rw[<-hr.length];exact e2,hk _ _ hq ex (hv.write em ⟨_,rfl,ae.ext ex _ _ (hr.set rc j)⟩)⟩
   . exact hq.elim
  |_=>exact(show False from hq).elim
 |_=>cases b<;>exact(show False from hq).elim
def eE(K:ag)(r:LR->RM->aq->Prop):LV->Hp->VK->Prop:=λvs H Q0=>∃rs M Q,ae K H rs vs/\View K H M/\r rs M Q/\gH K H Q Q0
def k9(r:LR->RM->aq->Prop)(t:bx):aw:=λσ M Q=>t σ M λrs M1=>r rs M1 Q
theorem OO{K:ag}{r:LR->RM->aq->Prop}{t:bx}{σ0:L2.St}{H:Hp}{Q0:VK}(h:up K (k9 r t) σ0 H Q0):Kx (eE K r) (AB K t) σ0 H Q0:=by
 obtain⟨σ,M,Q,hs,hv,ht,hk⟩:=h;exact⟨σ,M,_,hs,hv,ht,λrs M1 vs H1 q e1 v1 r1=>⟨rs,M1,Q,r1,v1,q,hk.ext e1⟩⟩
variable {x:Str}{p pos:Pos}{e:Expr}{es:aT}{t:bx}{id T:String}{r:LR->RM->aq->Prop}
theorem mq(hc:cV X (.builtin id) (eE X.K r))(hm:X.mg x=none)(hv:bootBuiltins x=some (.builtin id))(ha:cw X (e::es) t)(hg:Gl X x:=by rfl)(hn:x≠"__name__":=by decide)(hdb:(x==("__debug__":Str))=false:=by decide)
 (he:starEach (e::es) X.env=(false,eval e X.env)::starEach es X.env:=by rfl) (hpl:(backTo pos (starEach es X.env)).any (·.1)=false:=by rfl):ai X (.Call (.Name x p) (e::es) [] pos) (k9 r t):=
 PE.imp (Q7 hc hg hm hv ha hn hdb he hpl) λ_ _ _ h=>OO h
theorem ae.one{K:ag}{H:Hp}{x:RV}{vs:LV}(h:ae K H [x] vs):∃v,vs= [v]/\Rep K H x v:=by
 simp only[ae]at h;obtain⟨v,r,rfl,h1,rfl⟩:=h;exact⟨v,rfl,h1⟩
theorem ae.two{K:ag}{H:Hp}{x y:RV}{vs:LV}(h:ae K H [x,y] vs):∃v w,vs= [v,w]/\Rep K H x v/\Rep K H y w:=by
 simp only[ae]at h;obtain⟨v,r,rfl,h1,w,r',rfl,h2,rfl⟩:=h;exact⟨v,w,rfl,h1,h2⟩
noncomputable def wV:LR->RM->aq->Prop:=λrs M Q=>match rs with
 | [.tup xs]=>Q (.int xs.length) M
 | [.ls xs]=>Q (.int xs.length) M
 | [.str z]=>z.length<=sizeLine/\Q (.int z.length) M
 | [.ref a]=>match M a with|some (.lst xs)=>Q (.int xs.length) M|_=>False
 |_=>False
theorem JT:cV X (.builtin "len") (eE X.K wV):=by
 intro pins s σ H xs us Q0 I rl h;obtain⟨rs,M,Q,rr,hv,hq,hk⟩:=h;unfold wV at hq;split at hq
 . rename_i ys
   obtain⟨v,rfl,r1⟩:=rr.one;simp only[Rep]at r1;obtain⟨q,vs,rfl,hp,hr⟩:=r1;exact yG pins s σ H _ us Q0 I rl ⟨q,vs,rfl,.inr hp,by rw[<-hr.length];exact hk _ M _ H hq (.refl H) hv (by simp only[Rep])⟩
 . rename_i ys
   obtain⟨v,rfl,r1⟩:=rr.one;simp only[Rep]at r1;obtain⟨q,vs,rfl,hp,hr⟩:=r1;exact yG pins s σ H _ us Q0 I rl ⟨q,vs,rfl,.inl hp.sq,by rw[<-hr.length];exact hk _ M _ H hq (.refl H) hv (by simp only[Rep])⟩
 . rename_i z
   obtain⟨v,rfl,r1⟩:=rr.one;simp only[Rep]at r1;subst r1;exact N0 pins s σ H _ us Q0 I rl ⟨z,rfl,hq.1,hk _ M _ H hq.2 (.refl H) hv (by simp only[Rep])⟩
 . rename_i a
   obtain⟨v,rfl,r1⟩:=rr.one;simp only[Rep]at r1;subst r1;split at hq
   . rename_i ys em
     obtain⟨ho,e,r⟩:=hv a _ em;obtain⟨vs,rfl,hr⟩:=r;exact yG pins s σ H _ us Q0 I rl ⟨a,vs,rfl,.inl (bM.of e),by rw[<-hr.length];exact hk _ M _ H hq (.refl H) hv (by simp only[Rep])⟩
   . exact hq.elim
 . exact hq.elim
end
open HT
section
variable {prog:Program}{w:World}{A:Around}{E:aP}{s:Shared}
theorem Nx{t sl:Addr}{items:Array Value}{vl vu:Value}{lo hi:Option Int}{Q:aP}(ht:IsTup s.heap t items)(hs:s.heap.IsSliceOf sl vl vu .none)(pl:IsPart vl lo)(pu:IsPart vu hi)
 (h0:aY items.size 0 lo=0) (h1:aY items.size items.size hi=items.size)
 (h:Q (.ref t) s):wpAny (model prog w) A (getItem (.ref t) (.ref sl)) Q E s:=by
 obtain⟨os,hos,hcs,hds⟩:=id hs;have hTs:s.TypeIs (.ref sl) "slice":=⟨os,hos,hcs⟩;unfold getItem
 try with_reducible refine jh ?_
 first|refine ak (aR ?_)|skip
 refine ak (wpAny_sequenceKey ht.typeIs ⋯ ?_)
 refine ak (wpAny_callSpecial?_slot (name:=Str.ofString "__getitem__") ht.typeIs xE
  (jl xE ht.typeIs entry_tuple_getitem ?_ (args_tuple_getitem _ _)))
 show wpAny _ _ (Builtin.Tuple.tupleItemsOf (.ref t) >>= _) _ _ s;refine ak (tupleItemsOf_ ht ?_);refine ak (wpAny_typeOf hTs ?_);rw[az ⋯]
 refine ak (Cb hs pl pu ?_);have hyes:(((aY items.size 0 lo:Nat):Int)==0&&(1:Int)==1&&(aY items.size items.size hi-aY items.size 0 lo)==items.size)=true:=by
  rw[h0,h1];simp
 show wpAny _ _ (if(((aY items.size 0 lo:Nat):Int)==0&&(1:Int)==1&&(aY items.size items.size hi-aY items.size 0 lo)==items.size)=true then _ else _) _ _ s
 rw[az hyes];show wpAny _ _ (Builtin.Tuple.tupleIsExact (.ref t) >>= _) _ _ s;unfold Builtin.Tuple.tupleIsExact;refine ak (ak (wpAny_typeOf ht.typeIs (aR ?_)));rw[az ⋯]
 refine ak (wpAny_rule ?_);refine ak (aR ?_);exact aR ⟨_,rfl,aR h⟩
end
section
variable {X:Cx}
abbrev nh:=bq->RM->(Option Int->RM->Prop)->Prop
def XM(K:ag)(t:nh):TO:=λσ0 H Q0=>∃σ M Q,aQ K H σ σ0/\View K H M/\t σ M Q/\∀o M' H',Q o M'->Ext H H'->View K H' M'->Q0 o H'
def pR(X:Cx)(e:Option Expr)(t:nh):Prop:=PO X e (XM X.K t)
def Ki:nh:=λ_ M Q=>Q none M
def Ft(t:aw):nh:=λσ M Q=>t σ M λx M1=>match x with| .int i=>Q (some i) M1|_=>False
theorem PO.imp{e:Option Expr}{t t':TO}(h:PO X e t)(i:∀σ H Q,t' σ H Q->t σ H Q):PO X e t':=λpins s σ H Q I w=>h pins s σ H Q I (i σ H Q w)
theorem V3:pR X none Ki:=PO.imp Ru λσ0 H Q0 h=>by
 obtain⟨σ,M,Q,hs,hv,ht,hk⟩:=h;exact hk none M H ht (.refl H) hv
theorem WC{e:Expr}{te:aw}(h:ai X e te):pR X (some e) (Ft te):=PO.imp (Rr h) λσ0 H Q0 h=>by
 obtain⟨σ,M,Q,hs,hv,ht,hk⟩:=h;refine⟨σ,M,_,hs,hv,ht,λrx M1 x H1 q e1 v1 r1=>?_⟩
 cases rx with
 |int i=>simp only[Rep]at r1;exact⟨i,r1,hk _ M1 H1 q e1 v1⟩
 |_=>exact(show False from q).elim
noncomputable def fK (xs:LR)(lo hi:Option Int):LR:=(xs.drop (aY xs.length 0 lo)).take (aY xs.length xs.length hi-aY xs.length 0 lo)
theorem Dl{K:ag}{H:Hp}{xs:LR}{vs:LV}(r:ae K H xs vs)(lo hi:Option Int):ae K H (fK xs lo hi) (mK vs lo hi):=by
 unfold fK mK;rw[r.length];exact(r.drop _).take _
noncomputable def Mx:RV->Option Int->Option Int->RM->aq->Prop:=λx lo hi M Q=>match x with
 | .str z=>z.length<=sizeLine/\Q (.str (Txt.slice z lo hi)) M
 |_=>False
noncomputable def KC (K:ag)(r:RV->Option Int->Option Int->RM->aq->Prop):V->Option Int->Option Int->Hp->VK->Prop:=λx lo hi H Q0=>∃rx M Q,Rep K H rx x/\View K H M/\r rx lo hi M Q/\gH K H Q Q0
theorem D3{v:Value}{o:Option Int}(h:IsPart v o):∃l:Option (Int×Tok),v=partValue l/\o=l.map (·.1):=by
 cases h with
 |none=>exact⟨none,rfl,rfl⟩
 |int i t=>exact⟨some (i,t),rfl,rfl⟩
theorem Wb:qU X (KC X.K Mx):=by
 intro pins s σ H x v vl vu lo hi sl Q0 I rx hs pl pu h;obtain⟨a,M,Q,ra,hv,hq,hk⟩:=h;cases a with
 |str z=>
  obtain⟨hz,hq⟩:=hq;simp only[Rep]at ra;subst ra;obtain⟨t,rfl⟩:=rx;obtain⟨l,rfl,rfl⟩:=D3 pl;obtain⟨u,rfl,rfl⟩:=D3 pu;refine⟨"str",_,F.slot_str_getitem.lookup,typeIs_str _ _ _,?_⟩;refine wpAny_getItem_str_slice (l:=l) (u:=u) (st:=none) ?_ rfl ?_
  . exact hs
  . refine post_val_or_str ⟨c6 (Txt.slice_le z _ _) hz,λt' k=>?_⟩
    exact⟨.str _,H,I.tok k,⟨t',rfl⟩,hk _ M _ H hq (.refl H) hv (by simp only[Rep];rfl)⟩
 |_=>exact(show False from hq).elim
noncomputable def mH:RV->Option Int->Option Int->RM->aq->Prop:=λx lo hi M Q=>match x with
 | .tup xs=>Q (.tup (fK xs lo hi)) M
 | .ls xs=>Q (.ls (fK xs lo hi)) M
 | .ref a=>match M a with|some (.lst xs)=>Q (.ls (fK xs lo hi)) M|_=>False
 | .str z=>z.length<=sizeLine/\Q (.str (Txt.slice z lo hi)) M
 |_=>False
theorem Ma:qU X (KC X.K mH):=by
 intro pins s σ H x v vl vu lo hi sl Q0 I rx hs pl pu h;obtain⟨a,M,Q,ra,hv,hq,hk⟩:=h;have lstcase:∀(p:Addr) (xs:LR) (vs:LV),x= .ref p->bM X.K H p vs->ae X.K H xs vs->Q (.ls (fK xs lo hi)) M->
  ∃T id,typeLookup (.type T) "__getitem__" =pure (some (.builtin id))/\s.TypeIs v T/\wpAny (model X.prog X.w) X.A (getItem v (.ref sl)) (EP X pins σ Q0) X.xe s:=by
  intro p xs vs ex hp hr hq;obtain⟨T,id,h1,h2,h3⟩:=Rz pins s σ H x v vl vu lo hi sl (λv H'=>∃H1 p xs,v= .ref p/\H1 p=none/\H'=upd H1 p (.lst xs)/\∀o,Q0 (.ref p) (upd H1 p (.aZ o (.lst xs)))) I rx hs pl pu
   ⟨p,vs,ex,hp,λq hq'=>⟨H,q,_,rfl,hq',rfl,λo=>hk _ M _ _ hq (Ext.new hq') (hv.new hq') (oY hq' (Dl hr lo hi))⟩⟩
  exact⟨T,id,h1,h2,aB h3 λ_ _ e=>frozen e⟩
 cases a with
 |tup xs=>
  simp only[mH]at hq;simp only[Rep]at ra;obtain⟨p,vs,rfl,hp,hr⟩:=ra
  by_cases hw:aY vs.length 0 lo=0/\aY vs.length vs.length hi=vs.length
  . cases rx
    obtain⟨its,r,ht,hz⟩:=I.tuple (bI.of hp);have hlen:its.toArray.size=vs.length:=by rw[dW];exact r.length.symm
    refine⟨"tuple",_,PyProof.Rows.slot_tuple_getitem.lookup,ht.typeIs,?_⟩;refine Nx ht hs pl pu (by rw[hlen];exact hw.1) (by rw[hlen];exact hw.2) ⟨.ref p,H,I,rfl,?_⟩
    have e:fK xs lo hi=xs:=by
     unfold fK;rw[hr.length,hw.1,hw.2,List.drop_zero,Nat.sub_zero,<-hr.length,List.take_length]
    rw[e]at hq;exact hk _ M _ H hq (.refl H) hv (by simp only[Rep];exact⟨p,vs,rfl,hp,hr⟩)
  . exact TV pins s σ H _ v vl vu lo hi sl Q0 I rx hs pl pu ⟨p,vs,rfl,hp,hw,λq hq'=>hk _ M _ _ hq (Ext.new hq') (hv.new hq') (sE hq' (Dl hr lo hi))⟩
 |ls xs=>
  simp only[mH]at hq;simp only[Rep]at ra;obtain⟨p,vs,rfl,hp,hr⟩:=ra;exact lstcase p xs vs rfl hp.sq hr hq
 |str z=>exact Wb pins s σ H x v vl vu lo hi sl Q0 I rx hs pl pu ⟨.str z,M,Q,ra,hv,hq,hk⟩
 |ref p=>
  simp only[mH]at hq;simp only[Rep]at ra;split at hq
  . rename_i xs em
    obtain⟨ho,e,r⟩:=hv p _ em;obtain⟨vs,rfl,hr⟩:=r;exact lstcase p xs vs ra (bM.of e) hr hq
  . exact hq.elim
 |_=>exact(show False from hq).elim
def Kr(te:aw)(tl th:nh):aw:=λσ M Q=>te σ M λx M1=>tl σ M1 λl M2=>th σ M2 λu M3=>mH x l u M3 Q
theorem Xr{e:Expr}{te:aw}{lo hi:Option Expr}{tl th:nh}{pos p2:Pos}(he:ai X e te)(hl:pR X lo tl)(hu:pR X hi th):ai X (.Subscript e (.Slice lo hi none p2) pos) (Kr te tl th):=PE.imp (QX Ma he hl hu) λσ0 H Q0 h=>by
 obtain⟨σ,M,Q,hs,hv,ht,hk⟩:=h;refine⟨σ,M,_,hs,hv,ht,λrx M1 x H1 q e1 v1 r1=>?_⟩
 refine⟨σ,M1,_,hs.ext e1,v1,q,λl M2 H2 q2 e2 v2=>?_⟩
 refine⟨σ,M2,_,hs.ext (e1.trans e2),v2,q2,λu M3 H3 q3 e3 v3=>?_⟩
 exact⟨rx,M3,Q,Rep.ext (e2.trans e3) rx x r1,v3,q3,hk.ext ((e1.trans e2).trans e3)⟩
theorem Oc(K:ag):PySem.W.kitOne K (.type "NoneType") (.type "int")=some false:=by kernel_rfl
theorem O6(K:ag):PySem.W.kitOne K (.type "bool") (.type "int")=some true:=by kernel_rfl
theorem Og(K:ag):PySem.W.kitOne K (.type "int") (.type "int")=some true:=by kernel_rfl
theorem Oa(K:ag):PySem.W.kitOne K (.type "str") (.type "int")=some false:=by kernel_rfl
theorem N8(K:ag):PySem.W.kitOne K (.type "tuple") (.type "int")=some false:=by kernel_rfl
theorem O4(K:ag):PySem.W.kitOne K (.type "list") (.type "int")=some false:=by kernel_rfl
noncomputable def EO:RV->Option Bool
 | .au=>some false
 | .bl _=>some true
 | .int _=>some true
 | .str _=>some false
 | .tup _=>some false
 | .ls _=>some false
 |_=>none
theorem NU(K:ag):PySem.W.kitOne K (.type "NoneType") (.type "bool")=some false:=by kernel_rfl
theorem Oi(K:ag):PySem.W.kitOne K (.type "bool") (.type "bool")=some true:=by kernel_rfl
theorem NX(K:ag):PySem.W.kitOne K (.type "int") (.type "bool")=some false:=by kernel_rfl
theorem N6(K:ag):PySem.W.kitOne K (.type "str") (.type "bool")=some false:=by kernel_rfl
theorem N4(K:ag):PySem.W.kitOne K (.type "tuple") (.type "bool")=some false:=by kernel_rfl
theorem Od(K:ag):PySem.W.kitOne K (.type "list") (.type "bool")=some false:=by kernel_rfl
noncomputable def is_bool:RV->Option Bool
 | .au=>some false
 | .bl _=>some true
 | .int _=>some false
 | .str _=>some false
 | .tup _=>some false
 | .ls _=>some false
 |_=>none
theorem Ob(K:ag):PySem.W.kitOne K (.type "NoneType") (.type "str")=some false:=by kernel_rfl
theorem O5(K:ag):PySem.W.kitOne K (.type "bool") (.type "str")=some false:=by kernel_rfl
theorem Oe(K:ag):PySem.W.kitOne K (.type "int") (.type "str")=some false:=by kernel_rfl
theorem N9(K:ag):PySem.W.kitOne K (.type "str") (.type "str")=some true:=by kernel_rfl
theorem N7(K:ag):PySem.W.kitOne K (.type "tuple") (.type "str")=some false:=by kernel_rfl
theorem O3(K:ag):PySem.W.kitOne K (.type "list") (.type "str")=some false:=by kernel_rfl
noncomputable def EN:RV->Option Bool
 | .au=>some false
 | .bl _=>some false
 | .int _=>some false
 | .str _=>some true
 | .tup _=>some false
 | .ls _=>some false
 |_=>none
theorem NQ(K:ag):PySem.W.kitOne K (.type "NoneType") (.type "tuple")=some false:=by kernel_rfl
theorem NY(K:ag):PySem.W.kitOne K (.type "bool") (.type "tuple")=some false:=by kernel_rfl
theorem NR(K:ag):PySem.W.kitOne K (.type "int") (.type "tuple")=some false:=by kernel_rfl
theorem NP(K:ag):PySem.W.kitOne K (.type "str") (.type "tuple")=some false:=by kernel_rfl
theorem NO(K:ag):PySem.W.kitOne K (.type "tuple") (.type "tuple")=some true:=by kernel_rfl
theorem NV(K:ag):PySem.W.kitOne K (.type "list") (.type "tuple")=some false:=by kernel_rfl
noncomputable def DA:RV->Option Bool
 | .au=>some false
 | .bl _=>some false
 | .int _=>some false
 | .str _=>some false
 | .tup _=>some true
 | .ls _=>some false
 |_=>none
theorem NT(K:ag):PySem.W.kitOne K (.type "NoneType") (.type "list")=some false:=by kernel_rfl
theorem Oh(K:ag):PySem.W.kitOne K (.type "bool") (.type "list")=some false:=by kernel_rfl
theorem NW(K:ag):PySem.W.kitOne K (.type "int") (.type "list")=some false:=by kernel_rfl
theorem N5(K:ag):PySem.W.kitOne K (.type "str") (.type "list")=some false:=by kernel_rfl
theorem N3(K:ag):PySem.W.kitOne K (.type "tuple") (.type "list")=some false:=by kernel_rfl
theorem Cj(K:ag):PySem.W.kitOne K (.type "list") (.type "list")=some true:=by kernel_rfl
noncomputable def DU:RV->Option Bool
 | .au=>some false
 | .bl _=>some false
 | .int _=>some false
 | .str _=>some false
 | .tup _=>some false
 | .ls _=>some true
 |_=>none
noncomputable def XG:RV->Option String
 | .au=>some "NoneType"
 | .bl _=>some "bool"
 | .int _=>some "int"
 | .str _=>some "str"
 | .tup _=>some "tuple"
 | .ls _=>some "list"
 |_=>none
noncomputable def pq (T:String)(test:RV->Option Bool):LR->RM->aq->Prop:=λrs M Q=>match rs with
 | [x,.ty T']=>T'=T/\(match test x with|some b=>Q (.bl b) M|none=>False)
 |_=>False
theorem tQ{T:String}{test:RV->Option Bool}(ht:∀a b,test a=some b->∃n,XG a=some n/\PySem.W.kitOne X.K (.type n) (.type T)=some b):cV X (.builtin "isinstance") (eE X.K (pq T test)):=by
 intro pins s σ H xs us Q0 I rl h;obtain⟨rs,M,Q,rr,hv,hq,hk⟩:=h;unfold pq at hq;split at hq
 . rename_i a T'
   obtain⟨rfl,hq⟩:=hq;obtain⟨v,w,rfl,r1,r2⟩:=rr.two;obtain⟨u,u',rfl,w1,w2⟩:=vals2 rl;simp only[Rep]at r2;subst r2;obtain rfl:u'=Value.type T':=w2;cases e:test a with
   |none=>rw[e]at hq;exact hq.elim
   |some b=>
    rw[e]at hq;obtain⟨n,en,ek⟩:=ht a b e;have fin:∀tk,EP X pins σ Q0 (.bool b) { s with toks:=tk }:=λtk=>⟨.bl b,H,I.tok tk,rfl,hk _ M _ H hq (.refl H) hv (by simp only[Rep])⟩
    cases a with
    |au=>cases en;simp only[Rep]at r1;subst r1;cases(show u=Value.none from w1);exact lE PySem.W.kitx_none I.bW True.intro ek (λz=>nomatch z) fin
    |bl y=>cases en;simp only[Rep]at r1;subst r1;cases(show u=Value.bool y from w1);exact lE PySem.W.kitx_bool I.bW True.intro ek (λz=>nomatch z) fin
    |int y=>cases en;simp only[Rep]at r1;subst r1;obtain⟨t,q⟩:=(show ∃t,u=Value.int y t from w1);cases q;exact lE PySem.W.kitx_int I.bW True.intro ek (λz=>nomatch z) fin
    |str y=>cases en;simp only[Rep]at r1;subst r1;obtain⟨t,q⟩:=(show ∃t,u=Value.str y t from w1);cases q;exact lE PySem.W.kitx_str I.bW True.intro ek (λz=>nomatch z) fin
    |tup ys=>
     cases en;simp only[Rep]at r1;obtain⟨p,vs,rfl,hp,hr⟩:=r1;cases(show u=Value.ref p from w1)
     obtain⟨its,_,pt,_⟩:=I.tuple (bI.of hp);obtain⟨o,h1,h2,_⟩:=pt;exact lE PySem.W.kitx_tuple I.bW ⟨o,h1,h2⟩ ek (λz=>nomatch z) fin
    |ls ys=>
     cases en;simp only[Rep]at r1;obtain⟨p,vs,rfl,hp,hr⟩:=r1;cases(show u=Value.ref p from w1)
     obtain⟨its,_,pt,_⟩:=I.list hp.sq;obtain⟨o,h1,h2,_⟩:=pt.isList;exact lE PySem.W.kitx_list I.bW ⟨o,h1,h2⟩ ek (λz=>nomatch z) fin
    |_=>cases en
 . exact hq.elim
theorem Rg:cV X (.builtin "isinstance") (eE X.K (pq "int" EO)):=tQ λa b e=>by
 cases a with
 |au=>cases e;exact⟨_,rfl,Oc X.K⟩
 |bl _=>cases e;exact⟨_,rfl,O6 X.K⟩
 |int _=>cases e;exact⟨_,rfl,Og X.K⟩
 |str _=>cases e;exact⟨_,rfl,Oa X.K⟩
 |tup _=>cases e;exact⟨_,rfl,N8 X.K⟩
 |ls _=>cases e;exact⟨_,rfl,O4 X.K⟩
 |_=>cases e
theorem Qe:cV X (.builtin "isinstance") (eE X.K (pq "bool" is_bool)):=tQ λa b e=>by
 cases a with
 |au=>cases e;exact⟨_,rfl,NU X.K⟩
 |bl _=>cases e;exact⟨_,rfl,Oi X.K⟩
 |int _=>cases e;exact⟨_,rfl,NX X.K⟩
 |str _=>cases e;exact⟨_,rfl,N6 X.K⟩
 |tup _=>cases e;exact⟨_,rfl,N4 X.K⟩
 |ls _=>cases e;exact⟨_,rfl,Od X.K⟩
 |_=>cases e
theorem Rf:cV X (.builtin "isinstance") (eE X.K (pq "str" EN)):=tQ λa b e=>by
 cases a with
 |au=>cases e;exact⟨_,rfl,Ob X.K⟩
 |bl _=>cases e;exact⟨_,rfl,O5 X.K⟩
 |int _=>cases e;exact⟨_,rfl,Oe X.K⟩
 |str _=>cases e;exact⟨_,rfl,N9 X.K⟩
 |tup _=>cases e;exact⟨_,rfl,N7 X.K⟩
 |ls _=>cases e;exact⟨_,rfl,O3 X.K⟩
 |_=>cases e
theorem Pd:cV X (.builtin "isinstance") (eE X.K (pq "tuple" DA)):=tQ λa b e=>by
 cases a with
 |au=>cases e;exact⟨_,rfl,NQ X.K⟩
 |bl _=>cases e;exact⟨_,rfl,NY X.K⟩
 |int _=>cases e;exact⟨_,rfl,NR X.K⟩
 |str _=>cases e;exact⟨_,rfl,NP X.K⟩
 |tup _=>cases e;exact⟨_,rfl,NO X.K⟩
 |ls _=>cases e;exact⟨_,rfl,NV X.K⟩
 |_=>cases e
theorem Qd:cV X (.builtin "isinstance") (eE X.K (pq "list" DU)):=tQ λa b e=>by
 cases a with
 |au=>cases e;exact⟨_,rfl,NT X.K⟩
 |bl _=>cases e;exact⟨_,rfl,Oh X.K⟩
 |int _=>cases e;exact⟨_,rfl,NW X.K⟩
 |str _=>cases e;exact⟨_,rfl,N5 X.K⟩
 |tup _=>cases e;exact⟨_,rfl,N3 X.K⟩
 |ls _=>cases e;exact⟨_,rfl,Cj X.K⟩
 |_=>cases e
abbrev bE:=LR->RM->aq->Prop
def eV(K:ag)(sp:bE):Sp:=λvs H Q0 _=>∃rs M Q,ae K H rs vs/\View K H M/\sp rs M Q/\gH K H Q Q0
end
structure xU(P:Program)(w:World)(K:ag)(mg:aU)(base:Heap)(k:Nat)(x:Str)(ps:ay)(sp:bE):Prop where
 ex:∃(f:Addr) (fd:FuncData),mg x=some (.ref f)/\PySem.W.keepIn K (.ref f)=true/\Binds K fd ps []/\bQ P w K mg base eG k f fd ps (eV K sp)
section
variable {X:Cx}{x:Str}{p pos:Pos}{e:Expr}{es:aT}{t:bx}{k:Nat}{ps:ay}{sp:bE}
theorem Uh(F:xU X.prog X.w X.K X.mg X.base k x ps sp)(hr:aI k X.A)(ha:cw X (e::es) t)(hg:Gl X x:=by rfl)(hdb:(x==("__debug__":Str))=false:=by decide)
 (he:starEach (e::es) X.env=(false,eval e X.env)::starEach es X.env:=by rfl) (hpl:(backTo pos (starEach es X.env)).any (·.1)=false:=by rfl):ai X (.Call (.Name x p) (e::es) [] pos) (k9 sp t):=by
 obtain⟨f,fd,hm,hk,hb,F⟩:=F.ex;refine PE.imp (Sr F hr hg hm hk hb .nil ph ha hdb he hpl) λσ0 H Q0 h=>?_
 obtain⟨σ,M,Q,hs,hv,ht,hk⟩:=h;exact⟨σ,M,_,hs,hv,ht,λrs M1 vs H1 q e1 v1 r1=>⟨rs,M1,Q,by rw[jm];exact r1,v1,q,hk.ext e1⟩⟩
theorem RQ(F:xU X.prog X.w X.K X.mg X.base k x ps sp)(hr:aI k X.A)(hg:Gl X x:=by rfl)(hdb:(x==("__debug__":Str))=false:=by decide):ai X (.Call (.Name x p) [] [] pos) (k9 sp jA):=by
 obtain⟨f,fd,hm,hk,hb,F⟩:=F.ex;refine PE.imp (Q8 F hr hg hm hk hb .nil ph hdb) λσ0 H Q0 h=>?_
 obtain⟨σ,M,Q,hs,hv,ht,hk⟩:=h;exact⟨[],M,Q,ae.nil,hv,ht,hk⟩
noncomputable def fQ (N:ay)(rs:LR):bq:=rs.map some++List.replicate (N.length-rs.length) none
theorem CF{K:ag}{H:Hp}{N:ay}{rs:LR}{vs:LV}(r:ae K H rs vs):aQ K H (fQ N rs) (L2.start N vs):=by
 unfold fQ L2.start;refine⟨by simp[r.length],λi z e=>?_⟩
 have hi:i<rs.length:=by
  by_cases hi:i<rs.length
  . exact hi
  . rw[List.getElem?_append_right (by simpa using hi),List.getElem?_replicate]at e
    split at e<;>cases e
 rw[pN (by simpa using hi),fy]at e
 cases q:rs[i]? with
 |none=>rw[q]at e;cases e
 |some y=>
  rw[q]at e;cases e;obtain⟨v,e1,r1⟩:=r.get q;exact⟨v,by rw[pN (by rw[cb,<-r.length];exact hi),fy,e1];rfl,r1⟩
noncomputable def nums (n:Nat):LR:=(List.range n).map λ(i:Nat)=>RV.int (i:Int)
theorem Du(n:Nat):(nums n).length=n:=by simp[nums]
end
def dJ(H0 H H':Hp):Prop:=H'=H∨∃d o u,H d=some (.aZ o u)/\jB u=true/\(∀o' u',H0 d≠some (.aZ o' u'))/\H'=upd H d u
theorem dJ.inv{X:Cx}{pins:aF}{σ:L2.St}{H H':Hp}{s:Shared}(t:dJ X.H₀ H H')(I:Inv X pins σ H s):Inv X pins σ H' s:=by
 rcases t with rfl|⟨p,ob,u,h,du,h0,rfl⟩
 . exact I
 have np:∀b,H b=none->b≠p:=λb q w=>by subst w;rw[h]at q;cases q
 refine⟨I.ok,I.os,I.bare,⟨I.base.keep,I.base.slot,λb o q w x=>?_,I.base.there,λb xs' q=>?_,λb o u q=>?_,λb ps q=>?_⟩,I.loc,I.cell,?_,λx c q=>?_,λq hq=>?_,λb v q=>?_,I.len⟩
 . have:=I.base.free b o q w x
   rw[aK (np b this)];exact this
 . have e1:=I.base.aV b xs' q
   rw[aK (i0 e1 h (by intro z;cases z))];exact e1
 . have e1:=I.base.aE b o u q
   rw[aK (by rintro rfl;exact h0 _ _ q)];exact e1
 . obtain⟨more,e1⟩:=I.base.bR b ps q
   exact⟨more,by rw[aK (i0 e1 h (by intro z;cases z))];exact e1⟩
 . rw[aK (np _ I.free)];exact I.free
 . have:=I.bo x c q
   rw[aK (np _ this)];exact this
 . obtain⟨a1,a2,a3⟩:=I.pin q hq
   exact⟨a1,by rw[aK (np _ a2)];exact a2,a3⟩
 . have st:∀c v,aH X.prog X.w H s.heap c v->aH X.prog X.w (upd H p u) s.heap c v:=λc v z=>z.cY (λ_ _ _ q=>q) (λc q=>by rw[aK (i0 q h (by intro z;cases z))];exact q) λc ys q=>by rw[aK (i0 q h (by intro z;cases z))];exact q
   by_cases hb:b=p
   . subst hb
     rw[d6]at q;cases q;exact st _ _ (I.ar b _ h).2
   . rw[aK hb]at q
     exact st _ _ (I.ar b v q)
theorem y7{X:Cx}{pins:aF}{σ:L2.St}{H:Hp}{s:Shared}{p:Addr}{u:HO}(I:Inv X pins σ H s)(h:H p=some u)(du:jB u=true):∃o,s.heap.get? p=some o/\Inv X pins σ (upd H p (.aZ o u)) s/\∀o' u',X.H₀ p≠some (.aZ o' u'):=by
 have hz:=I.ar p u h;obtain⟨ob,e⟩:∃o,s.heap.get? p=some o:=by
  cases u<;>first|(cases du;done)|skip
  . obtain⟨_,_,_,_,o,_,_,e,_⟩:=hz;exact⟨o,e⟩
  . obtain⟨_,_,_,_,o,_,_,e,_⟩:=hz;exact⟨o,e⟩
 have nf:∀o' u',H p≠some (.aZ o' u'):=λo' u' z=>by rw[h]at z;cases z;cases du
 have np:∀b,H b=none->b≠p:=λb q w=>by subst w;rw[h]at q;cases q
 have nt:∀c xs,H c=some (.tup xs)->c≠p:=λc xs q w=>by subst w;rw[h]at q;cases q;cases du
 have no:∀c y,H c=some (.own y)->c≠p:=λc y q w=>by subst w;rw[h]at q;cases q;cases du
 refine⟨ob,e,⟨I.ok,I.os,I.bare,⟨I.base.keep,I.base.slot,λb o q w x=>?_,I.base.there,λb xs' q=>?_,λb o u q=>?_,λb ps q=>?_⟩,I.loc,I.cell,?_,λx c q=>?_,λq hq=>?_,λb v q=>?_,I.len⟩,λo' u' z=>nf o' u' (I.base.aE _ _ _ z)⟩
 . have:=I.base.free b o q w x
   rw[aK (np b this)];exact this
 . have e1:=I.base.aV b xs' q
   rw[aK (nt _ _ e1)];exact e1
 . have e1:=I.base.aE b o u q
   rw[aK (by rintro rfl;exact nf _ _ e1)];exact e1
 . obtain⟨more,e1⟩:=I.base.bR b ps q
   exact⟨more,by rw[aK (by rintro rfl;rw[h]at e1;cases e1;cases du)];exact e1⟩
 . rw[aK (np _ I.free)];exact I.free
 . have:=I.bo x c q
   rw[aK (np _ this)];exact this
 . obtain⟨a1,a2,a3⟩:=I.pin q hq
   exact⟨a1,by rw[aK (np _ a2)];exact a2,a3⟩
 . have st:∀c v,aH X.prog X.w H s.heap c v->aH X.prog X.w (upd H p (.aZ ob u)) s.heap c v:=λc v z=>z.cY (λ_ _ _ q=>q) (λc q=>by rw[aK (no _ _ q)];exact q) λc ys q=>by rw[aK (nt _ _ q)];exact q
   by_cases hb:b=p
   . subst hb
     rw[d6]at q;cases q;exact⟨e,st _ _ hz⟩
   . rw[aK hb]at q
     exact st _ _ (I.ar b v q)
structure fW(H0 Hs:Hp)(K:ag)(J:It)(xs:LR)(ok:RM->Prop)(un:RM->RM)(H1:Hp):Prop where
 turn:∀i H M,Ext H1 H->View K H M->ok M->∀x,xs[i]? =some x->J.go i H/\∀v H',J.AH i H v H'->Ext H H'/\(∀M,View K H M->View K H' M)/\Rep K H' x v
 stop:∀i H M,Ext H1 H->View K H M->ok M->xs.length<=i->J.stop i H
 bH:∀H M,Ext H1 H->View K H M->ok M->∃H',dJ H0 H H'/\bj H H'/\Ext Hs H'/\View K H' (un M)
abbrev fP:=bq->RM->(LR->(RM->Prop)->(RM->RM)->RM->Prop)->Prop
abbrev cu:RM->Prop:=λ_=>True
noncomputable def XJ (H0:Hp)(K:ag)(ti:fP):TI:=λσ0 H R=>∃σ M Q,aQ K H σ σ0/\View K H M/\ti σ M Q/\∀xs ok un M' J H',Q xs ok un M'->Ext H H'->View K H' M'->fW H0 H K J xs ok un H'->R J H'
def gG(X:Cx)(tg iter:Expr)(ti:fP):Prop:=PI X tg iter (XJ X.H₀ X.K ti)
section
variable {X:Cx}{tg:Expr}
noncomputable def JB (te:aw):fP:=λσ M Q=>te σ M λv M1=>match v with
 | .tup xs=>Q xs cu id M1
 | .ls xs=>Q xs cu id M1
 | .ref a=>match M1 a with
  |some (.lst xs)=>Q xs (λM=>M a=some (.lst xs)) id M1
  |_=>False
 |_=>False
theorem jt{H0 Hs:Hp}{K:ag}{H1:Hp}{ok:RM->Prop}(es:Ext Hs H1):∀H M,Ext H1 H->View K H M->ok M->∃H',dJ H0 H H'/\bj H H'/\Ext Hs H'/\View K H' (id M):=λH M e v _=>⟨H,.inl rfl,(Ext.refl H).w,es.trans e,v⟩
theorem UG{H0 Hs:Hp}{K:ag}{H1:Hp}{a:Addr}{rs:LR}{vs:LV}(h:Fz K H1 a vs)(r:ae K H1 rs vs)(es:Ext Hs H1):fW H0 Hs K (uc K a) rs cu id H1 where
 turn:=λi H M e _ _ x hx=>by
  obtain⟨v,e1,r1⟩:=r.get hx;refine⟨⟨vs,v,(h.ext e).sq,e1⟩,λv' H' y=>?_⟩
  obtain⟨rfl,y⟩:=y;have:=y vs (h.ext e).sq;rw[e1]at this;cases this;exact⟨.refl _,λ_ w=>w,Rep.ext e x v r1⟩
 stop:=λi H M e _ _ hi=>⟨vs,(h.ext e).sq,by rw[<-r.length];exact hi⟩
 bH:=jt es
theorem UC{H0 Hs:Hp}{K:ag}{H1:Hp}{a:Addr}{rs:LR}{vs:LV}(h:bI K H1 a vs)(r:ae K H1 rs vs)(es:Ext Hs H1):fW H0 Hs K (AL K a) rs cu id H1 where
 turn:=λi H M e _ _ x hx=>by
  obtain⟨v,e1,r1⟩:=r.get hx;refine⟨⟨vs,v,bI.ext e h,e1⟩,λv' H' y=>?_⟩
  obtain⟨rfl,y⟩:=y;have:=y vs (bI.ext e h);rw[e1]at this;cases this;exact⟨.refl _,λ_ w=>w,Rep.ext e x v r1⟩
 stop:=λi H M e _ _ hi=>⟨vs,bI.ext e h,by rw[<-r.length];exact hi⟩
 bH:=jt es
theorem UD{H0 Hs:Hp}{K:ag}{H1:Hp}(n:Nat)(es:Ext Hs H1):fW H0 Hs K (pQ 0 n) (nums n) cu id H1 where
 turn:=λi H M e _ _ x hx=>by
  have hi:i<n:=by have:=(hU.mp hx).1;rw[Du]at this;exact this
  have hx':x= .int (i:Int):=by simp[nums,hi]at hx;exact hx.symm
  subst hx';refine⟨hi,λv' H' y=>?_⟩
  obtain⟨rfl,rfl⟩:=y;exact⟨.refl _,λ_ w=>w,by simp only[Rep];simp⟩
 stop:=λi H M e _ _ hi=>by rw[Du]at hi;exact hi
 bH:=jt es
theorem UE{H0 Hs:Hp}{K:ag}{H1:Hp}{a:Addr}{rs:LR}(es:Ext Hs H1):fW H0 Hs K (uc K a) rs (λM=>M a=some (.lst rs)) id H1 where
 turn:=λi H M e hv hm x hx=>by
  obtain⟨ho,eh,vs,rfl,r⟩:=hv a _ hm;obtain⟨v,e1,r1⟩:=r.get hx;refine⟨⟨vs,v,bM.of eh,e1⟩,λv' H' y=>?_⟩
  obtain⟨rfl,y⟩:=y;have:=y vs (bM.of eh);rw[e1]at this;cases this;exact⟨.refl _,λ_ w=>w,r1⟩
 stop:=λi H M e hv hm hi=>by
  obtain⟨ho,eh,vs,rfl,r⟩:=hv a _ hm;exact⟨vs,bM.of eh,by rw[<-r.length];exact hi⟩
 bH:=jt es
theorem Nk{l:Expr}{te:aw}(hl:ai X l te):gG X tg l (JB te):=by
 intro pins s σ0 H R I h;obtain⟨σ,M,Q,hs,hv,ht,hk⟩:=h;refine aB (hl pins s σ0 H (λx H1=>(∃a vs rs ok M1,x= .ref a/\bM X.K H1 a vs/\fW X.H₀ H X.K (uc X.K a) rs ok id H1/\Q rs ok id M1/\Ext H H1/\View X.K H1 M1)∨∃a vs rs M1,x= .ref a/\bI X.K H1 a vs/\ae X.K H1 rs vs/\Q rs cu id M1/\Ext H H1/\View X.K H1 M1) I ⟨σ,M,_,hs,hv,ht,λrv M1 v H1 q e1 v1 r1=>?_⟩) λu s1 ⟨v,H1,I1,r1,q1⟩=>?_
 . cases rv with
   |ls xs=>simp only[Rep]at r1;obtain⟨a,vs,rfl,h1,h2⟩:=r1;exact .inl ⟨a,vs,xs,cu,M1,rfl,h1.sq,UG h1 h2 e1,q,e1,v1⟩
   |tup xs=>simp only[Rep]at r1;obtain⟨a,vs,rfl,h1,h2⟩:=r1;exact .inr ⟨a,vs,xs,M1,rfl,bI.of h1,h2,q,e1,v1⟩
   |ref a=>
    simp only[Rep]at r1;subst r1;dsimp only at q;split at q
    . rename_i xs hm
      obtain⟨ho,eh,vs,rfl,r⟩:=v1 a _ hm;exact .inl ⟨a,vs,xs,_,M1,rfl,bM.of eh,UE e1,q,e1,v1⟩
    . exact q.elim
   |_=>exact(show False from q).elim
 . rcases q1 with⟨a,vs,rs,ok,M1,rfl,h1,h2,q,e1,v1⟩|⟨a,vs,rs,M1,rfl,h1,h2,q,e1,v1⟩
   . cases r1
     obtain⟨its,rv,p,hz⟩:=I1.list h1;refine wpAny_pyIter_list p.isList ?_;refine⟨s1.heap.objs.size,[s1.heap.objs.size],_,_,H1,rfl,I1.kept (t':=s1.toks) λb o e=>bS _ e,OU a _,⟨_,dz _ rfl,rfl,rfl⟩,λb hb=>?_,hk rs ok id M1 _ H1 q e1 v1 h2⟩
     have e:b=s1.heap.objs.size:=by simpa using hb
     subst e;exact I1.fE (ba _) (I1.ar.fresh (ba _))
   . cases r1
     obtain⟨its,rv,p,hz⟩:=I1.tuple h1;refine wpAny_pyIter_tuple (show s1.heap.IsTuple a its.toArray from p) ?_
     refine⟨s1.heap.objs.size,[s1.heap.objs.size],_,_,H1,rfl,I1.kept (t':=s1.toks) λb o e=>bS _ e,OE a _,⟨_,dz _ rfl,rfl,rfl⟩,λb hb=>?_,hk rs cu id M1 _ H1 q e1 v1 (UC h1 h2 e1)⟩
     have e:b=s1.heap.objs.size:=by simpa using hb
     subst e;exact I1.fE (ba _) (I1.ar.fresh (ba _))
noncomputable def sT (Q:LR->(RM->Prop)->(RM->RM)->RM->Prop):LR->RM->Prop:=λrs M=>match rs with
 | [.int n]=>-(2 ^ 62)<=n/\n<2 ^ 62/\Q (nums n.toNat) cu id M
 |_=>False
def JC(te:aw):fP:=λσ M Q=>te σ M λv M1=>sT Q [v] M1
theorem PI.imp{iter:Expr}{t t':TI}(h:PI X tg iter t)(i:∀σ H R,t' σ H R->t σ H R):PI X tg iter t':=λpins s σ H R I w=>h pins s σ H R I (i σ H R w)
theorem UI{a:Expr}{te:aw}{p pos:Pos}(hm:X.mg "range" =none)(ha:ai X a te)(hgl:Gl X "range":=by rfl)(hst:starEach [a] X.env= [(false,eval a X.env)]:=by rfl)(hsc:starEach (a::[]) X.env=(false,eval a X.env)::starEach [] X.env:=by rfl):
 gG X tg (.Call (.Name "range" p) [a] [] pos) (JC te):=PI.imp (Pt hgl hm (kZ ha pG hsc) hst) λσ0 H R h=>by
 obtain⟨σ,M,Q,hs,hv,ht,hk⟩:=h;refine⟨σ,M,sT Q,hs,hv,ht,λrs M1 vs H1 q e1 v1 r1=>?_⟩
 unfold sT at q;split at q
 . rename_i n
   obtain⟨q1,q2,q⟩:=q;obtain⟨v,rfl,r2⟩:=r1.one;simp only[Rep]at r2;subst r2;exact⟨n,rfl,q1,q2,hk _ cu id M1 _ H1 q e1 v1 (UD _ e1)⟩
 . exact q.elim
def FC(ti:fP)(g:jo)(tb:bY):bY:=λD σ M=>ti σ M λxs ok un M1=>gR g tb D ok un xs σ M1
noncomputable def Fq (H0:Hp)(D:Ends):Ends where
 nx:=λσ H=>∃H',dJ H0 H H'/\D.nx σ H'
 rt:=λv H=>∃H',dJ H0 H H'/\D.rt v H'
 bk:=D.bk
 ct:=D.ct
theorem J4{iter:Expr}{body:List Stmt}{ti:fP}{g:jo}{tb:bY}{pos:Pos}(hp:PassesOwn (model X.prog X.w) X.A X.env X.xe)(hc:X.calm=true)(hi:gG X tg iter ti)(hg:ng X tg g)(hb:gU X body tb)
 (hs:∀x,foldedSetIterable iter X.env x=pure x:=by intro _;rfl):c8 X (.For tg iter body [] pos) (FC ti g tb):=by
 intro pins s σ0 H D0 I h;refine aB (TC hp hc hi hg hb hs pins s σ0 H (Fq X.H₀ D0) I ?_) λf s' h'=>?_
 rotate_left
 . cases f with
   |next=>obtain⟨σ1,H1,I1,H2,t,q⟩:=h';exact⟨σ1,H2,t.inv I1,q⟩
   |brk=>exact h'
   |cont=>exact h'
   |ret v=>obtain⟨x1,σ1,H1,I1,r1,H2,t,q⟩:=h';exact⟨x1,σ1,H2,t.inv I1,r1,q⟩
 obtain⟨σ,M,D,hs,hv,ht,hd⟩:=h;refine⟨σ,M,_,hs,hv,ht,λxs ok un M1 J H1 q e1 v1 hJ=>?_⟩
 have outN:∀{σ4:bq} {M4:RM} {σ04:L2.St} {H4:Hp},(ok M4/\D.nx σ4 (un M4))->Ext H1 H4->View X.K H4 M4->aQ X.K H4 σ4 σ04->(Fq X.H₀ D0).nx σ04 H4:=λq4 e4 v4 r4=>by
  obtain⟨H5,t5,e5,x5,v5⟩:=hJ.bH _ _ e4 v4 q4.1;exact⟨H5,t5,hd.nx _ _ _ H5 q4.2 x5 v5 (r4.aW e5)⟩
 refine⟨λi m σ0 H=>m=xs.length-i/\i<=xs.length/\∃σ M,aQ X.K H σ σ0/\View X.K H M/\gR g tb D ok un (xs.drop i) σ M/\Ext H1 H,⟨_,rfl,lQ _,σ,M1,hs.ext e1,v1,by simpa using q,.refl _⟩,?_⟩
 rintro i m σ0 H ⟨rfl,hi,σ,M,hs,hv,hf,e⟩
 by_cases hlt:i<xs.length
 . have ed:xs.drop i=xs[i]::xs.drop (i+1):=by simp
   rw[ed]at hf;obtain⟨ar,hf⟩:=hf;obtain⟨hgo,hy⟩:=hJ.turn i H M e hv ar xs[i] (by simp)
   refine .inr ⟨hgo,λσ0 H=>∃σ M,aQ X.K H σ σ0/\View X.K H M/\gR g tb D ok un (xs.drop (i+1)) σ M/\Ext H1 H,λσ' H' h=>⟨_,∅,rfl,hlt,h⟩,λx H' y=>?_⟩
   obtain⟨e2,w2,r2⟩:=hy x H' y;refine⟨xs[i],σ,M,_,r2,hs.ext e2,w2 M hv,hf,λσ' M' σ0' H'' q e3 v3 r3=>?_⟩
   have e13:=(e.trans e2).trans e3;refine⟨σ',M',_,r3,v3,q,⟨λσ4 M4 σ04 H4 q4 e4 v4 r4=>⟨σ4,M4,r4,v4,q4,e13.trans e4⟩,λrv M4 v H4 q4 e4 v4 r4=>?_,λσ4 M4 σ04 H4 q4 e4 v4 r4=>outN q4 (e13.trans e4) v4 r4,λσ4 M4 σ04 H4 q4 e4 v4 r4=>⟨σ4,M4,r4,v4,q4,e13.trans e4⟩⟩⟩
   obtain⟨H5,t5,e5,x5,v5⟩:=hJ.bH _ _ (e13.trans e4) v4 q4.1;exact⟨H5,t5,hd.rt _ _ _ H5 q4.2 x5 v5 (Rep.aW e5 _ _ r4)⟩
 . have ei:i=xs.length:=by omega
   subst ei;rw[List.drop_length]at hf;exact .inl ⟨hJ.stop _ H M e hv hf.1 (ba _),outN hf e hv hs⟩
end
theorem Pc{env:Env}:∀(scope:Scope),(∀y∈scope.names,y.2= .free->∃c,env.cells.lookup y.1=some c)->∃cl,closureFor scope env=pure cl/\(∀y c,cl.lookup y=some c->env.cells.lookup y=some c)/\∀y∈scope.names,y.2= .free->∃c,cl.lookup y.1=some c:=by
 intro scope h;have all:∀(l:List (Str×NameKind)) (cs:List (Str×Addr)),(∀y∈l,y.2= .free->∃c,env.cells.lookup y.1=some c)->(∀y c,cs.lookup y=some c->env.cells.lookup y=some c)->
  ∃cl,(forIn l cs λ(x:Str×NameKind) (r:List (Str×Addr))=>(match x with|(name,kind)=>if(kind==NameKind.free)=true then do let c<-cellOf env name;pure (ForInStep.yield ((name,c)::r))else pure (ForInStep.yield r):Sem (ForInStep (List (Str×Addr)))))=(pure cl:Sem _)/\
   (∀y c,cl.lookup y=some c->env.cells.lookup y=some c)/\(∀y c,cs.lookup y=some c->∃c',cl.lookup y=some c')/\∀y∈l,y.2= .free->∃c,cl.lookup y.1=some c:=by
  intro l
  induction l with
  |nil=>intro cs _ h2;exact⟨cs,by simp,h2,λy c e=>⟨c,e⟩,λy hy=>by cases hy⟩
  |cons x l ih=>
   intro cs h1 h2;obtain⟨n,k⟩:=x
   by_cases hk:k= .free
   . subst hk
     obtain⟨c,ec⟩:=h1 (n,.free) iB rfl;have e0:cellOf env n=pure c:=by unfold cellOf;rw[ec]
     obtain⟨cl,e1,e2,e3,e4⟩:=ih ((n,c)::cs) (λy hy=>h1 y (fM _ hy)) (λy d e=>by
      rw[lK]at e;split at e
      . rename_i z;cases e;rw[gm z];exact ec
      . exact h2 y d e)
     refine⟨cl,?_,e2,λy d e=>?_,λy hy hf=>?_⟩
     . rw[tX]
       simp only[beq_self_eq_true,if_true,e0,pure_bind];exact e1
     . by_cases hy:y=n
       . subst hy;exact e3 y c (by simp)
       . exact e3 y d (by rw[lK,mW.mpr hy];exact e)
     . rcases cM.mp hy with rfl|hy
       . exact e3 n c (by simp)
       . exact e4 y hy hf
   . obtain⟨cl,e1,e2,e3,e4⟩:=ih cs (λy hy=>h1 y (fM _ hy)) h2
     have hb:(k==NameKind.free)=false:=by simpa using hk
     refine⟨cl,?_,e2,e3,λy hy hf=>?_⟩
     . rw[tX]
       simp only[hb,lF,if_false,pure_bind];exact e1
     . rcases cM.mp hy with rfl|hy
       . exact bp hf hk
       . exact e4 y hy hf
 obtain⟨cl,e1,e2,_,e4⟩:=all scope.names [] h (λy c e=>by simp at e)
 refine⟨cl,?_,e2,e4⟩;unfold closureFor;have e5:=congrArg (λm=>m >>= λr=>(pure r:Sem (List (Str×Addr)))) e1
 simp only[pure_bind]at e5;rw[<-e5]
noncomputable def fL (env:Env)(p:Str×NameKind):Str×NameKind:=if(p.2==NameKind.free&&env.scope.kind== .function&&env.kindOf p.1==some .cell)then(p.1,NameKind.cell)else(p.1,p.2)
theorem PN(env:Env)(p:Str×NameKind):(fL env p).1=p.1:=by unfold fL;split<;>rfl
theorem yU(env:Env)(p:Str×NameKind):(fL env p).2=p.2∨((fL env p).2= .cell/\p.2= .free):=by
 unfold fL;split
 . rename_i h
   rw[bh,bh]at h;exact .inr ⟨rfl,gm h.1.1⟩
 . exact .inl rfl
theorem uL{env:Env}{x:Str}:∀{names:List (Str×NameKind)},(names.map (fL env)).lookup x=(names.find? λp=>x==p.1).map λp=>(fL env p).2
 | []=>rfl
 |p::r=>by
  rw[cK,iC];obtain⟨n,k⟩:=p;have e:fL env (n,k)=(n,(fL env (n,k)).2):=Prod.ext (PN env (n,k)) rfl;rw[e,lK];cases hx:x==n with
  |true=>rfl
  |false=>exact uL
theorem uM{x:Str}:∀{names:List (Str×NameKind)},names.lookup x=(names.find? λp=>x==p.1).map λp=>p.2
 | []=>rfl
 |(n,k)::r=>by
  rw[lK,iC];cases hx:x==n with
  |true=>rfl
  |false=>exact uM
theorem Co{env:Env}{names:List (Str×NameKind)}{x:Str}{k:NameKind}(hc:∀y∈names,y.2≠.cell)(hk:k= .cell∨k= .free)
 (h:(names.map (fL env)).lookup x=some k):names.lookup x=some .free:=by
 rw[uL]at h;rw[uM];cases e:names.find? λp=>x==p.1 with
 |none=>rw[e]at h;cases h
 |some p=>
  rw[e]at h;have h':(fL env p).2=k:=de h;have hp:=List.mem_of_find?_eq_some e;show some p.2=some .free;rcases yU env p with z|z
  . rcases hk with rfl|rfl
    . exact bp (z.symm.trans h') (hc p hp)
    . rw[<-h',z]
  . rw[z.2]
theorem Cm{env:Env}{names:List (Str×NameKind)}{x:Str}(h:names.lookup x=some .free):(names.map (fL env)).lookup x=some .cell∨(names.map (fL env)).lookup x=some .free:=by
 rw[uM]at h;rw[uL];cases e:names.find? λp=>x==p.1 with
 |none=>rw[e]at h;cases h
 |some p=>
  rw[e]at h;have h':p.2= .free:=de h;show some (fL env p).2=some .cell∨some (fL env p).2=some .free;rcases yU env p with z|z
  . right;rw[z,h']
  . left;rw[z.1]
noncomputable def cL (X:Cx)(scope:Scope)(cl:List (Str×Addr))(C:Addr)(Nc:ay)(s:Shared)(H:Hp)(fp:List Addr):Cx:=
 { X with N:=Nc,s₀:=s,H₀:=H,env:=compEnvC scope cl C X.env,outer:=X.stack,ex:=fp,fn:=λ_=>false,pn:=[],xe:=λ_ _=>False }
theorem U5{X:Cx}{pins:aF}{σ:L2.St}{H:Hp}{s:Shared}{scope:Scope}{cl:List (Str×Addr)}{C:Addr}{Nc:ay}{fp:List Addr}(I:Inv X pins σ H s)(hf:∀b∈fp,jb X pins H b)(hlt:∀b∈fp,b<s.heap.objs.size)
 (bD:scope.kind= .function) (hC:s.heap.objs.size<=C) (h1:∀y c,cl.lookup y=some c->X.env.cells.lookup y=some c) (h2:∀y∈scope.names,y.2= .free->∃c,cl.lookup y.1=some c) (bA:∀y∈scope.names,y.2≠.cell):
 (cL X scope cl C Nc s H fp).Ok where
 mod:=I.ok.mod
 kind:=bD
 glob:=I.ok.glob
 blt:=I.ok.blt
 above:=hC
 inj:=λx y c e1 e2=>I.ok.inj x y c (h1 x c e1) (h1 y c e2)
 has:=λx hx=>by
  have e:scope.names.lookup x=some .free:=by
   rcases hx with hx|hx
   . exact Co bA (.inl rfl) hx
   . exact Co bA (.inr rfl) hx
  exact h2 (x,.free) (PySem.mem_of_lookup e) rfl
 lV:=λx c z=>by cases z
 hd:=I.ok.hd
 frames:=I.ok.frames
 mS:=.inl rfl
 og:=λb hb=>⟨λz=>bp (dE (hlt b hb) hC) (by rw[show b=C from z];exact lN _),λx c e=>(hf b hb).2.2.2.2.1 x c (h1 x c e)⟩
 bs:=λb o e=>I.bs b o e
 ia:=c6 I.ok.ia I.sz
 fH:=λb o e hb=>by
  rcases(hf b hb).2.2.2.1 with z|z
  . exact I.ok.fH b o e z
  . exact bp (dE (bB e) (c6 I.ok.ia z)) (lN _)
 eP:=λb hb z=>by
  rcases cM.mp (I.cZ b z)with e|e
  . exact(hf b hb).2.1 e
  . exact(hf b hb).2.2.1 e
 bP:=I.stack
 iP:=I.cI
section
variable {prog:Program}{w:World}{A:Around}{R:Result->Shared->Prop}{s:Shared}
abbrev Nv:aP:=λ_ _=>False
noncomputable abbrev zb (ifs:aT) (env:Env):Sem Bool:=forIn ifs true λc r=>if r=true then do let ok<-isTrue c env (eval c env);pure (ForInStep.yield ok)else pure (ForInStep.yield r)
theorem P9{elt target iter:Expr}{ifs:aT}{scope:Scope}{pos:Pos}{it acc:Value}{env:Env}(I:Nat->Shared->Prop)
 (turn:∀n s,I n s->wpAny (model prog w) A (pyNext it) (λr s₁=>(r=none/\R (.ok .next) s₁)∨∃v,r=some v/\wpAny (model prog w) A (letOwnedTupleGo target it v) (λ_ s₁'=>wpAny (model prog w) A (assign target env v) (λ_ s₂=>
  wpAny (model prog w) A (zb ifs env) (λok s₃=>
   if ok=true then wpAny (model prog w) A (eval elt env) (λx s₄=>
    wpAny (model prog w) A (call (.builtin "list.append") [acc,x]) (λ_ s₅=>∃m,m<n/\I m s₅) Nv s₄) Nv s₃
   else ∃m,m<n/\I m s₃) Nv s₂) Nv s₁') Nv s₁) Nv s)
 (n:Nat) (h:I n s):
 codeAny (model prog w) A (.compLoop (.ListComp elt [⟨target,iter,ifs,0⟩] scope pos) 0 it acc env) R s:=by
 refine codeAny_loop rfl I (λn s hI=>?_) n h
 show wpAny _ A ((compTurn (.ListComp elt [⟨target,iter,ifs,0⟩] scope pos) 0 it acc env).onRaise (λx=>do noteFrame x env;theTreesLotGoes x)) _ _ s
 refine wpAny_noted ?_;rw[compTurn_list];refine ak (wpAny_standAt (ak (eM (turn n s hI) (λr s₁ h₁=>?_) λ_ _ h'=>h'.elim)))
 rcases h₁ with⟨rfl,h₁⟩|⟨v,rfl,h₁⟩
 . exact aR h₁
 . refine ak (eM h₁ (λ_ s₁' h₁'=>?_) λ_ _ h'=>h'.elim)
   refine ak (eM h₁' (λ_ s₂ h₂=>ak (eM h₂ (λok s₃ h₃=>?_) λ_ _ h'=>h'.elim)) λ_ _ h'=>h'.elim)
   cases ok with
   |false=>exact aR ⟨rfl,h₃⟩
   |true=>
    exact ak (ak (eM h₃ (λx s₄ h₄=>ak (eM h₄ (λ_ s₅ h₅=>aR (aR ⟨rfl,h₅⟩)) λ_ _ h'=>h'.elim)) λ_ _ h'=>h'.elim))
end
def qB(X:Cx)(ifs:aT)(t:c9):Prop:=
 ∀(pins:aF) (s:Shared) (σ:L2.St) (H:Hp) (Q:Bool->Hp->Prop),Inv X pins σ H s->AD X.K t σ H Q->wpAny (model X.prog X.w) X.A (zb ifs X.env) (TP X pins σ Q) X.xe s
def Mv:c9:=λ_ M Q=>Q true M
theorem LF{X:Cx}:qB X [] Mv:=by
 intro pins s σ0 H Q0 I h;obtain⟨σ,M,Q,hs,hv,ht,hk⟩:=h;exact aR ⟨H,I,hk true M H ht (.refl H) hv⟩
theorem LD{X:Cx}{c:Expr}{t:c9}(h:cy X c t):qB X [c] t:=by
 intro pins s σ0 H Q0 I hw;have:=h pins s σ0 H Q0 I hw;unfold zb;rw[tX];simp only[if_true,bind_assoc,pure_bind];refine ak (aB this λb s' q=>?_)
 simp only[List.forIn_nil];exact aR q
def lx(md:Bool)(acc:LR)(M:RM)(Q:aq):Prop:=match md with
 |true=>∀p,M p=none->Q (.ref p) (put M p (.lst acc))
 |false=>Q (.ls acc) M
noncomputable def gx (bd:RV->Option (LR))(md:Bool)(ok:RM->Prop)(un:RM->RM)(tt:c9)(te:aw)(base:List (Option RV)):LR->LR->RM->aq->Prop
 | [],acc,M,Q=>ok M/\lx md acc (un M) Q
 |x::xs,acc,M,Q=>ok M/\match bd x with
  |some bs=>tt (bs.map some++base) M λc M1=>(c=true->te (bs.map some++base) M1 λv M2=>gx bd md ok un tt te base xs (acc++ [v]) M2 Q)/\(c=false->gx bd md ok un tt te base xs acc M1 Q)
  |none=>False
noncomputable def wm (bd:RV->Option (LR))(md:Bool)(ti:fP)(cap:List Nat)(tt:c9)(te:aw):aw:=λσ M Q=>ti σ M λxs ok un M1=>xs.length<sizeLine/\gx bd md ok un tt te (cap.map λi=>(σ[i]?).join) xs [] M1 Q
section
variable {X:Cx}
theorem Qa{elt iter tg:Expr}{nm:ay}{bd:RV->Option (LR)}{md:Bool}{scope:Scope}{pos:Pos}{ti:fP}{tt:c9}{te:aw}{ifs:aT}(caps:List (Nat×Str)){osc:Scope}{oN:ay}
 (hc:X.calm=true) (hi:gG X tg iter ti)
 (hif:∀cl C s H fp,qB (cL X scope cl C (nm++caps.map Prod.snd) s H fp) ifs tt)
 (hel:∀cl C s H fp,ai (cL X scope cl C (nm++caps.map Prod.snd) s H fp) elt te)
 (hX:X.env.scope=osc) (hN:X.N=oN)
 (fF:∀p∈caps,oN[p.1]? =some p.2/\scope.names.lookup p.2=some .free/\(osc.names.lookup p.2=some .cell∨osc.names.lookup p.2=some .free))
 (iR:∀y∈scope.names,y.2= .free->(osc.names.lookup y.1=some .cell∨osc.names.lookup y.1=some .free))
 (bA:∀y∈scope.names,y.2≠.cell) (bD:scope.kind= .function) (cq:∀y∈scope.names,y.2= .local->scope.names.lookup y.1=some .local)
 (hb:∀r bs,bd r=some bs->bs.length=nm.length)
 (hpg:∀cl C s2 H2 fp (pins':aF) (s6:Shared) (vs0 cv:List (Option V)) (H6:Hp) (rv:RV) (xv:V) (u:Value) (bs:LR) (Q1:Unit->Shared->Prop),vs0.length=nm.length->Inv (cL X scope cl C (nm++caps.map Prod.snd) s2 H2 fp) pins' (vs0++cv) H6 s6->RelV xv u->Rep X.K H6 rv xv->bd rv=some bs->
  (∀vs s7,ae X.K H6 bs vs->Inv (cL X scope cl C (nm++caps.map Prod.snd) s2 H2 fp) pins' (vs.map some++cv) H6 s7->Q1 () s7)->wpAny (model X.prog X.w) X.A (assign tg (compEnvC scope cl C X.env) u) Q1 Nv s6)
 (hs:∀v,foldedSetIterable iter X.env v=pure v) {pos':Pos} {pins:aF} {s:Shared} {σ0:L2.St} {H:Hp} {Q0:VK} (I:Inv X pins σ0 H s) (hw:up X.K (wm bd md ti (caps.map Prod.fst) tt te) σ0 H Q0) {use:Option (Value->Sem Unit)} {PP:aP}
 (fin:∀(D C:Addr) (s5:Shared) (m5:aU) (H5:Hp),s5.heap.Ns C m5->(∀h',Heap.SameBut C s5.heap h'->Inv X pins σ0 H5 { s5 with heap:=h' })->Q0 (.ref D) H5->H5 C=none->C≠X.env.locals->X.s₀.heap.objs.size<=C->(∀y c,X.env.cells.lookup y=some c->c≠C)->(∀p∈X.pn++pins,p.1≠C)->compPost (model X.prog X.w) X.A X.xe use PP (.ref D) C (.ok .next) s5):
 wpAny (model X.prog X.w) X.A (comprehension (.ListComp elt [⟨tg,iter,ifs,0⟩] scope pos) scope X.env pos' (newList []) false (eval iter X.env) use) PP X.xe s:=by
 subst hX;subst hN;obtain⟨σ,M,Q,hst,hv,ht,hk⟩:=hw;obtain⟨cl,hclos,hcl1,hcl2⟩:=Pc scope λy hy hf=>I.ok.has y.1 (iR y hy hf)
 refine wpAny_comprehension_free (use:=use) (cl:=cl) rfl hs hclos bD cq ?_;refine eM (hi pins s σ0 H (λJ H1=>∃xs ok un M1,Ext H H1/\View X.K H1 M1/\fW X.H₀ H X.K J xs ok un H1/\xs.length<sizeLine/\gx bd md ok un tt te ((caps.map Prod.fst).map λi=>(σ[i]?).join) xs [] M1 Q) I ⟨σ,M,_,hst,hv,ht,λxs ok un M' J H' q e w hJ=>⟨xs,ok,un,M',e,w,hJ,q.1,q.2⟩⟩)
  (λv s1 h1=>eM h1 (λitv s2 h2=>?_) λ_ _ e=>e) λ_ _ e=>e
 obtain⟨it,fp,tn,J,H2,rfl,I2,T,st2,f2,xs,ok,un,M1,e2,w2,hJ,hz,hq⟩:=h2;have kE:∀b∈fp,b<s2.heap.objs.size:=λb hb=>by obtain⟨o,e,_⟩:=T.obj _ _ st2 b hb;exact bB e
 refine lH (wpAny_newFunctionEnv bA (by intro y hy;simp at hy) (λh₁ hns₁ hsb₁=>?_) bD)
 dsimp only at hns₁ hsb₁ ⊢;generalize hH2:s2.heap.push { cls:=.type "list",dict:=none,data:=.seq ([]:ao).toArray }=hp2 at hns₁ hsb₁ ⊢;have hCs:hp2.objs.size=s2.heap.objs.size+1:=by rw[<-hH2,Heap.size_push]
 have hDC:s2.heap.objs.size≠hp2.objs.size:=by rw[hCs];exact cx (Nat.lt_succ_self _)
 have hCle:s2.heap.objs.size<=hp2.objs.size:=by rw[hCs];exact Nat.le_succ _
 have old:∀b o,s2.heap.get? b=some o->h₁.get? b=some o:=λb o e=>hsb₁.extBut b o (cx (by rw[hCs];exact xG (bB e))) (bS _ (hH2 ▸ bS _ e))
 have hacc:h₁.get? s2.heap.objs.size=some { cls:=.type "list",data:=.seq ([]:ao).toArray }:=hsb₁.extBut _ _ hDC (bS _ (hH2 ▸ dz _ rfl));generalize hD:s2.heap.objs.size=D at*;generalize hCg:hp2.objs.size=C at*;have hDfp:∀b∈fp,b≠D:=λb hb=>cx (kE b hb)
 have okB:(cL X scope cl C (nm++caps.map Prod.snd) s2 H2 fp).Ok:=U5 I2 f2 (by rw[hD];exact kE) bD (by rw[hD];exact hCle) hcl1 hcl2 bA
 have fr:∀b,D<=b->H2 b=none:=λb hb=>I2.ar.fresh (by rw[hD];exact hb)
 have capsV:∃cv:List (Option V),cv.length=caps.length/\(∀(j:Nat) v,cv[j]? =some (some v)->∃p,caps[j]? =some p/\σ0[p.1]? =some (some v))/\
  ∀(j:Nat) r,((caps.map Prod.fst).map λi=>(σ[i]?).join)[j]? =some (some r)->∃v,cv[j]? =some (some v)/\Rep X.K H2 r v:=by
  refine⟨caps.map λp=>(σ0[p.1]?).join,by simp,λj v e=>?_,λj r e=>?_⟩
  . rw[fy]at e
    cases q:caps[j]? with
    |none=>rw[q]at e;cases e
    |some p=>
     rw[q]at e;have e':(σ0[p.1]?).join=some v:=de e;refine⟨p,rfl,?_⟩;cases z:σ0[p.1]? with
     |none=>rw[z]at e';cases e'
     |some o=>rw[z]at e';have:o=some v:=e';rw[this]
  . rw[fy,fy]at e
    cases q:caps[j]? with
    |none=>rw[q]at e;cases e
    |some p=>
     rw[q]at e;have e':(σ[p.1]?).join=some r:=de e;have e'':σ[p.1]? =some (some r):=by
      cases z:σ[p.1]? with
      |none=>rw[z]at e';cases e'
      |some o=>rw[z]at e';have:o=some r:=e';rw[this]
     obtain⟨v,h1,h2⟩:=hst.2 p.1 r e'';refine⟨v,?_,Rep.ext e2 r v h2⟩;rw[fy,q];show some ((σ0[p.1]?).join)=_;rw[h1];rfl
 obtain⟨cv,cvl,cv1,cv2⟩:=capsV;have I3:Inv (cL X scope cl C (nm++caps.map Prod.snd) s2 H2 fp) [(D,{ cls:=.type "list",data:=.seq ([]:ao).toArray })] (List.replicate nm.length none++cv) H2 { s2 with heap:=h₁,toks:=s2.toks+([]:List (Str×Value)).length }:=by
  refine⟨okB,rfl,I2.bare,Un.kept old,⟨_,hns₁,λi y v a b c=>?_⟩,λy c e=>?_,fr C hCle,λy c e=>I2.bo y c (hcl1 y c e),λp hp=>?_,I2.ar.kept old,?_⟩
  . by_cases hi0:i<nm.length
    . rw[pN (by rw[xJ];exact hi0),List.getElem?_replicate]at b
      split at b<;>cases b
    . obtain⟨j,rfl⟩:=Nat.exists_eq_add_of_le (Nat.le_of_not_lt hi0)
      rw[List.getElem?_append_right (by rw[xJ];omega),xJ,xI]at b
      have a:(caps.map Prod.snd)[j]? =some y:=by
       have a':(nm++caps.map Prod.snd)[nm.length+j]? =some y:=a;rw[List.getElem?_append_right ∅,xI]at a';exact a'
      obtain⟨p,q1,q2⟩:=cv1 j v b;have hy:p.2=y:=by
       have a':(caps.map Prod.snd)[j]? =some y:=a;rw[fy,q1]at a';exact de a'
      subst hy;obtain⟨z1,z2,z3⟩:=fF p (hW q1);obtain⟨m,hn,hl⟩:=I2.loc;have lz:pS X.env.scope p.2:=by rcases z3 with z|z;exact .inr (.inl z);exact .inr (.inr z)
      obtain⟨u,ru,lk⟩:=hl p.1 p.2 v z1 q2 lz;refine⟨u,ru,.inr ⟨Cm z2,?_⟩⟩;obtain⟨c,ec⟩:=hcl2 (p.2,.free) (PySem.mem_of_lookup z2) rfl;have ec':=hcl1 p.2 c ec;rcases lk with⟨k,_⟩|⟨_,c',e',ic⟩
      . have k':X.env.scope.names.lookup p.2=some .local:=k
        rcases z3 with z|z<;>(rw[z]at k';cases k')
      . rw[ec']at e';cases e'
        obtain⟨o,ho,hd⟩:=ic;exact⟨c,ec,o,old c o ho,hd⟩
  . obtain⟨v,o,ho,hd⟩:=I2.cell y c (hcl1 y c e)
    exact⟨v,o,old c o ho,hd⟩
  . have hp':p=(D,{ cls:=.type "list",data:=.seq ([]:ao).toArray }):=by simpa[cL]using hp
    subst hp';refine⟨hacc,fr D (ba _),hDC,λz=>?_,λv=>by simp⟩
    have:=I2.cI D z;rcases cM.mp (I2.cZ D z)with e|e
    . exact bp I2.lt (by rw[<-e,hD];exact lN _)
    . exact I2.rA (by rw[hD];exact ba _) e
  . show(List.replicate nm.length none++cv).length=(nm++caps.map Prod.snd).length
    simp[cvl]
 have W:∀s3:Shared,s3= { s2 with heap:=h₁,toks:=s2.toks+([]:List (Str×Value)).length }->codeAny (model X.prog X.w) X.A (.compLoop (.ListComp elt [⟨tg,iter,ifs,0⟩] scope pos) 0 (.ref it) (.ref D) (compEnvC scope cl C X.env))
  (compPost (model X.prog X.w) X.A X.xe use PP (.ref D) C) s3:=by
  rintro s3 rfl;refine P9 (λn s'=>∃(i:Nat) (v0:List (Option V)) (H':Hp) (M':RM) (accR:LR) (accV:LV) (its:ao) (k:Nat),n=xs.length-i/\v0.length=nm.length/\i<=xs.length/\accR.length<=i/\
   Inv (cL X scope cl C (nm++caps.map Prod.snd) s2 H2 fp) [(D,{ cls:=.type "list",data:=.seq its.toArray k })] (v0++cv) H' s'/\View X.K H' M'/\Ext H2 H'/\ae X.K H' accR accV/\Vals accV its/\tn i s'.heap/\(∀b∈fp,H' b=none)/\
   gx bd md ok un tt te ((caps.map Prod.fst).map λi=>(σ[i]?).join) (xs.drop i) accR M' Q) ?_ xs.length ⟨0,List.replicate nm.length none,H2,M1,[],[],[],0,rfl,by simp,lQ _,ba _,I3,w2,.refl _,ae.nil,.nil,T.keep _ _ _ st2 λb _ o e=>old b o e,λb hb=>(f2 b hb).1,by simpa using hq⟩
  rintro n s' ⟨i,v0,H',M',accR,accV,its,k,rfl,hv0,hi,hal,I4,w4,e4,ra,rl,st4,f4,hq4⟩;have fpB:∀(pins':aF) (H'':Hp),(∀b∈fp,H'' b=none)->(∀p∈pins',∀b∈fp,p.1≠b)->∀b∈fp,jb (cL X scope cl C (nm++caps.map Prod.snd) s2 H2 fp) pins' H'' b:=λpins' H'' h1 h2 b hb=>
   ⟨h1 b hb,(okB.og b hb).1,okB.eP b hb,.inl hb,(okB.og b hb).2,λp hp=>h2 p (by simpa[cL]using hp) b hb⟩
  have pD:∀(o:Obj),∀p∈[(D,o)],∀b∈fp,p.1≠b:=λo p hp b hb=>by
   have:p=(D,o):=by simpa using hp
   subst this;exact(hDfp b hb).symm
  by_cases hlt:i<xs.length
  . have ed:xs.drop i=xs[i]::xs.drop (i+1):=by simp
    rw[ed]at hq4;obtain⟨ar,hq4⟩:=hq4;obtain⟨hgo,hy⟩:=hJ.turn i H' M' e4 w4 ar xs[i] (by simp)
    refine aB (T.item (cL X scope cl C (nm++caps.map Prod.snd) s2 H2 fp) rfl rfl rfl hc i _ s' _ H' Nv I4 (fpB _ _ f4 (pD _)) st4 hgo) λr s5 ⟨u,hr,h5⟩=>.inr ⟨u,hr,?_⟩
    refine aB h5 λ_ s6 zz=>?_;obtain⟨xv,H6,I6,r6,y6,st6,f6⟩:=zz
    obtain⟨e6,w6,rr6⟩:=hy xv H6 y6;have I6':=I6.pinned (fpB _ _ f6 (pD _)) (T.obj _ _ st6);obtain⟨bs,ebs,hq4⟩:∃bs,bd xs[i]=some bs/\tt (bs.map some++(caps.map Prod.fst).map λi=>(σ[i]?).join) M' λc M1=>(c=true->te (bs.map some++(caps.map Prod.fst).map λi=>(σ[i]?).join) M1 λv M2=>gx bd md ok un tt te ((caps.map Prod.fst).map λi=>(σ[i]?).join) (xs.drop (i+1)) (accR++ [v]) M2 Q)/\(c=false->gx bd md ok un tt te ((caps.map Prod.fst).map λi=>(σ[i]?).join) (xs.drop (i+1)) accR M1 Q):=by
     split at hq4
     . rename_i bs e;exact⟨bs,e,hq4⟩
     . exact hq4.elim
    refine hpg cl C s2 H2 fp _ s6 v0 cv H6 xs[i] xv u bs _ hv0 I6' r6 rr6 ebs λvs6 s7 rp6 I7=>?_
    have lv6:vs6.length=nm.length:=by rw[<-rp6.length];exact hb _ _ ebs
    have base:∀{Hx:Hp},Ext H6 Hx->aQ X.K Hx (bs.map some++(caps.map Prod.fst).map λi=>(σ[i]?).join) (vs6.map some++cv):=λ{Hx} ex=>by
     have lb:=rp6.length;refine⟨by simp[cvl,lb],λj r e=>?_⟩
     by_cases hj:j<bs.length
     . rw[pN (by simpa using hj),fy]at e
       cases q:bs[j]? with
       |none=>rw[q]at e;cases e
       |some r'=>
        rw[q]at e;have:r'=r:=de (de e);subst this;obtain⟨v,q1,q2⟩:=rp6.get q;exact⟨v,by rw[pN (by rw[cb];omega),fy,q1];rfl,Rep.ext ex _ _ q2⟩
     . obtain⟨k,rfl⟩:=Nat.exists_eq_add_of_le (Nat.le_of_not_lt hj)
       rw[List.getElem?_append_right (by simp),cb,xI]at e
       obtain⟨v,q1,q2⟩:=cv2 k r e;exact⟨v,by rw[List.getElem?_append_right (by rw[cb];omega),cb,<-lb,xI];exact q1,Rep.ext (e4.trans (e6.trans ex)) r v q2⟩
    have next:∀(M8:RM) (H8:Hp) (s8:Shared) (accR':LR) (accV':LV) (its':ao) (k':Nat),accR'.length<=i+1->
     Inv (cL X scope cl C (nm++caps.map Prod.snd) s2 H2 fp) ([(D,{ cls:=.type "list",data:=.seq its'.toArray k' })]++mr fp s6.heap) (vs6.map some++cv) H8 s8->View X.K H8 M8->Ext H6 H8->ae X.K H8 accR' accV'->Vals accV' its'->
     gx bd md ok un tt te ((caps.map Prod.fst).map λi=>(σ[i]?).join) (xs.drop (i+1)) accR' M8 Q->∃m,m<xs.length-i/\∃(i:Nat) (v0:List (Option V)) (H':Hp) (M':RM) (accR:LR) (accV:LV) (its:ao) (k:Nat),m=xs.length-i/\v0.length=nm.length/\i<=xs.length/\accR.length<=i/\
     Inv (cL X scope cl C (nm++caps.map Prod.snd) s2 H2 fp) [(D,{ cls:=.type "list",data:=.seq its.toArray k })] (v0++cv) H' s8/\View X.K H' M'/\Ext H2 H'/\ae X.K H' accR accV/\Vals accV its/\tn i s8.heap/\(∀b∈fp,H' b=none)/\
     gx bd md ok un tt te ((caps.map Prod.fst).map λi=>(σ[i]?).join) (xs.drop i) accR M' Q:=by
     intro M8 H8 s8 accR' accV' its' k' hl' I8 w8 e8 ra' rl' hq8;have keep8:∀b∈fp,∀o,s6.heap.get? b=some o->s8.heap.get? b=some o/\H8 b=none:=λb hb o e=>by
      have:=I8.pin (b,o) (gA _ (gA _ (yF hb e)));exact⟨this.1,this.2.1⟩
     refine⟨xs.length-(i+1),∅,i+1,vs6.map some,H8,M8,accR',accV',its',k',rfl,by rw[cb];exact lv6,hlt,hl',I8.cJ,w8,e4.trans (e6.trans e8),ra',rl',T.keep _ _ _ st6 λb hb o e=>(keep8 b hb o e).1,λb hb=>?_,hq8⟩
     obtain⟨o,e,_⟩:=T.obj _ _ st6 b hb;exact(keep8 b hb o e).2
    refine aB (hif cl C s2 H2 fp _ s7 _ H6 (λoc H8=>∃M8,View X.K H8 M8/\Ext H6 H8/\(oc=true->te (bs.map some++(caps.map Prod.fst).map λi=>(σ[i]?).join) M8 λv M2=>gx bd md ok un tt te ((caps.map Prod.fst).map λi=>(σ[i]?).join) (xs.drop (i+1)) (accR++ [v]) M2 Q)/\
     (oc=false->gx bd md ok un tt te ((caps.map Prod.fst).map λi=>(σ[i]?).join) (xs.drop (i+1)) accR M8 Q)) I7 ⟨_,M',_,base (.refl _),w6 M' w4,hq4,λb M8 H8 q e w=>⟨M8,w,e,q.1,q.2⟩⟩) λoc s8 ⟨H8,I8,M8,w8,e8,qt,qf⟩=>?_
    cases oc with
    |false=>
     exact next M8 H8 s8 accR accV its k ∅ I8 w8 e8 (ae.ext (e6.trans e8) _ _ ra) rl (qf rfl)
    |true=>
     refine aB (hel cl C s2 H2 fp _ s8 _ H8 (λv H9=>∃rv M9,View X.K H9 M9/\Ext H8 H9/\Rep X.K H9 rv v/\gx bd md ok un tt te ((caps.map Prod.fst).map λi=>(σ[i]?).join) (xs.drop (i+1)) (accR++ [rv]) M9 Q) I8 ⟨_,M8,_,base e8,w8,qt rfl,λrv M9 v H9 q e w r=>⟨rv,M9,w,e,r,q⟩⟩) λy s9 zz=>?_;obtain⟨yv,H9,I9,r9,rv,M9,w9,e9,rr9,hq9⟩:=zz
     have pD9:=I9.pin (D,{ cls:=.type "list",data:=.seq its.toArray k }) (gA _ (qI _ iB));have hlen:its.length<=i:=by rw[<-rl.length,<-ra.length];exact hal
     refine call_meets F.slot_list_append ⟨_,pD9.1,rfl⟩ F.entry_list_append (F.args_list_append_2 _ _) (PySem.list_append D its.toArray k y (by rw[dW];omega)) ⟨pD9.1,?_⟩
     have q:=PySem.IsL.update pD9.1 (λx_1=>x_1.push y)
     have hpush:its.toArray.push y=(its++ [y]).toArray:=by simp
     rw[hpush]at q;obtain⟨k',q⟩:∃k',(s9.heap.update D (Obj.mapSeq λx_1=>x_1.push y)).get? D=some { cls:=.type "list",data:=.seq (its++ [y]).toArray k' }:=⟨_,q⟩
     have I10:Inv (cL X scope cl C (nm++caps.map Prod.snd) s2 H2 fp) (mr fp s6.heap) (vs6.map some++cv) H9 { s9 with heap:=s9.heap.update D (Obj.mapSeq λx_1=>x_1.push y),toks:=s9.toks }:=by
      refine Inv.turned (it:=D) (I9.dw λp hp=>I9.pin p (gA _ (gA _ hp))) (λb o hb e=>(Heap.get?_update_other _ _ (d9 hb)).trans e) pD9.2.1 pD9.2.2.1 (.inr (by show s2.heap.objs.size<=D;rw[hD];exact ba _)) (λz c e=>?_) λp hp=>?_
      . obtain⟨v,o,ho,hd⟩:=I2.cell z c (hcl1 z c e)
        exact cx (by have:=bB ho;rw[hD]at this;exact this)
      . have hp':p∈mr fp s6.heap:=by simpa[cL]using hp
        exact hDfp p.1 (C6 hp').1
     have I11:Inv (cL X scope cl C (nm++caps.map Prod.snd) s2 H2 fp) ([(D,{ cls:=.type "list",data:=.seq (its++ [y]).toArray k' })]++mr fp s6.heap) (vs6.map some++cv) H9 { s9 with heap:=s9.heap.update D (Obj.mapSeq λx_1=>x_1.push y),toks:=s9.toks }:=by
      refine I10.dw λp hp=>?_
      rcases jH.mp hp with hp|hp
      . have:p=(D,{ cls:=.type "list",data:=.seq (its++ [y]).toArray k' }):=by simpa using hp
        subst this;exact⟨q,pD9.2.1,pD9.2.2.1,pD9.2.2.2.1,λv=>by simp⟩
      . exact I10.pin p (gA _ hp)
     exact next M9 H9 _ (accR++ [rv]) (accV++ [yv]) (its++ [y]) k' (by rw[jF,List.length_singleton];omega) I11 w9 (e8.trans e9) ((ae.ext (e6.trans (e8.trans e9)) _ _ ra).append (ae.cons rr9 ae.nil)) (rl.append (.cons r9 .nil)) hq9
  . have ei:i=xs.length:=by omega
    subst ei;refine aB (T.done (cL X scope cl C (nm++caps.map Prod.snd) s2 H2 fp) rfl rfl rfl hc _ _ s' _ H' Nv I4 (fpB _ _ f4 (pD _)) st4 (hJ.stop _ H' M' e4 w4 (by rw[List.drop_length]at hq4;exact hq4.1) (ba _))) λr s5 ⟨hr,I5⟩=>.inl ⟨hr,?_⟩
    rw[List.drop_length]at hq4;obtain⟨hok4,hq4⟩:=hq4;obtain⟨m5,hn5,_⟩:=I5.loc;have pD5:=I5.pin (D,{ cls:=.type "list",data:=.seq its.toArray k }) (gA _ iB);have hC5:H' C=none:=I5.free;have lC:X.env.locals<C:=dE I2.lt (by rw[hD];exact hCle)
    obtain⟨HD,oHD,wHD,qHD⟩:∃HD:HO,(∀h':Heap,h'.get? D=some { cls:=.type "list",data:=.seq its.toArray k }->accV.length<=sizeLine->aH X.prog X.w (upd H' D HD) h' D HD)/\(∀o u,HD= .aZ o u->jB u=false)/\∃H5,dJ X.H₀ (upd H' D HD) H5/\Q0 (.ref D) H5/\H5 C=none:=by
     have keyD:∀(HD:HO),∃H5,dJ X.H₀ (upd H' D HD) H5/\H5 C=none/\∃H4,bj H' H4/\Ext H H4/\View X.K H4 (un M')/\H4 D=none/\H5=upd H4 D HD:=λHD=>by
      obtain⟨H4,t4,e4',x4',v4⟩:=hJ.bH H' M' e4 w4 hok4;rcases t4 with h4|⟨d,ob,u,h1,du,h0,rfl⟩
      . rw[h4]at v4 x4'
        exact⟨_,.inl rfl,by rw[aK (d9 hDC)];exact hC5,H',(Ext.refl _).w,x4',v4,pD5.2.1,rfl⟩
      . have nd:d≠D:=λz=>by rw[z,pD5.2.1]at h1;cases h1
        have nc:d≠C:=λz=>by rw[z,hC5]at h1;cases h1
        have h1':upd H' D HD d=some (.aZ ob u):=by rw[aK nd];exact h1
        have eq:upd (upd H' D HD) d u=upd (upd H' d u) D HD:=by
         funext b;unfold upd
         by_cases b1:b=d
         . subst b1;rw[az rfl,aj nd,az rfl]
         . rw[aj b1]
           by_cases b2:b=D
           . rw[az b2,az b2]
           . rw[aj b2,aj b2,aj b1]
        exact⟨_,.inr ⟨d,ob,u,h1',du,h0,rfl⟩,by rw[aK nc.symm,aK (d9 hDC)];exact hC5,_,e4',x4',v4,by rw[aK nd.symm];exact pD5.2.1,eq⟩
     cases md with
     |false=>
      obtain⟨H5,t5,c5,H4,x4,y4,v4,n4,rfl⟩:=keyD (.aZ { cls:=.type "list",data:=.seq its.toArray k } (.lst accV));exact⟨.aZ { cls:=.type "list",data:=.seq its.toArray k } (.lst accV),λh' e z=>⟨e,z,its,k,rl,e⟩,λo u z=>by cases z;rfl,_,t5,hk _ _ _ _ hq4 (y4.trans (Ext.new n4)) (v4.new n4) (oY n4 (ae.aW x4 _ _ ra)),c5⟩
     |true=>
      obtain⟨H5,t5,c5,H4,x4,y4,v4,n4,rfl⟩:=keyD (.lst accV);exact⟨.lst accV,λh' e z=>⟨z,its,k,rl,e⟩,λo u z=>(by cases z),_,t5,hk _ _ _ _ (hq4 D (v4.free n4)) (y4.trans (Ext.new n4)) (v4.cS n4 ⟨accV,rfl,ae.aW (x4.trans (Ext.new n4).w) _ _ ra⟩) (by simp only[Rep]),c5⟩
    obtain⟨H5,t5,q5,c5⟩:=qHD;refine fin D C s5 m5 H5 hn5 (λh' sb=>t5.inv ?_) q5 c5 (Nat.ne_of_gt lC) (c6 I2.ok.above (m4 lC)) (λy c e=>?_) λp hp=>?_
    rotate_left
    . obtain⟨v,o,ho,_⟩:=I2.cell y c e
      exact cx (dE (bB ho) (by rw[hD];exact hCle))
    . exact cx (dE (bB (I2.pin p hp).1) (by rw[hD];exact hCle))
    have hDh:h'.get? D=some { cls:=.type "list",data:=.seq its.toArray k }:=sb.extBut _ _ hDC pD5.1;have hz':accV.length<=sizeLine:=by rw[<-ra.length];omega
    have hok5:bL X.prog X.w (upd H' D HD) h':=λb u q=>by
     by_cases hb:b=D
     . subst hb;rw[d6]at q;cases q
       exact oHD h' hDh hz'
     . rw[aK hb]at q
       refine(I5.ar b u q).cY (λc v hcb e=>sb.extBut c v ?_ e) (λc e=>?_) λc ys e=>?_
       . rcases hcb with rfl|e'
         . exact eJ q hC5
         . exact eJ e' hC5
       . rw[aK (eJ e pD5.2.1)];exact e
       . rw[aK (eJ e pD5.2.1)];exact e
    have un5:Un (br X.stack) fp H2 (upd H' D HD) s2.heap h':=by
     have B:Un (br X.stack) fp H2 H' s2.heap s5.heap:=I5.base;have nC:∀b o,s2.heap.get? b=some o->b≠C:=λb o e=>cx (dE (bB e) (by rw[hD];exact hCle))
     have nD:∀b o,s2.heap.get? b=some o->b≠D:=λb o e=>cx (by have:=bB e;rw[hD]at this;exact this)
     refine⟨λb o a1 a2 a3 a4=>sb.extBut b o (nC b o a1) (B.keep b o a1 a2 a3 a4),λb o a1 a2 a3 a4=>?_,λb o a1 a2 a4=>?_,λb o a1 a4=>?_,λb ys a=>?_,λb o u a=>?_,λb ps a=>?_⟩
     . obtain⟨sl,e⟩:=B.slot b o a1 a2 a3 a4
       exact⟨sl,sb.extBut b _ (nC b o a1) e⟩
     . rw[aK (nD b o a1)];exact B.free b o a1 a2 a4
     . obtain⟨o',e⟩:=B.there b o a1 a4
       exact⟨o',sb.extBut b o' (nC b o a1) e⟩
     . have e:=B.aV b ys a;rw[aK (eJ e pD5.2.1)];exact e
     . have e:=B.aE b o u a;rw[aK (eJ e pD5.2.1)];exact e
     . obtain⟨more,e⟩:=B.bR b ps a;exact⟨more,by rw[aK (eJ e pD5.2.1)];exact e⟩
    have I6:Inv X pins σ0 (upd H' D HD) { s5 with heap:=h' }:=I2.iF (ch:=fp) I5.os un5 hok5 I5.bare λb hb=>⟨(f2 b hb).2.2.2.1,(f2 b hb).2.1,(f2 b hb).2.2.2.2.1,(f2 b hb).2.2.2.2.2⟩
    exact I6
 exact codeAny_compStart_list (W _ rfl) (T.self X.A 0 _ _ _ (T.keep _ _ _ st2 λb _ o e=>old b o e) (W _ rfl))
noncomputable def mx:aT->Option (ay)
 | []=>some []
 | .Name x _::r=>(mx r).map (x:: ·)
 |_::_=>none
noncomputable def MS (n:Nat):RV->Option (LR)
 | .tup xs=>if xs.length=n then some xs else none
 |_=>none
noncomputable def MT (r:RV):Option (LR):=some [r]
theorem Dw{es:aT}{xs:ay}:∀(es:aT) (xs:ay) (j:Nat),mx es=some xs->X.N.Nodup->(∀i x,xs[i]? =some x->X.N[j+i]? =some x)->(∀x∈xs,X.env.scope.names.lookup x=some .local)->m8 X es (lu (List.range' j xs.length))/\(assignEach es X.env).length=xs.length/\(assignEach es X.env).findIdx? (·.1)=none
 | [],xs,j,h,_,_,_=>by cases h;exact⟨DZ,rfl,rfl⟩
 |e::r,xs,j,h,kG,hN,hl=>by
  cases e<;>first|(cases h;done)|skip
  rename_i x p;cases e:mx r with
  |none=>simp only[mx,e]at h;cases h
  |some ys=>
   simp only[mx,e]at h;cases h;obtain⟨a,b,c⟩:=Dw (es:=es) (xs:=xs) r ys (j+1) e kG (λi y hy=>by have:=hN (i+1) y (by simpa using hy);rw[<-this];congr 1;omega) λy hy=>hl y (fM _ hy)
   have hx:=hl x iB;have hd:(assignEach (.Name x p::r) X.env)=(false,assign (.Name x p) X.env)::assignEach r X.env:=rfl;refine⟨?_,by rw[hd,dc,b];rfl,?_⟩
   . rw[dc,List.range'_succ]
     exact Dr (vQ (i:=j) kG (by simpa using hN 0 x rfl) (.inl hx) (.inr hx)) a
   . rw[hd,List.findIdx?_cons,c];rfl
theorem DO{H:Hp}{Q:L2.St->Hp->Prop}:∀(vs:LV) (pre vs0 cv:List (Option V)),vs0.length=vs.length->Q (pre++(vs.map some++cv)) H->lu (List.range' pre.length vs.length) vs (pre++(vs0++cv)) H Q
 | [],pre,vs0,cv,h,q=>by
  have:vs0= []:=List.eq_nil_of_length_eq_zero h;subst this;exact⟨rfl,q⟩
 |v::vs,pre,vs0,cv,h,q=>by
  cases vs0 with
  |nil=>cases h
  |cons o r=>
   rw[dc,List.range'_succ];refine⟨v,vs,rfl,?_⟩;show lu _ vs ((pre++(o::r++cv)).set pre.length (some v)) H Q;have e:(pre++(o::r++cv)).set pre.length (some v)=(pre++ [some v])++(r++cv):=by simp
   rw[e];have:=DO (H:=H) (Q:=Q) vs (pre++ [some v]) r cv (by simpa using h) (by simpa using q)
   simpa using this
def wM(tup:Bool)(tg:Expr)(nm:ay):Prop:=match tup,tg with
 |false,.Name x _=>nm= [x]
 |true,.Tuple es _ _=>mx es=some nm
 |_,_=>False
noncomputable def pF (tup:Bool)(n:Nat):RV->Option (LR):=match tup with
 |true=>MS n
 |false=>MT
theorem Rc{elt iter tg:Expr}{nm:ay}{tup md:Bool}{scope:Scope}{pos:Pos}{ti:fP}{tt:c9}{te:aw}{ifs:aT}(caps:List (Nat×Str)){osc:Scope}{oN:ay}(htg:wM tup tg nm)
 (hc:X.calm=true) (hi:gG X tg iter ti)
 (hif:∀cl C s H fp,qB (cL X scope cl C (nm++caps.map Prod.snd) s H fp) ifs tt)
 (hel:∀cl C s H fp,ai (cL X scope cl C (nm++caps.map Prod.snd) s H fp) elt te)
 (hX:X.env.scope=osc) (hN:X.N=oN)
 (fF:∀p∈caps,oN[p.1]? =some p.2/\scope.names.lookup p.2=some .free/\(osc.names.lookup p.2=some .cell∨osc.names.lookup p.2=some .free))
 (iR:∀y∈scope.names,y.2= .free->(osc.names.lookup y.1=some .cell∨osc.names.lookup y.1=some .free))
 (bA:∀y∈scope.names,y.2≠.cell) (bD:scope.kind= .function) (cq:∀y∈scope.names,y.2= .local->scope.names.lookup y.1=some .local) (hx:∀x∈nm,scope.names.lookup x=some .local) (kG:(nm++caps.map Prod.snd).Nodup)
 (hs:∀v,foldedSetIterable iter X.env v=pure v) {pos':Pos} {pins:aF} {s:Shared} {σ0:L2.St} {H:Hp} {Q0:VK} (I:Inv X pins σ0 H s) (hw:up X.K (wm (pF tup nm.length) md ti (caps.map Prod.fst) tt te) σ0 H Q0) {use:Option (Value->Sem Unit)} {PP:aP}
 (fin:∀(D C:Addr) (s5:Shared) (m5:aU) (H5:Hp),s5.heap.Ns C m5->(∀h',Heap.SameBut C s5.heap h'->Inv X pins σ0 H5 { s5 with heap:=h' })->Q0 (.ref D) H5->H5 C=none->C≠X.env.locals->X.s₀.heap.objs.size<=C->(∀y c,X.env.cells.lookup y=some c->c≠C)->(∀p∈X.pn++pins,p.1≠C)->compPost (model X.prog X.w) X.A X.xe use PP (.ref D) C (.ok .next) s5):
 wpAny (model X.prog X.w) X.A (comprehension (.ListComp elt [⟨tg,iter,ifs,0⟩] scope pos) scope X.env pos' (newList []) false (eval iter X.env) use) PP X.xe s:=by
 refine Qa (bd:=pF tup nm.length) (md:=md) (nm:=nm) caps hc hi hif hel hX hN fF iR bA bD cq (λr bs e=>?_) (λcl C s2 H2 fp pins' s6 vs0 cv H6 rv xv u bs Q1 hl I6 r6 rr6 eb hQ=>?_) hs I hw fin
 . cases tup with
   |false=>
    cases tg<;>first|(exact False.elim htg)|skip
    have htg:nm=_:=htg;subst htg;cases e;rfl
   |true=>
    cases r<;>first|(cases(show none=some bs from e))|skip
    rename_i xs;have e':(if xs.length=nm.length then some xs else none)=some bs:=e
    split at e'
    . rename_i hh;cases e';exact hh
    . cases e'
 . have hls:∀x∈nm,(cL X scope cl C (nm++caps.map Prod.snd) s2 H2 fp).env.scope.names.lookup x=some .local:=λx h=>lookup_relabel_local (hx x h)
   cases tup with
   |false=>
    cases tg<;>first|(exact False.elim htg)|skip
    rename_i x px;have htg:nm=_:=htg;subst htg;cases eb;obtain⟨v0,rfl⟩:=List.length_eq_one_iff.mp hl;have hx0:=hls x (by simp)
    refine aB (vQ (X:=cL X scope cl C (x::caps.map Prod.snd) s2 H2 fp) (i:=0) kG rfl (.inl hx0) (.inr hx0) _ s6 _ H6 xv u (λσ' H'=>σ'=(some xv::cv)/\H'=H6) I6 r6 ⟨rfl,rfl⟩) λ_ s7 h7=>?_
    obtain⟨σ7,H7,I7,q7,q7'⟩:=h7;subst q7 q7';exact hQ [xv] s7 (ae.cons rr6 ae.nil) I7
   |true=>
    cases tg<;>first|(exact False.elim htg)|skip
    rename_i es tk tp;have htg:mx es=some nm:=htg;cases rv<;>first|(cases(show none=some bs from eb))|skip
    rename_i xs;have e':(if xs.length=nm.length then some xs else none)=some bs:=eb
    split at e'
    . rename_i hh;cases e'
      simp only[Rep]at rr6;obtain⟨pa,pvs,rfl,sq6,rp6⟩:=rr6;have hlen:pvs.length=nm.length:=by rw[<-rp6.length];exact hh
      obtain⟨g1,g2,g3⟩:=Dw (X:=cL X scope cl C (nm++caps.map Prod.snd) s2 H2 fp) (es:=es) (xs:=nm) es nm 0 htg kG (λi x e=>by
       show(nm++caps.map Prod.snd)[0+i]? =some x;rw[fx,pN (hU.mp e).1];exact e) hls
      have pg:PG (cL X scope cl C (nm++caps.map Prod.snd) s2 H2 fp) (.Tuple es tk tp) (JP X.K nm.length (lu (List.range' 0 nm.length))):=Eu (n:=nm.length) hc g1 g2 g3;refine aB (pg _ s6 _ H6 _ u (λσ' H'=>σ'=(pvs.map some++cv)/\H'=H6) I6 r6 ⟨pa,pvs,rfl,bI.of sq6,hlen,?_⟩) λ_ s7 h7=>?_
      . have:=DO (H:=H6) (Q:=λσ' H'=>σ'=(pvs.map some++cv)/\H'=H6) pvs [] vs0 cv (by rw[hlen];exact hl) ⟨rfl,rfl⟩
        rw[hlen]at this;exact this
      . obtain⟨σ7,H7,I7,q7,q7'⟩:=h7
        subst q7 q7';exact hQ pvs s7 rp6 I7
    . cases e'
end
noncomputable def fm:RV->Option Key
 | .int i=>some (.inl i)
 | .str x=>some (.inr x)
 |_=>none
noncomputable def d7 {α:Type}(kvs:List (Key×α))(k:Key):Option α:=(kvs.find? λp=>decide (p.1=k)).map (·.2)
theorem qa{K:ag}{H:Hp}{a:RV}{x:V}{k:Key}(e:fm a=some k)(r:Rep K H a x):x=kV k:=by
 cases a with
 |int i=>cases e;simp only[Rep]at r;exact r
 |str y=>cases e;simp only[Rep]at r;exact r
 |_=>cases e
theorem vE{K:ag}{H:Hp}{k:Key}:∀{kvs:bO} {ws:List (Key×V)},aJ K H kvs ws->(∀r,d7 kvs k=some r->∃v,fj ws k=some v/\Rep K H r v)/\(d7 kvs k=none->fj ws k=none)
 | [],ws,h=>by
  have h:ws= []:=h;subst h;exact⟨λr e=>(by cases e),λ_=>rfl⟩
 |(j,x)::t,ws,h=>by
  obtain⟨v,u,rfl,h1,h2⟩:=h;have ih:=vE (k:=k) h2;unfold d7;rw[iC]
  by_cases hj:j=k
  . rw[mY (show(j,x).1=k from hj)]
    refine⟨λr e=>⟨v,sC (p:=(j,v)) hj,?_⟩,λe=>(by cases e)⟩
    cases e;exact h1
  . rw[fv (show ¬(j,x).1=k from hj)]
    refine⟨λr e=>?_,λe=>?_⟩
    . rw[oM (p:=(j,v)) hj];exact ih.1 r e
    . rw[oM (p:=(j,v)) hj];exact ih.2 e
structure KTab(P:Program)(w:World)(K:ag)(mg:aU)(x:Str)(kvs:bO):Prop where
 ex:∃(a:Addr) (vs:List (Key×Value)) (ws:List (Key×V)),mg x=some (.ref a)/\(a==sysModules)=false/\(∀h:Heap,K.In h->h.DictOf (cH P w) a vs)/\KV ws vs/\∀H,aJ K H kvs ws
noncomputable def tq (w:World):List DictEntry->List (Str×Value)->Prop
 | [],[]=>True
 |e::es,(x,v)::r=>(∃t,e.key= .str x t)/\e.hash=hashStr w x/\e.val=v/\tq w es r
 |_,_=>False
theorem Ci{P:Program}{w:World}:∀{es:List DictEntry} {vs:List (Str×Value)},tq w es vs->
 (∀e∈es,∃k,(cH P w).is k e.key=true/\e.hash=(cH P w).hash k)/\Pairs (cH P w) es (vs.map λp=>((Sum.inr p.1:Key),p.2))
 | [],[],_=>⟨λ_ h=>(by cases h),Pairs.nil⟩
 |e::es,(x,v)::r,h=>by
  obtain⟨⟨t,h1⟩,h2,h3,h4⟩:=h;obtain⟨ih1,ih2⟩:=Ci (P:=P) (w:=w) h4;have hi:(cH P w).is (.inr x) e.key=true:=by rw[h1];exact Ck P w x t
  refine⟨λe' he=>?_,?_⟩
  . rcases cM.mp he with rfl|he
    . exact⟨.inr x,hi,h2⟩
    . exact ih1 e' he
  . subst h3
    exact Pairs.cons hi rfl ih2
theorem C7:∀{l:ay},l.Nodup->(l.map (Sum.inr:Str->Key)).Nodup
 | [],_=>List.nodup_nil
 |a::r,h=>by
  obtain⟨h1,h2⟩:=lD.mp h;rw[cK];refine lD.mpr ⟨λm=>?_,C7 h2⟩
  obtain⟨b,hb,e⟩:=dH.mp m;cases e;exact h1 hb
theorem DQ{P:Program}{w:World}{K:ag}{mg:aU}{x:Str}{a:Addr}{es:Array DictEntry}{ep:Nat}{sl:Array (bU)}{vs:List (Str×Value)}{kvs:bO}{ws:List (Key×V)}
 (hm:mg x=some (.ref a)) (l:K.lookup a=some ⟨.type "dict",none,.dict es ep,sl⟩) (ha:(a==sysModules)=false) (hr:tq w es.toList vs) (hn:(vs.map Prod.fst).Nodup)
 (hsl:Obj.ExactDict ⟨.type "dict",none,.dict es ep,sl⟩) (hk:KV ws (vs.map λp=>((Sum.inr p.1:Key),p.2))) (hp:∀H,aJ K H kvs ws):KTab P w K mg x kvs:=by
 obtain⟨h1,h2⟩:=Ci (P:=P) hr;refine⟨a,_,ws,hm,ha,λh X=>⟨_,es,ep,X _ _ l,hsl,rfl,λe he=>h1 e (by simpa using he),h2,?_⟩,hk,hp⟩
 have:(vs.map λp=>((Sum.inr p.1:Key),p.2)).map (·.1)=(vs.map Prod.fst).map Sum.inr:=by simp[iA,Function.comp_def]
 rw[this];exact C7 hn
section
variable {X:Cx}
noncomputable def wQ (kvs:bO)(te:aw):aw:=λσ M Q=>te σ M λk M1=>match fm k with
 |some key=>(match d7 kvs key with|some v=>Q v M1|none=>False)
 |none=>False
theorem Mq{x:Str}{kvs:bO}{e:Expr}{te:aw}{p pos:Pos}(T:KTab X.prog X.w X.K X.mg x kvs)(he:ai X e te)(hs:xr e:=by intro _ _;rfl)(hg:Gl X x:=by rfl)(hd:(x==("__debug__":Str))=false:=by decide):
 ai X (.Subscript (.Name x p) e pos) (wQ kvs te):=by
 obtain⟨a,vs,ws,hm,ha,hD,hk,hr⟩:=T.ex;intro pins s σ0 H Q0 I h;obtain⟨σ,M,Q,hs',hv,ht,hq⟩:=h;refine DI PySem.F.slot_dict_getitem.lookup hs (js I hg hm (aB (he pins s σ0 H (λv H1=>∃r M1,Rep X.K H1 r v/\Ext H H1/\View X.K H1 M1/\(match fm r with
  |some key=>(match d7 kvs key with|some v=>Q v M1|none=>False)
  |none=>False)) I ⟨σ,M,_,hs',hv,ht,λr M1 v H1 q e w r1=>⟨r,M1,r1,e,w,q⟩⟩) λiv s2 ⟨y,H2,I2,ry,r,M2,rr,e2,w2,q2⟩=>?_) hd)
 have dd:=hD _ I2.bW;refine⟨dd.typeIs,?_⟩;cases ek:fm r with
 |none=>rw[ek]at q2;exact q2.elim
 |some key=>
  rw[ek]at q2;simp only at q2;cases el:d7 kvs key with
  |none=>rw[el]at q2;exact q2.elim
  |some rv=>
   rw[el]at q2;simp only at q2;obtain⟨v,e1,r1⟩:=(vE (k:=key) (hr H2)).1 rv el;have:=qa ek rr;subst this;obtain⟨w',hw,rw'⟩:=bG.some_of (v:=v) (o:=valueAt vs key) (by rw[<-e1];exact hk.val key)
   exact wpAny_getItem_of (i4 ry) dd.mapOf hw ⟨v,H2,I2.tok _,rw',hq rv M2 v H2 q2 e2 w2 r1⟩
theorem OH{K:ag}{H:Hp}{kvs:bO}{ws:List (Key×V)}{vs:List (Key×Value)}{key:Key}(hk:KV ws vs)(hr:aJ K H kvs ws):(valueAt vs key).isSome=(d7 kvs key).isSome:=by
 rw[<-(hk.val key).bc];cases el:d7 kvs key with
 |none=>rw[(vE (k:=key) hr).2 el];rfl
 |some rv=>obtain⟨v,e1,_⟩:=(vE (k:=key) hr).1 rv el;rw[e1];rfl
noncomputable def drop (M:RM)(p:Addr):RM:=λb=>if b=p then none else M b
noncomputable def uB (l:List (Str×Int)):bO:=l.map λp=>((Sum.inr p.1:Key),RV.int p.2)
noncomputable def AG (l:List (Str×Int)):List (Key×V):=l.map λp=>((Sum.inr p.1:Key),V.int p.2)
theorem E2{K:ag}{H:Hp}:∀l:List (Str×Int),aJ K H (uB l) (AG l)
 | []=>rfl
 |p::r=>⟨V.int p.2,AG r,rfl,by simp only[Rep],E2 r⟩
end
theorem Wr{P:Program}{w:World}{K:ag}{mg:aU}{base:Heap}{x qual:Str}{st:Stmt}{f:Addr}{fd:FuncData}{N ps:ay}{k:Nat}{sp:bE}{t:bY}(F:m7 K x qual st f fd)(S:kN N ps (bK st))
 (len:∀rs M Q,sp rs M Q->rs.length=ps.length)
 (term:∀(cdv:Value),fd.code=cdv->∀(A:Around) (outer:List Env) (s:Shared) (H:Hp) (E:XK),aI k (A.deeper (envOfC qual (bK st) s.heap.objs.size f cdv))->gU (gh eG P w K mg base N qual (bK st) f cdv A outer s H E).cg (fh st) t)
 (body:∀rs M Q,sp rs M Q->t { nx:=λ_ M'=>Q .au M',rt:=Q } (fQ N rs) M):bQ P w K mg base eG (k+1) f fd ps (eV K sp):=by
 refine F.ok S (λvs H Q0 E h=>?_) λcdv hcd A outer s H vs Q0 E hr h=>?_
 . obtain⟨rs,M,Q,rr,hv,hq,hk⟩:=h
   rw[<-rr.length];exact len rs M Q hq
 . obtain⟨rs,M,Q,rr,hv,hq,hk⟩:=h
   refine⟨_,term cdv hcd A outer s H E hr,fQ N rs,M,{ nx:=λ_ M'=>Q .au M',rt:=Q },CF rr,hv,body rs M Q hq,⟨λσ M' σ0 H' q e w r=>hk .au M' .au H' q e w (by simp only[Rep]),hk,λ_ _ _ _ z=>z.elim,λ_ _ _ _ z=>z.elim⟩⟩
theorem U2:bootBuiltins "len" =some (.builtin "len"):=by decide+kernel
theorem Cc:bootBuiltins "isinstance" =some (.builtin "isinstance"):=by decide+kernel
theorem Vg:bootBuiltins "ord" =some (.builtin "ord"):=by decide+kernel
theorem U4:bootBuiltins "all" =some (.builtin "all"):=by decide+kernel
theorem Rk:bootBuiltins "tuple" =some (.type "tuple"):=by decide+kernel
theorem S9:bootBuiltins "list" =some (.type "list"):=by decide+kernel
theorem U3:bootBuiltins "int" =some (.type "int"):=by decide+kernel
theorem Ta:bootBuiltins "bool" =some (.type "bool"):=by decide+kernel
theorem Vf:bootBuiltins "str" =some (.type "str"):=by decide+kernel
section
variable {X:Cx}{pos:Pos}
theorem RG(hm:X.mg "int" =none)(hg:Gl X "int":=by rfl):ai X (.Name "int" pos) (rC (.ty "int")):=qq hm U3 (v:=.ty "int") rfl (λH=>by simp only[Rep]) hg
theorem PM(hm:X.mg "bool" =none)(hg:Gl X "bool":=by rfl):ai X (.Name "bool" pos) (rC (.ty "bool")):=qq hm Ta (v:=.ty "bool") rfl (λH=>by simp only[Rep]) hg
theorem RF(hm:X.mg "str" =none)(hg:Gl X "str":=by rfl):ai X (.Name "str" pos) (rC (.ty "str")):=qq hm Vf (v:=.ty "str") rfl (λH=>by simp only[Rep]) hg
theorem O0(hm:X.mg "tuple" =none)(hg:Gl X "tuple":=by rfl):ai X (.Name "tuple" pos) (rC (.ty "tuple")):=qq hm Rk (v:=.ty "tuple") rfl (λH=>by simp only[Rep]) hg
theorem PL(hm:X.mg "list" =none)(hg:Gl X "list":=by rfl):ai X (.Name "list" pos) (rC (.ty "list")):=qq hm S9 (v:=.ty "list") rfl (λH=>by simp only[Rep]) hg
def xu(mg:aU)(x:Str)(i:Int):Prop:=∃t,mg x=some (.int i t)
theorem Xn{x:Str}{i:Int}(h:xu X.mg x i)(hg:Gl X x:=by rfl)(hd:(x==("__debug__":Str))=false:=by decide):ai X (.Name x pos) (rC (.int i)):=by
 obtain⟨t,hm⟩:=h;exact zx hm (v:=.int i) ⟨t,rfl⟩ (λH=>by simp only[Rep]) hg hd
def tN(K:ag)(a:Addr)(ss:ay):Prop:=∃(o:Obj) (its:Array Value) (n:Nat),K.lookup a=some o/\o.cls= .type "tuple"/\o.data= .seq its n/\its.size<=sizeLine/\Vals (ss.map V.str) its.toList
def pH(K:ag)(mg:aU)(x:Str)(ss:ay):Prop:=∃a,mg x=some (.ref a)/\tN K a ss
def Kl(K:ag)(ss:ay):aw:=λ_ M Q=>∀p,tN K p ss->Q (.ref p) M
theorem Kt{x:Str}{ss:ay}(h:pH X.K X.mg x ss)(hg:Gl X x:=by rfl)(hd:(x==("__debug__":Str))=false:=by decide):ai X (.Name x pos) (Kl X.K ss):=by
 obtain⟨a,hm,hr⟩:=h;refine PE.imp (zx (r:=.ref a) hm (v:=.ref a) rfl (λH=>by simp only[Rep]) hg hd) λσ0 H Q0 h=>?_
 obtain⟨σ,M,Q,hs,hv,ht,hk⟩:=h;exact⟨σ,M,Q,hs,hv,ht a hr,hk⟩
end
theorem R4{K:ag}{mg:aU}{x:Str}{a:Addr}{ss:ay}{its:Array Value}{n:Nat}{d:Option Addr}{sl:Array (bU)}(hm:mg x=some (.ref a))(l:K.lookup a=some ⟨.type "tuple",d,.seq its n,sl⟩)(hz:its.size<=sizeLine)
 (hv:Vals (ss.map V.str) its.toList):pH K mg x ss:=⟨a,hm,_,its,n,l,rfl,rfl,hz,hv⟩
theorem UZ{K:ag}{sp:bE}{H:Hp}{a:Addr}{ns:List Int}(hO:xq H)(hS:bM K H a (ns.map V.int))(h:sp [.ls (ns.map RV.int)] (λ_=>none) (λv _=>v= .bl true)):eV K sp [.ref a] H (λv _=>v= .bl true) (λ_ _ _=>False):=by
 have hr:∀l:List Int,ae K H (l.map RV.int) (l.map V.int):=λl=>by
  induction l with
  |nil=>exact ae.nil
  |cons s r ih=>exact ae.cons (by simp only[Rep]) ih
 have hf:Fz K H a (ns.map V.int):=by
  rcases hS with(e|⟨o,e⟩)|e
  . rcases hO a with z|⟨o,xs,z⟩
    . rw[e]at z;cases z
    . rw[e]at z;cases z
  . exact .inl ⟨o,e⟩
  . exact .inr e
 refine⟨[.ls (ns.map RV.int)],λ_=>none,λv _=>v= .bl true,ae.cons (by simp only[Rep];exact⟨a,_,rfl,hf,hr ns⟩) ae.nil,λ_ _ z=>(by cases z),h,λrv M' v H' q _ _ r=>?_⟩
 have q':rv= .bl true:=q;subst q';simpa only[Rep]using r
structure v9(N:ay)(sc:Scope):Prop where
 nd:N.Nodup
 loc:∀x∈N,sc.names.lookup x=some .local∨sc.names.lookup x=some .cell
 kD:∀x∈N,(x==("__debug__":Str))=false/\(x==("__classdict__":Str))=false
section
variable {X:Cx}{x:Str}{pos pos':Pos}
structure KR(X:Cx):Prop where
 lz:∀x∈X.N,pS X.env.scope x
 kD:∀x∈X.N,(x==("__debug__":Str))=false/\(x==("__classdict__":Str))=false
theorem K1{scope:Scope}{cl:List (Str×Addr)}{C:Addr}{Nc:ay}{s:Shared}{H:Hp}{fp:List Addr}(h:scope.names.lookup x=some .globalImplicit):Gl (cL X scope cl C Nc s H fp) x:=by
 show(scope.names.map (fL X.env)).lookup x=_;rw[uL];rw[uM]at h;cases e:scope.names.find? λp=>x==p.1 with
 |none=>rw[e]at h;cases h
 |some p=>
  rw[e]at h;have h':p.2= .globalImplicit:=de h;show some (fL X.env p).2=_;rcases yU X.env p with z|z
  . rw[z,h']
  . rw[h']at z;cases z.2
end
noncomputable def zv (w:World):List DictEntry->List (Str×Int)->Prop
 | [],[]=>True
 |e::es,(x,i)::r=>(∃t,e.key= .str x t)/\e.hash=hashStr w x/\(∃t,e.val= .int i t)/\zv w es r
 |_,_=>False
theorem EG{w:World}:∀{es:List DictEntry} {l:List (Str×Int)},zv w es l->∃vs:List (Str×Value),tq w es vs/\vs.map Prod.fst=l.map Prod.fst/\KV (AG l) (vs.map λp=>((Sum.inr p.1:Key),p.2))
 | [],[],_=>⟨[],trivial,rfl,.nil⟩
 |e::es,(x,i)::r,h=>by
  obtain⟨h1,h2,⟨t,h3⟩,h4⟩:=h;obtain⟨vs,a,b,c⟩:=EG h4;exact⟨(x,.int i t)::vs,⟨h1,h2,h3,a⟩,by simp[b],.cons ⟨rfl,t,rfl⟩ c⟩
theorem Qx{P:Program}{w:World}{K:ag}{mg:aU}{x:Str}{a:Addr}{es:Array DictEntry}{ep:Nat}{l:List (Str×Int)}
 (hm:mg x=some (.ref a)) (lk:K.lookup a=some ⟨.type "dict",none,.dict es ep,#[]⟩) (ha:(a==sysModules)=false) (hr:zv w es.toList l) (hn:(l.map Prod.fst).Nodup):KTab P w K mg x (uB l):=by
 obtain⟨vs,h1,h2,h3⟩:=EG hr;exact DQ hm lk ha h1 (by rw[h2];exact hn) ⟨rfl,rfl,rfl⟩ h3 λH=>E2 l
theorem D8{h:Heap}{e:Value->Bool}{p:RV->Bool}:∀{xs:LR} {us:ao},aA h xs us->(∀x∈xs,∀u,Den h x u->e u=p x)->us.any e=xs.any p
 | [],us,d,_=>by simp only[aA]at d;subst d;rfl
 |x::xs,us,d,k=>by
  simp only[aA]at d;obtain⟨u,r,rfl,d1,d2⟩:=d;rw[mZ,mZ,k x iB u d1,D8 d2 λy hy=>k y (fM _ hy)]
theorem D4{h:Heap}:∀{xs:LR} {us:ao},aA h xs us->∀u∈us,∃x∈xs,Den h x u
 | [],us,d,u,hu=>by simp only[aA]at d;subst d;cases hu
 |x::xs,us,d,u,hu=>by
  simp only[aA]at d;obtain⟨w,r,rfl,d1,d2⟩:=d;rcases cM.mp hu with rfl|hu
  . exact⟨x,iB,d1⟩
  . obtain⟨y,hy,dy⟩:=D4 d2 u hu
    exact⟨y,fM _ hy,dy⟩
open Classical in
noncomputable def lX (h:Heap)(a:RV)(w:Value):Bool:=if q:∃r,aG 15 r=true/\Den h r w then bw (choose q) a else false
theorem Es{h:Heap}{a x:RV}{u:Value}(o:aG 15 x=true)(d:Den h x u):lX h a u=bw x a:=by
 have q:∃r,aG 15 r=true/\Den h r u:=⟨x,o,d⟩;unfold lX;rw[dif_pos q];have e:=y9 15 _ x u (Classical.choose_spec q).1 o (Classical.choose_spec q).2 d;rw[e]
noncomputable def inR (x:RV)(xs:LR):Bool:=xs.any λy=>bw y x
noncomputable def wX (neg:Bool):bV:=λx y M Q=>match y with
 | .tup xs=>aG 15 x=true/\xs.all (aG 15)=true/\Q (.bl (if neg then !inR x xs else inR x xs)) M
 | .ls xs=>aG 15 x=true/\xs.all (aG 15)=true/\Q (.bl (if neg then !inR x xs else inR x xs)) M
 |_=>False
section
variable {X:Cx}
theorem sA{s:Shared}{A:Around}{xs:LR}{its:ao}{a:RV}{v:Value}(hu:A.units+15<cLine)(os:xs.all (aG 15)=true)(oa:aG 15 a=true)(d:aA s.heap xs its)(da:Den s.heap a v):
 (∀w,w∈its.toArray->SeqAt.EqAt A s w v (lX s.heap a w))/\its.toArray.any (lX s.heap a)=inR a xs:=by
 have os':∀x∈xs,aG 15 x=true:=by simpa[gk]using os
 refine⟨λw hw=>?_,?_⟩
 . obtain⟨x,hx,dx⟩:=D4 d w (by simpa using hw)
   rw[Es (os' x hx) dx];exact yS 15 x a A s w v (os' x hx) oa dx da hu
 . rw[show its.toArray.any (lX s.heap a)=its.any (lX s.heap a) by simp]
   exact D8 d λx hx u du=>Es (os' x hx) du
theorem wK{xs:LR}(os:xs.all (aG 15)=true):aG 16 (.tup xs)=true/\aG 16 (.ls xs)=true:=⟨os,os⟩
theorem Ll(hu:X.A.units+64<cLine):ck X (compareOp .In) (wX false):=by
 intro pins s σ H x y v u Q0 I rx ry h;obtain⟨a,b,M,Q,ra,rb,hv,hq,hk⟩:=h;cases b with
 |tup xs=>
  obtain⟨oa,os,hq⟩:=hq;have d:=iV I 16 (.tup xs) y u (wK os).1 rb ry;simp only[Den]at d;obtain⟨p,its,rfl,ht,ds⟩:=d;have z:=sA (A:=X.A.in1) (by rw[in1_units];omega) os oa ds (iV I 15 a x v oa ra rx)
  refine SeqAt.in_tupleAt _ ht z.1 ⟨.bl (inR a xs),H,I,by rw[z.2];rfl,hk _ M _ H hq (.refl H) hv (by simp only[Rep];rfl)⟩
 |ls xs=>
  obtain⟨oa,os,hq⟩:=hq;have d:=iV I 16 (.ls xs) y u (wK os).2 rb ry;simp only[Den]at d;obtain⟨p,its,rfl,ht,ds⟩:=d;have z:=sA (A:=X.A.in1) (by rw[in1_units];omega) os oa ds (iV I 15 a x v oa ra rx)
  refine SeqAt.in_listAt _ ht z.1 ⟨.bl (inR a xs),H,I,by rw[z.2];rfl,hk _ M _ H hq (.refl H) hv (by simp only[Rep];rfl)⟩
 |_=>exact(show False from hq).elim
theorem UP(hu:X.A.units+64<cLine):ck X (compareOp .NotIn) (wX true):=by
 intro pins s σ H x y v u Q0 I rx ry h;obtain⟨a,b,M,Q,ra,rb,hv,hq,hk⟩:=h;cases b with
 |tup xs=>
  obtain⟨oa,os,hq⟩:=hq;have d:=iV I 16 (.tup xs) y u (wK os).1 rb ry;simp only[Den]at d;obtain⟨p,its,rfl,ht,ds⟩:=d;have z:=sA (A:=X.A.in1) (by rw[in1_units];omega) os oa ds (iV I 15 a x v oa ra rx)
  refine SeqAt.notIn_tupleAt _ ht z.1 ⟨.bl (!inR a xs),H,I,by rw[z.2];rfl,hk _ M _ H hq (.refl H) hv (by simp only[Rep];rfl)⟩
 |ls xs=>
  obtain⟨oa,os,hq⟩:=hq;have d:=iV I 16 (.ls xs) y u (wK os).2 rb ry;simp only[Den]at d;obtain⟨p,its,rfl,ht,ds⟩:=d;have z:=sA (A:=X.A.in1) (by rw[in1_units];omega) os oa ds (iV I 15 a x v oa ra rx)
  refine SeqAt.notIn_listAt _ ht z.1 ⟨.bl (!inR a xs),H,I,by rw[z.2];rfl,hk _ M _ H hq (.refl H) hv (by simp only[Rep];rfl)⟩
 |_=>exact(show False from hq).elim
def Kg:LR->RM->aq->Prop:=λrs M Q=>match rs with
 | [.str x]=>x.length=1/\Q (.int (x.cps.getD 0 0:Nat)) M
 |_=>False
theorem Nq:cV X (.builtin "ord") (eE X.K Kg):=by
 intro pins s σ H xs us Q0 I rl h;obtain⟨rs,M,Q,rr,hv,hq,hk⟩:=h
 match rs,hq with
 | [.str x],hq=>
  obtain⟨hl,hq⟩:=hq;simp only[ae,Rep]at rr;obtain⟨v,r,rfl,rfl,rfl⟩:=rr;exact Ri pins s σ H _ us Q0 I rl ⟨x,rfl,hl,hk _ M _ H hq (.refl H) hv (by simp only[Rep])⟩
noncomputable def wW (K:ag)(neg:Bool):bV:=λx y M Q=>match y with
 | .ref p=>∃ss,tN K p ss/\aG 15 x=true/\Q (.bl (if neg then !inR x (ss.map RV.str)else inR x (ss.map RV.str))) M
 |_=>False
theorem CS{h:Heap}:∀{ss:ay} {its:ao},Vals (ss.map V.str) its->aA h (ss.map RV.str) its
 | [],_,r=>by rw[tY]at r;cases r;simp only[tY,aA]
 |s::ss,_,r=>by
  rw[cK]at r;cases r with
  |cons a t=>rw[cK];simp only[aA,Den];exact⟨_,_,rfl,a,CS t⟩
theorem ES{pins:aF}{s:Shared}{σ:L2.St}{H:Hp}(hu:X.A.units+64<cLine)(I:Inv X pins σ H s){a:RV}{x:V}{v:Value}{p:Addr}{ss:ay}(hp:tN X.K p ss)(oa:aG 15 a=true)(ra:Rep X.K H a x)(rx:RelV x v):
 ∃its:ao,IsTup s.heap p its.toArray/\(∀w,w∈its.toArray->SeqAt.EqAt X.A.in1 s w v (lX s.heap a w))/\its.toArray.any (lX s.heap a)=inR a (ss.map RV.str):=by
 obtain⟨its,hvs,ht,_⟩:=I.tuple (a:=p) (xs:=ss.map V.str) (.inr hp);have os:(ss.map RV.str).all (aG 15)=true:=by simp[gk,aG]
 have z:=sA (A:=X.A.in1) (by rw[in1_units];omega) os oa (CS hvs) (iV I 15 a x v oa ra rx)
 exact⟨its,ht,z.1,z.2⟩
theorem M7(hu:X.A.units+64<cLine):ck X (compareOp .In) (wW X.K false):=by
 intro pins s σ H x y v u Q0 I rx ry h;obtain⟨a,b,M,Q,ra,rb,hv,hq,hk⟩:=h;cases b with
 |ref p=>
  obtain⟨ss,hp,oa,hq⟩:=hq;simp only[Rep]at rb;subst rb;cases(show u=Value.ref p from ry)
  obtain⟨its,ht,z1,z2⟩:=ES hu I hp oa ra rx;exact SeqAt.in_tupleAt _ ht z1 ⟨.bl (inR a (ss.map RV.str)),H,I,by rw[z2];rfl,hk _ M _ H hq (.refl H) hv (by simp only[Rep];rfl)⟩
 |_=>exact(show False from hq).elim
theorem Sz(hu:X.A.units+64<cLine):ck X (compareOp .NotIn) (wW X.K true):=by
 intro pins s σ H x y v u Q0 I rx ry h;obtain⟨a,b,M,Q,ra,rb,hv,hq,hk⟩:=h;cases b with
 |ref p=>
  obtain⟨ss,hp,oa,hq⟩:=hq;simp only[Rep]at rb;subst rb;cases(show u=Value.ref p from ry)
  obtain⟨its,ht,z1,z2⟩:=ES hu I hp oa ra rx;exact SeqAt.notIn_tupleAt _ ht z1 ⟨.bl (!inR a (ss.map RV.str)),H,I,by rw[z2];rfl,hk _ M _ H hq (.refl H) hv (by simp only[Rep];rfl)⟩
 |_=>exact(show False from hq).elim
noncomputable def qv (neg:Bool)(ss:ay)(ty:aw):aw:=λσ M Q=>ty σ M λx M1=>aG 15 x=true/\Q (.bl (if neg then !inR x (ss.map RV.str)else inR x (ss.map RV.str))) M1
def JI:LR->RM->aq->Prop:=λrs M Q=>∃bs:List Bool,rs= [.ls (bs.map RV.bl)]/\Q (.bl (bs.all id)) M
theorem DB{K:ag}{H:Hp}:∀{bs:List Bool} {vs:LV},ae K H (bs.map RV.bl) vs->vs=bs.map V.bl
 | [],vs,h=>by simpa only[tY,ae]using h
 |b::bs,vs,h=>by
  simp only[cK,ae,Rep]at h;obtain⟨v,r,rfl,rfl,h2⟩:=h;rw[DB h2];rfl
theorem DG:∀{bs:List Bool} {us:ao},Vals (bs.map V.bl) us->us=bs.map Value.bool
 | [],us,h=>by cases h;rfl
 |b::bs,us,h=>by
  obtain⟨u,r,rfl,h1,h2⟩:=Vals.cons_inv h;cases h1;rw[DG h2];rfl
theorem range_all(bs:List Bool):(List.range bs.length).all (λi=>bs.getD i true)=bs.all id:=by
 induction bs with
 |nil=>rfl
 |cons b bs ih=>
  rw[dc,List.range_succ_eq_map,eF,List.all_map,eF];have:((λi=>(b::bs).getD i true) ∘ Nat.succ)=λi=>bs.getD i true:=by funext i;rfl
  rw[this,ih];rfl
theorem Rj(hc:X.calm=true):cV X (.builtin "all") (eE X.K JI):=by
 intro pins s σ H xs us Q0 I rl h;obtain⟨rs,M,Q,rr,hv,⟨bs,rfl,hq⟩,hk⟩:=h;obtain⟨v,rfl,r1⟩:=rr.one;simp only[Rep]at r1;obtain⟨a,vs,rfl,h1,h2⟩:=r1;have:=DB h2;subst this;obtain⟨u,rfl,ru⟩:=rl.one;cases ru;obtain⟨its,rv,p,hz⟩:=I.list h1.sq;have:=DG rv;subst this;have hlt:a<s.heap.objs.size:=by obtain⟨o,n,e,_⟩:=p;exact bB e
 refine call_all_walk (wpAny_pyIter_list p.isList ?_);have hd:X.A.in1.handled=none:=I.ok.hd hc;refine⟨s.heap.objs.size,_,_,_,_,_,λi=>bs.getD i true,rfl,Walks.list hd s.heap.objs.size a (cx hlt) (bs.map Value.bool).toArray,⟨⟨_,dz _ rfl,rfl,rfl⟩,p.isList.push _⟩,?_,?_⟩
 . intro i v s' Q' E' hP hQ'
   have hP':(bs.map Value.bool)[i]? =some v:=by simpa using hP
   rw[fy]at hP';cases e:bs[i]? with
   |none=>rw[e]at hP';cases hP'
   |some b=>
    rw[e]at hP';have hb:bs.getD i true=b:=by rw[List.getD_eq_getElem?_getD,e];rfl
    cases hP';have hQ2:Q' (bs.getD i true) s':=hQ';rw[hb]at hQ2;exact jG hQ2
 . intro h' tk hk'
   have I1:Inv X pins σ H { s with heap:=s.heap.push { cls:=.type "list_iterator",data:=.fields #[.ref a,.int 0 0] } }:=I.kept (t':=s.toks) λb o e=>bS _ e
   obtain⟨f0,f1,f2,f3,f4,f5⟩:=I.fE (ba _) (I.ar.fresh (ba _));have I2:Inv X pins σ H { s with heap:=h',toks:=tk }:=by
    have z:=I1.turned (h':=h') (t':=tk) (it:=s.heap.objs.size) (λb o hb e=>hk' b o (by simpa using hb) e) f0 f1 f3 f4 f5
    exact z
   refine⟨.bl (bs.all id),H,I2,?_,hk _ M _ H hq (.refl H) hv (by simp only[Rep])⟩
   show _=_;rw[<-range_all];simp
noncomputable def ue (x:Str):It:=⟨λi _=>i<x.cps.size,λi H v H'=>H'=H/\∃c,x.cps[i]? =some c/\v= .str ⟨#[c]⟩,λi _=>x.cps.size<=i⟩
noncomputable def kX (x:Str):LR:=x.cps.toList.map λc=>.str ⟨#[c]⟩
theorem Dc{P:Program}{w:World}{K:ag}{tg:Expr}(it:Addr)(n:String)(x:Str)(t:Tok)
 (hn:["enumerate","zip","dict_itemiterator","dict_reverseitemiterator","odict_iterator","itertools.zip_longest","itertools.pairwise"].contains n=false)
 (W:∀A:Around,A.handled=none->Walks P w A it [it] [it] x.cps.size (SignAt x) (λi h=>h.IsStrIter it n x t i))
 (hend:∀(A:Around) (i:Nat) (s:Shared) (Q:bU->Shared->Prop) (E:aP),A.handled=none->s.heap.IsStrIter it n x t i->x.cps.size<=i->(∀h',(∀b o,b≠it->s.heap.get? b=some o->h'.get? b=some o)->Q none { s with heap:=h' })->wpAny (model P w) A (pyNext (.ref it)) Q E s)
 (hself:∀(A:Around) (i:Nat) (s:Shared) (Q:aP) (E:aP),s.heap.IsStrIter it n x t i->Q (.ref it) s->wpAny (model P w) A (pyIter (.ref it)) Q E s):
 Turn P w K tg (ue x) [it] it (λi h=>h.IsStrIter it n x t i) where
 mem:=by simp
 obj:=λi h st b hb=>by
  have e:b=it:=by simpa using hb
  subst e;obtain⟨o,e,c,d⟩:=st;exact⟨o,e,λv z=>by rw[d]at z;cases z⟩
 keep:=λi h h' st k=>by
  obtain⟨o,e,r⟩:=st;exact⟨o,k it (by simp) o e,r⟩
 item:=by
  intro X hP hw hK hc i pins s σ H E I hf st hg;subst hP hw hK;obtain⟨f0,f1,f2,f3,f4,f5⟩:=hf it (by simp)
  refine(W X.A (I.ok.hd hc)).item i s _ _ hg st λv h' tk hv st' kk=>?_
  obtain⟨c,u,hcu,rfl⟩:=hv;have I1:Inv X pins σ H { s with heap:=h',toks:=tk }:=I.turned (λb o hb e=>kk b o (by simpa using hb) e) f0 f1 f3 f4 f5
  obtain⟨o,e,hcl,hd⟩:=id st';exact⟨_,rfl,sZ (s:={ s with heap:=h',toks:=tk }) (n:=n) e hcl hd hn ⟨.str ⟨#[c]⟩,H,I1,⟨u,rfl⟩,⟨rfl,c,hcu,rfl⟩,st',λb hb=>(hf b hb).1⟩⟩
 done:=by
  intro X hP hw hK hc i pins s σ H E I hf st hg;subst hP hw hK;obtain⟨f0,f1,f2,f3,f4,f5⟩:=hf it (by simp)
  exact hend X.A i s _ _ (I.ok.hd hc) st hg λh' eb=>⟨rfl,I.turned (t':=s.toks) (λb o hb e=>eb b o hb e) f0 f1 f3 f4 f5⟩
 self:=hself
theorem EI{H0 Hs:Hp}{K:ag}{H1:Hp}(x:Str)(es:Ext Hs H1):fW H0 Hs K (ue x) (kX x) cu id H1 where
 turn:=λi H M e _ _ r hr=>by
  have hi:i<x.cps.size:=by have:=(hU.mp hr).1;simpa[kX]using this
  refine⟨hi,λv' H' y=>?_⟩
  obtain⟨rfl,c,hcx,rfl⟩:=y;refine⟨.refl _,λ_ w=>w,?_⟩
  have:r= .str ⟨#[c]⟩:=by
   have h2:x.cps.toList[i]? =some c:=by simpa using hcx
   simp only[kX,fy,h2,Option.map_some,t7]at hr;exact hr.symm
  subst this;simp only[Rep]
 stop:=λi H M e _ _ hi=>by
  have:(kX x).length=x.cps.size:=by simp[kX]
  rw[this]at hi;exact hi
 bH:=jt es
def JA(te:aw):fP:=λσ M Q=>te σ M λv M1=>match v with| .str x=>Q (kX x) cu id M1|_=>False
theorem Nj{tg:Expr}{l:Expr}{te:aw}(hl:ai X l te):gG X tg l (JA te):=by
 intro pins s σ0 H R I h;obtain⟨σ,M,Q,hs,hv,ht,hk⟩:=h;refine aB (hl pins s σ0 H (λv H1=>∃x M1,v= .str x/\Q (kX x) cu id M1/\Ext H H1/\View X.K H1 M1) I ⟨σ,M,_,hs,hv,ht,λrv M1 v H1 q e1 v1 r1=>?_⟩) λv s1 ⟨xv,H1,I1,r1,q1⟩=>?_
 . cases rv with
   |str x=>simp only[Rep]at r1;exact⟨x,M1,r1,q,e1,v1⟩
   |_=>exact(show False from q).elim
 . obtain⟨x,M1,rfl,q,e1,v1⟩:=q1
   obtain⟨t,rfl⟩:=r1;have hf:∀b∈[s1.heap.objs.size],jb X pins H1 b:=λb hb=>by
    have e:b=s1.heap.objs.size:=by simpa using hb
    subst e;exact I1.fE (ba _) (I1.ar.fresh (ba _))
   cases ha:x.cps.all (. < 128)
   . refine wpAny_pyIter_wide ha ?_
     exact⟨s1.heap.objs.size,[s1.heap.objs.size],_,ue x,H1,rfl,I1.kept (t':=s1.toks) λb o e=>bS _ e,Dc _ "str_iterator" x t ⋯ (λA hA=>Walks.strWide hA _ x t) (λA i s Q E hA st hi hq=>wpAny_pyNext_wide_end hA st (by simp;exact hi) hq) (λA i s Q E st hq=>wpAny_pyIter_striter_wide st hq),⟨_,dz _ rfl,rfl,rfl⟩,hf,hk _ cu id M1 _ H1 q e1 v1 (EI x e1)⟩
   . refine wpAny_pyIter_ascii ha ?_
     exact⟨s1.heap.objs.size,[s1.heap.objs.size],_,ue x,H1,rfl,I1.kept (t':=s1.toks) λb o e=>bS _ e,Dc _ "str_ascii_iterator" x t ⋯ (λA hA=>Walks.strAscii hA _ x t) (λA i s Q E hA st hi hq=>wpAny_pyNext_ascii_end hA st (by simp;exact hi) hq) (λA i s Q E st hq=>wpAny_pyIter_striter_ascii st hq),⟨_,dz _ rfl,rfl,rfl⟩,hf,hk _ cu id M1 _ H1 q e1 v1 (EI x e1)⟩
noncomputable def wY (to:aw)(t:bx):aw:=λσ M Q=>to σ M λx M1=>match x with
 | .ref p=>(∃ys,M1 p=some (.lst ys))/\t σ M1 λrs M2=>∃ys y,rs= [y]/\M2 p=some (.lst ys)/\ys.length<sizeLine/\Q .au (put M2 p (.lst (ys++ [y])))
 |_=>False
theorem RS{o e:Expr}{to:aw}{t:bx}{apos cpos:Pos}(ho:ai X o to)(ha:cw X [e] t)
 (hbase:attributeBase o "append" X.env (eval o X.env)=eval o X.env:=by rfl)
 (hfew:((backTo cpos (starEach [e] X.env)).all (λx=>!x.1)&&(backToKw cpos (keywordEach [] X.env)).all (λx=>x.1.isSome)&&decide ([e].length+([]:List Keyword).length+(if([]:List Keyword).isEmpty then 0 else 1)<30))=true:=by rfl)
 (hline:(apos.endLine==cpos.line)=true:=by rfl) (hs:starEach [e] X.env=(false,eval e X.env)::starEach [] X.env:=by rfl) (hplain:(backTo cpos (starEach [] X.env)).any (·.1)=false:=by rfl):
 ai X (.Call (.Attribute o "append" apos) [e] [] cpos) (wY to t):=PE.imp (V8 PySem.F.plainAttrs_list PySem.F.slot_list_append PySem.F.type_list_append Pz ho ha hbase hfew hline hs hplain) λσ0 H Q0 h=>by
 obtain⟨σ,M,Q,hs,hv,ht,hk⟩:=h;refine⟨σ,M,_,hs,hv,ht,λrx M1 x H1 q e1 v1 r1=>?_⟩
 cases rx with
 |ref p=>
  obtain⟨⟨ys,hm⟩,q⟩:=q;simp only[Rep]at r1;subst r1;obtain⟨ho',e0,r0⟩:=v1 p _ hm;obtain⟨vs0,rfl,rr0⟩:=r0;refine⟨.inl ⟨rfl,_,bM.of e0⟩,σ,M1,_,hs.ext e1,v1,q,λrs M2 vs H2 q2 e2 v2 r2=>?_⟩
  obtain⟨ys2,y,rfl,hm2,hz,q2⟩:=q2;obtain⟨v,rfl,r3⟩:=r2.one;obtain⟨ho2,e3,r4⟩:=v2 p _ hm2;obtain⟨vs2,rfl,rr2⟩:=r4;have ex:Ext H2 (upd H2 p (.lst (vs2++ [v]))):=Ext.write e3 rfl;refine⟨p,vs2,v,rfl,rfl,e3,by rw[<-rr2.length];exact hz,hk _ _ _ _ q2 ((e1.trans e2).trans ex) (v2.write hm2 ⟨_,rfl,?_⟩) (by simp only[Rep])⟩
  exact(ae.ext ex _ _ rr2).append (ae.cons (Rep.ext ex _ _ r3) ae.nil)
 |_=>exact(show False from q).elim
noncomputable def Et (fs:List (Addr×bE))(tx:aw)(t:bx):aw:=λσ M Q=>tx σ M λv M1=>match v with
 | .ref f=>∃sp,(f,sp)∈fs/\t σ M1 λrs M2=>sp rs M2 Q
 |_=>False
theorem Ug{x:Str}{p pos:Pos}{e:Expr}{es:aT}{t:bx}{tx:aw}(fs:List (Addr×bE))
 (hF:∀q∈fs,∃fd ps k,aI k X.A/\PySem.W.keepIn X.K (.ref q.1)=true/\Binds X.K fd ps []/\bQ X.prog X.w X.K X.mg X.base eG k q.1 fd ps (eV X.K q.2)) (hx:ai X (.Name x p) tx) (ha:cw X (e::es) t)
 (he:starEach (e::es) X.env=(false,eval e X.env)::starEach es X.env:=by rfl) (hpl:(backTo pos (starEach es X.env)).any (·.1)=false:=by rfl):ai X (.Call (.Name x p) (e::es) [] pos) (Et fs tx t):=by
 intro pins s σ0 H Q0 I h;obtain⟨σ,M,Q,hs,hv,ht,hk⟩:=h;refine wpAny_Call_Name_kw (aB (hx pins s σ0 H (λv H1=>∃f sp M1,v= .ref f/\(f,sp)∈fs/\Ext H H1/\View X.K H1 M1/\t σ M1 λrs M2=>sp rs M2 Q) I ⟨σ,M,_,hs,hv,ht,λrv M1 v H1 q e1 v1 r1=>?_⟩) λv s1 ⟨y,H1,I1,r1,q1⟩=>?_)
 . cases rv with
   |ref f=>simp only[Rep]at r1;obtain⟨sp,hm,q⟩:=q;exact⟨f,sp,M1,r1,hm,e1,v1,q⟩
   |_=>exact(show False from q).elim
 . obtain⟨f,sp,M1,rfl,hm,e1,v1,q⟩:=q1
   cases r1;obtain⟨fd,ps,k,hr,hkp,hb,F⟩:=hF _ hm;refine tZ (h₀:=X.base) I1.ok.mod.kJ hkp (aB (ha pos pins s1 σ0 H1 (λvs H2=>eV X.K sp (vs++ []) H2 Q0 (λ_ _ _=>False)) I1 ⟨σ,M1,_,hs.ext e1,v1,q,λrs M2 vs H2 q2 e2 v2 r2=>?_⟩) λus s2 ⟨vs,H2,I2,r,q⟩=>⟨I2.bW,?_⟩) he hpl
   . exact⟨rs,M2,Q,by rw[jm];exact r2,v2,q2,hk.ext (e1.trans e2)⟩
   . exact sM F hr hb .nil ph I2 r q
end
theorem Pu{P:Program}{w:World}{es:List DictEntry}{vs:List (Key×Value)}(h:Pairs (cH P w) es vs):Pairs (optKind P w) es (vs.map λp=>(some p.1,p.2)):=by
 induction h with
 |nil=>exact .nil
 |cons a b _ ih=>exact .cons (kv:=(some _,_)) a b ih
theorem Cu:∀{l:List Key},l.Nodup->(l.map some).Nodup
 | [],_=>List.nodup_nil
 |a::r,h=>by
  obtain⟨h1,h2⟩:=lD.mp h;rw[cK];refine lD.mpr ⟨λm=>?_,Cu h2⟩
  obtain⟨b,hb,e⟩:=dH.mp m;cases e;exact h1 hb
theorem Ql{P:Program}{w:World}{h:Heap}{a:Addr}{vs:List (Key×Value)}(d:h.DictOf (cH P w) a vs):h.DictOf (optKind P w) a (vs.map λp=>(some p.1,p.2)):=by
 obtain⟨o,es,ep,h1,h2,h3,h4,h5,h6⟩:=d;refine⟨o,es,ep,h1,h2,h3,λe he=>?_,Pu h5,?_⟩
 . obtain⟨k,q1,q2⟩:=h4 e he
   exact⟨some k,q1,q2⟩
 . rw[iA]
   have:((λx:Option Key×Value=>x.1) ∘ λp:Key×Value=>(some p.1,p.2))=some ∘ λp=>p.1:=rfl
   rw[this,<-iA];exact Cu h6
theorem SE{vs:List (Key×Value)}:valueAt (vs.map λp=>(some p.1,p.2)) (none:Option Key)=none:=by
 unfold valueAt;rw[List.find?_eq_none.mpr]
 . rfl
 . intro x hx
   obtain⟨p,_,rfl⟩:=dH.mp hx;simp
section
variable {X:Cx}
noncomputable def zm (neg:Bool)(kvs:bO)(Q:aq):aq:=λk M1=>match fm k with
 |some key=>Q (.bl (if neg then !(d7 kvs key).isSome else(d7 kvs key).isSome)) M1
 |none=>False
def vJ(kvs:bO)(Q:aq):aq:=λk M1=>match k with
 | .au=>Q (.bl true) M1
 |k=>zm true kvs Q k M1
def yV(kvs:bO)(te:aw):aw:=λσ M Q=>te σ M (vJ kvs Q)
theorem NM{x:Str}{kvs:bO}{e:Expr}{te:aw}{p:Pos}(T:KTab X.prog X.w X.K X.mg x kvs)(he:ai X e te)(hg:Gl X x)(hd:(x==("__debug__":Str))=false):
 PC X .NotIn e (.Name x p) (up X.K (yV kvs te)):=by
 obtain⟨a,vs,ws,hm,ha,hD,hk,hr⟩:=T.ex;intro pins s σ0 H Q0 I h;obtain⟨σ,M,Q,hs',hv,ht,hq⟩:=h;refine aB (he pins s σ0 H (λv H1=>∃r M1,Rep X.K H1 r v/\Ext H H1/\View X.K H1 M1/\vJ kvs Q r M1) I ⟨σ,M,_,hs',hv,ht,λr M1 v H1 q e w r1=>⟨r,M1,r1,e,w,q⟩⟩) λiv s2 zz=>?_;obtain⟨y,H2,I2,ry,r,M2,rr,e2,w2,q2⟩:=zz
 refine js I2 hg hm ?_ hd;have dd:=hD _ I2.bW
 by_cases hn:r= .au
 . subst hn
   have q2:Q (.bl true) M2:=q2;have:y=V.au:=by simpa only[Rep]using rr
   subst this;have:iv=Value.none:=ry;subst this;refine wpAny_notIn_of (knd:=optKind X.prog X.w) (k:=none) rfl ha (Ql dd).mapOf ?_;rw[SE];exact⟨.bl true,H2,I2.tok _,rfl,hq _ M2 _ H2 q2 e2 w2 (by simp only[Rep])⟩
 . have q2:zm true kvs Q r M2:=by
    cases r<;>first|exact q2|exact bp rfl hn
   unfold zm at q2;cases ek:fm r with
   |none=>rw[ek]at q2;exact q2.elim
   |some key=>
    rw[ek]at q2;simp only at q2;have:=qa ek rr;subst this;refine wpAny_notIn_of (i4 ry) ha dd.mapOf ?_;rw[OH hk (hr H2)];exact⟨.bl (!(d7 kvs key).isSome),H2,I2.tok _,rfl,hq _ M2 _ H2 q2 e2 w2 (by simp only[Rep];rfl)⟩
theorem O1{x:Str}{kvs:bO}{e:Expr}{te:aw}{p pos:Pos}(T:KTab X.prog X.w X.K X.mg x kvs)(he:ai X e te)(hg:Gl X x:=by rfl)(hd:(x==("__debug__":Str))=false:=by decide)(h1:behindInMarks .NotIn (Expr.Name x p)=false:=by with_unfolding_all rfl):
 cy X (.Compare e [.NotIn] [.Name x p] pos) (k7 (yV kvs te)):=PT.imp (zp (NM T he hg hd) h1) λσ0 H Q0 h=>by
 obtain⟨σ,M,Q,hs,hv,ht,hk⟩:=h;exact⟨σ,M,_,hs,hv,ht,oU hk⟩
end
theorem yI{K:ag}{H:Hp}{f:Str}:∀{fs:List (Str×RV)} {gs:List (Str×V)} {v:RV},aJ K H fs gs->fs.lookup f=some v->∃u,gs.lookup f=some u/\Rep K H v u
 | [],gs,v,h,e=>by cases e
 |(g,x)::r,gs,v,h,e=>by
  obtain⟨u,t,rfl,h1,h2⟩:=h;rw[lK]at e;cases hb:f==g with
  |true=>rw[hb]at e;cases e;exact⟨u,by rw[lK,hb],h1⟩
  |false=>
   rw[hb]at e;obtain⟨w,e1,r1⟩:=yI h2 e;exact⟨w,by rw[lK,hb];exact e1,r1⟩
theorem sh{K:ag}{H:Hp}{f:Str}:∀{fs:List (Str×RV)} {gs:List (Str×V)},aJ K H fs gs->fs.lookup f=none->gs.lookup f=none
 | [],gs,h,e=>by have h':gs= []:=h;subst h';rfl
 |(g,x)::r,gs,h,e=>by
  obtain⟨u,t,rfl,h1,h2⟩:=h;rw[lK]at e ⊢;cases hb:f==g with
  |true=>rw[hb]at e;cases e
  |false=>rw[hb]at e;exact sh h2 e
noncomputable def jv (f:Str)(v:RV):List (Str×RV)->List (Str×RV)
 | []=>[(f,v)]
 |(g,x)::r=>if g=f then(g,v)::r else(g,x)::jv f v r
theorem yL{K:ag}{H:Hp}{f:Str}{v:RV}{u:V}(hv:Rep K H v u):∀{fs:List (Str×RV)} {gs:List (Str×V)},aJ K H fs gs->aJ K H (jv f v fs) (ez f u gs)
 | [],gs,h=>by have h':gs= []:=h;subst h';exact⟨u,[],rfl,hv,rfl⟩
 |(g,x)::r,gs,h=>by
  obtain⟨w,t,rfl,h1,h2⟩:=h;unfold jv ez
  by_cases e:g=f
  . rw[az e,az e];exact⟨u,t,rfl,hv,h2⟩
  . rw[aj e,aj e];exact⟨w,_,rfl,h1,yL hv h2⟩
theorem gK{κ:Type}{K:ag}{H:Hp}:∀{fs:List (κ×RV)} {gs:List (κ×V)},aJ K H fs gs->fs.length=gs.length
 | [],gs,h=>by have h':gs= []:=h;subst h';rfl
 |(g,x)::r,gs,h=>by
  obtain⟨w,t,rfl,h1,h2⟩:=h;rw[dc,dc,gK h2]
section
variable {X:Cx}{o e value:Expr}{f:Str}{pos pos':Pos}{ta tv:aw}{C:Addr}
noncomputable def L8 (C:Addr)(f:Str)(ta:aw):aw:=λσ M Q=>ta σ M λx M1=>match x with
 | .ref a=>∃fs v,M1 a=some (.ins C fs)/\fs.lookup f=some v/\Q v M1
 |_=>False
theorem Mt(hc:bN X.K C)(hn:bb X.K C f)(he:ai X e ta)(hb:attributeBase e f X.env (eval e X.env)=eval e X.env:=by rfl):ai X (.Attribute e f pos) (L8 C f ta):=PE.imp (Tj he hb) λσ0 H Q0 h=>by
 obtain⟨σ,M,Q,hs,hv,ht,hk⟩:=h;refine⟨σ,M,_,hs,hv,ht,λrx M1 x H1 q e1 v1 r1=>?_⟩
 cases rx with
 |ref a=>
  obtain⟨fs,v,hm,hl,q⟩:=q;simp only[Rep]at r1;subst r1;obtain⟨ho,eo,dx,gs,rfl,hg⟩:=v1 a _ hm;obtain⟨u,hu,ru⟩:=yI hg hl;exact⟨a,C,dx,gs,u,rfl,eo,hc,hn,hu,hk _ M1 _ H1 q e1 v1 ru⟩
 |_=>exact(show False from q).elim
noncomputable def Ww (C:Addr)(f:Str)(ta tv:aw):bY:=λD σ M=>tv σ M λy M1=>ta σ M1 λx M2=>match x with
 | .ref a=>∃fs,M2 a=some (.ins C fs)/\fs.length<1000/\D.nx σ (put M2 a (.ins C (jv f y fs)))
 |_=>False
theorem MM(hc:bN X.K C)(hn:bb X.K C f)(ha:ai X o ta)(hv:ai X value tv)(hs:swapsWith value (some (.Attribute o f pos')) pos.line X.env=pure false:=by rfl):c8 X (.Assign [.Attribute o f pos'] value pos) (Ww C f ta tv):=PS.imp (TH ha hv hs) λD0 σ0 H h=>by
 obtain⟨σ,M,D,hs,hv,ht,hd⟩:=h;refine⟨σ,M,_,hs,hv,ht,λry M1 y H1 q e1 v1 r1=>⟨σ,M1,_,hs.ext e1,v1,q,λrx M2 x H2 q2 e2 v2 r2=>?_⟩⟩
 cases rx with
 |ref a=>
  obtain⟨fs,hm,hl,q2⟩:=q2;simp only[Rep]at r2;subst r2;obtain⟨ho,eo,dx,gs,rfl,hg⟩:=v2 a _ hm;have ex:Ext H2 (upd H2 a (.ins C dx (ez f y gs))):=Ext.write eo rfl;refine⟨a,C,dx,gs,rfl,eo,hc,hn,by rw[<-gK hg];exact hl,hd.nx σ _ _ _ q2 ((e1.trans e2).trans ex) (v2.write hm ⟨dx,_,rfl,?_⟩) (hs.ext ((e1.trans e2).trans ex))⟩
  exact yL (Rep.ext (e2.trans ex) _ _ r1) (hg.ext ex)
 |_=>exact(show False from q2).elim
end
section
variable {K:ag}{H:Hp}{k:Key}{v:RV}{u:V}
theorem Dm{κ:Type}:∀{xs:List (κ×RV)} {ws:List (κ×V)} {ys:List (κ×RV)} {zs:List (κ×V)},aJ K H xs ws->aJ K H ys zs->aJ K H (xs++ys) (ws++zs)
 | [],ws,ys,zs,h,t=>by have h':ws= []:=h;subst h';exact t
 |(j,x)::r,ws,ys,zs,h,t=>by
  obtain⟨w,t',rfl,h1,h2⟩:=h;exact⟨w,_,rfl,h1,Dm h2 t⟩
end
section
variable {X:Cx}{o i value:Expr}{pos pos':Pos}{td ty tv:aw}
def FF:aw:=λ_ M Q=>∀p,M p=none->Q (.ref p) (put M p (.dk []))
theorem Wt:ai X (.Dict [] [] pos) FF:=PE.imp Q4 λσ0 H Q0 h=>by
 obtain⟨σ,M,Q,hs,hv,ht,hk⟩:=h;intro p hp;exact hk _ _ _ _ (ht p (hv.free hp)) (Ext.new hp) (hv.cS hp ⟨[],rfl,rfl⟩) (by simp only[Rep])
def atKey(M:RM)(x y:RV)(P:Addr->bO->Key->Prop):Prop:=match x with
 | .ref a=>(match M a with|some (.dk kvs)=>(match fm y with|some k=>P a kvs k|none=>False)|_=>False)
 |_=>False
end
section
variable {X:Cx}{x m:Str}{p pos apos:Pos}{o e:Expr}{es:aT}{t:bx}{ta:aw}{k:Nat}{ps:ay}{sp:bE}{C g:Addr}{fd:FuncData}
noncomputable def tf (C:Addr)(m:Str)(sp:bE)(ta:aw)(t:bx):aw:=λσ M Q=>ta σ M λx M1=>match x with
 | .ref a=>∃fs,M1 a=some (.ins C fs)/\fs.lookup m=none/\t σ M1 λrs M2=>sp (.ref a::rs) M2 Q
 |_=>False
theorem PB{σ0:L2.St}{H:Hp}{Q0:VK}(h:up X.K (tf C m sp ta t) σ0 H Q0):zC C m (eV X.K sp) [] (λ_ _ _=>False) (up X.K ta) (AB X.K t) σ0 H Q0:=by
 obtain⟨σ,M,Q,hs,hv,ht,hk⟩:=h;refine⟨σ,M,_,hs,hv,ht,λrx M1 x H1 q e1 v1 r1=>?_⟩
 cases rx with
 |ref a=>
  obtain⟨fs,hm,hl,q⟩:=q;simp only[Rep]at r1;subst r1;obtain⟨ho,eo,dx,gs,rfl,hg⟩:=v1 a _ hm;refine⟨a,dx,gs,rfl,eo,sh hg hl,σ,M1,_,hs.ext e1,v1,q,λrs M2 vs H2 q2 e2 v2 r2=>?_⟩
  exact⟨.ref a::rs,M2,Q,by rw[jm];exact ae.cons (by simp only[Rep]) r2,v2,q2,hk.ext (e1.trans e2)⟩
 |_=>exact(show False from q).elim
theorem Wo{pl:Sem Bool}(he:ai X o ta)(c:bN X.K C)(hm:Meth X.K C m g)(F:bQ X.prog X.w X.K X.mg X.base eG k g fd ps (eV X.K sp))(hr:aI k X.A)(hb:Binds X.K fd ps [])(ha:cw X (e::es) t)
 (hst:starEach (e::es) X.env=(false,eval e X.env)::starEach es X.env:=by rfl) (hpl:(backTo pos (starEach es X.env)).any (·.1)=false:=by rfl)
 (ht:eval (.Call (.Attribute o m apos) (e::es) [] pos) X.env=(do
  let ov<-eval o X.env
  standAt apos.atName
  let(f,first) <-holding [ov] (getMethod ov m pl)
  callWith pos f first (backTo pos (starEach (e::es) X.env)) (backToKw pos (keywordEach [] X.env))):=by rfl):
 ai X (.Call (.Attribute o m apos) (e::es) [] pos) (tf C m sp ta t):=PE.imp (D1 he c hm F hr hb .nil ph ha hst hpl ht) λσ0 H Q0 h=>PB h
noncomputable def qm (C:Addr)(sp:bE)(t:bx):aw:=λσ M Q=>t σ M λrs M1=>∀a,M1 a=none->sp (.ref a::rs) (put M1 a (.ins C [])) (λv M2=>v= .au/\Q (.ref a) M2)
theorem Wq{h0:Nat}(Mk1:Mk X.K C g)(F:bQ X.prog X.w X.K X.mg X.base eG k g fd ps (eV X.K sp))(hr:aI (k+1) X.A)(hm:X.mg x=some (.ref C))(hb:Binds X.K fd ps [])(ha:cw X (e::es) t)(hg:Gl X x:=by rfl)(hdb:(x==("__debug__":Str))=false:=by decide)
 (he:starEach (e::es) X.env=(false,eval e X.env)::starEach es X.env:=by rfl) (hpl:(backTo pos (starEach es X.env)).any (·.1)=false:=by rfl):ai X (.Call (.Name x p) (e::es) [] pos) (qm C sp t):=PE.imp (Rx Mk1 F hr hg hm hb .nil ph ha hdb he hpl) λσ0 H Q0 h=>by
 obtain⟨σ,M,Q,hs,hv,ht,hk⟩:=h;refine⟨σ,M,_,hs,hv,ht,λrs M1 vs H1 q e1 v1 r1 a dx na nd ne=>?_⟩
 have ex1:Ext H1 (upd H1 dx (.own a)):=Ext.new nd;have na':(upd H1 dx (.own a)) a=none:=by rw[aK (d9 ne)];exact na
 have ex2:Ext H1 (upd (upd H1 dx (.own a)) a (.ins C dx [])):=ex1.trans (Ext.new na');refine⟨.ref a::rs,put M1 a (.ins C []),_,by rw[jm];exact ae.cons (by simp only[Rep]) (ae.ext ex2 _ _ r1),(v1.new nd).cS na' ⟨dx,[],rfl,rfl⟩,q a (v1.free na),λrv M2 v H2 q2 e2 v2 r2=>?_⟩
 obtain⟨rfl,q2⟩:=q2;simp only[Rep]at r2;exact⟨r2,hk _ M2 _ H2 q2 ((e1.trans ex2).trans e2) v2 (by simp only[Rep])⟩
end
section
variable {X:Cx}{o e f:Expr}{apos cpos:Pos}{td ty tx:aw}
def Wz:LR->RM->aq->Prop:=λrs M Q=>∃a kvs,rs= [.ref a]/\M a=some (.dk kvs)/\Q (.int kvs.length) M
theorem WJ:cV X (.builtin "len") (eE X.K Wz):=by
 intro pins s σ H xs us Q0 I rl h;obtain⟨rs,M,Q,rr,hv,⟨a,kvs,rfl,hm,hq⟩,hk⟩:=h;obtain⟨v,rfl,r1⟩:=rr.one;simp only[Rep]at r1;subst r1;obtain⟨ho,eo,ws,rfl,hg⟩:=hv a _ hm;exact Qh pins s σ H _ us Q0 I rl ⟨a,ws,rfl,eo,hk _ M _ H hq (.refl H) hv (by simp only[Rep];rw[gK hg])⟩
end
section
variable {X:Cx}{m:Str}{p pos apos:Pos}{o a b tg:Expr}{ta t1 t2:aw}{k:Nat}{ps:ay}{sp:bE}{C g:Addr}{fd:FuncData}
theorem T8{pl:Sem Bool}(he:ai X o ta)(c:bN X.K C)(hm:Meth X.K C m g)(F:bQ X.prog X.w X.K X.mg X.base eG k g fd ps (eV X.K sp))(hr:aI k X.A)(hb:Binds X.K fd ps [])
 (ht:eval (.Call (.Attribute o m apos) [] [] pos) X.env=(do
  let ov<-eval o X.env
  standAt apos.atName
  let(f,first) <-holding [ov] (getMethod ov m pl)
  callWith pos f first (backTo pos (starEach [] X.env)) (backToKw pos (keywordEach [] X.env))):=by rfl):
 ai X (.Call (.Attribute o m apos) [] [] pos) (tf C m sp ta jA):=PE.imp (QY he c hm F hr hb .nil ph ht) λσ0 H Q0 h=>by
 obtain⟨σ,M,Q,hs,hv,ht,hk⟩:=h;refine⟨σ,M,_,hs,hv,ht,λrx M1 x H1 q e1 v1 r1=>?_⟩
 cases rx with
 |ref a=>
  obtain⟨fs,hm,hl,q⟩:=q;simp only[Rep]at r1;subst r1;obtain⟨ho,eo,dx,gs,rfl,hg⟩:=v1 a _ hm;exact⟨a,dx,gs,rfl,eo,sh hg hl,[.ref a],M1,Q,ae.cons (by simp only[Rep]) ae.nil,v1,q,hk.ext e1⟩
 |_=>exact(show False from q).elim
noncomputable def kO (lo:Int)(n:Nat):LR:=(List.range n).map λ(i:Nat)=>RV.int (lo+(i:Int))
theorem Cp(lo:Int)(n:Nat):(kO lo n).length=n:=by simp[kO]
theorem Sh{H0 Hs:Hp}{K:ag}{H1:Hp}(lo:Int)(n:Nat)(es:Ext Hs H1):fW H0 Hs K (pQ lo n) (kO lo n) cu id H1 where
 turn:=λi H M e _ _ x hx=>by
  have hi:i<n:=by have:=(hU.mp hx).1;rw[Cp]at this;exact this
  have hx':x= .int (lo+(i:Int)):=by simp[kO,hi]at hx;exact hx.symm
  subst hx';refine⟨hi,λv' H' y=>?_⟩
  obtain⟨rfl,rfl⟩:=y;exact⟨.refl _,λ_ w=>w,by simp only[Rep]⟩
 stop:=λi H M e _ _ hi=>by rw[Cp]at hi;exact hi
 bH:=jt es
noncomputable def wj (Q:LR->(RM->Prop)->(RM->RM)->RM->Prop):LR->RM->Prop:=λrs M=>match rs with
 | [.int i,.int j]=>(-(2 ^ 62)<=i/\i<2 ^ 62/\-(2 ^ 62)<=j/\j<2 ^ 62)/\Q (kO i (j-i).toNat) cu id M
 |_=>False
def Fx(t1 t2:aw):fP:=λσ M Q=>mC t1 (mC t2 jA) σ M (wj Q)
theorem Sl(hm:X.mg "range" =none)(ha:ai X a t1)(hb:ai X b t2)(hgl:Gl X "range":=by rfl)(hst:starEach [a,b] X.env= [(false,eval a X.env),(false,eval b X.env)]:=by rfl)(hs2:starEach [b] X.env= [(false,eval b X.env)]:=by rfl)
 (he1:starEach [a,b] X.env=(false,eval a X.env)::starEach [b] X.env:=by rfl) (he2:starEach [b] X.env=(false,eval b X.env)::starEach [] X.env:=by rfl):gG X tg (.Call (.Name "range" p) [a,b] [] pos) (Fx t1 t2):=
 PI.imp (Pr hgl hm (kZ ha (kZ hb pG he2) he1) hst hs2) λσ0 H R h=>by
 obtain⟨σ,M,Q,hs,hv,ht,hk⟩:=h;refine⟨σ,M,wj Q,hs,hv,ht,λrs M1 vs H1 q e1 v1 r1=>?_⟩
 unfold wj at q;split at q
 . rename_i i j
   obtain⟨q1,q⟩:=q;simp only[ae,Rep]at r1;obtain⟨v,r,rfl,rfl,v',r',rfl,rfl,rfl⟩:=r1;exact⟨i,j,rfl,q1,hk _ cu id M1 _ H1 q e1 v1 (Sh _ _ e1)⟩
 . exact q.elim
end
section
variable {prog:Program}{w:World}{A:Around}{E:aP}{s:Shared}
theorem Dj:∀{vs:ao} {ns:List Int},vs.length=ns.length->(∀(j:Nat) v,vs[j]? =some v->∃t,v= .int (ns.getD j 0) t)->IntsAre vs ns
 | [],[],_,_=>.nil
 |v::vs,n::ns,hl,h=>by
  obtain⟨t,e⟩:=h 0 v rfl;have e:v= .int n t:=e;subst e;exact .cons _ _ (Dj (by simpa using hl) λj u hu=>h (j+1) u (by simpa using hu))
theorem Om{d:Addr}{kvs:List (Key×Value)}{ns:List Int}{Q:aP}(hh:A.handled=none)(hd:s.heap.DictOf (cH prog w) d kvs)(lo:(d==sysModules)=false)(hk:kvs.map (·.1)=ns.map Sum.inl)(h64:ns.length<64)
 (h:∀(B:Addr) (h':Heap) (tk e:Nat) (vs':ao) (ns':List Int),(∀b o,s.heap.get? b=some o->h'.get? b=some o)->s.heap.get? B=none->h'.get? B=some { cls:=.type "list",data:=.seq vs'.toArray e }->IntsAre vs' ns'->ns'.Perm ns->ns'.Pairwise (. <= ·)->Q (.ref B) { s with heap:=h',toks:=tk }):
 wpAny (model prog w) A (call (.builtin "sorted") [.ref d]) Q E s:=by
 have hlk:kvs.length=ns.length:=by have:=congrArg List.length hk;simpa using this
 obtain⟨o,es,ep,g1,g2,g3,g4,g5,g6⟩:=id hd;have hat:s.heap.DictAt (cH prog w) d kvs ep:=⟨o,es,g1,g2,g3,g4,g5,g6⟩;refine Calls.call_function_entry kind_sorted plain_sorted entry_sorted (args_sorted1 (.ref d)) ?_;unfold Builtin.«sorted»;refine ak (m:=checkCount "sorted" 1 1 _) (aR ?_);refine ak (PySem.W.kdu_collect (A:=A.in1) (PySem.W.kdl_dict (knd:=cH prog w) (kvs:=kvs) (ep:=ep) lo) hh hat (by rw[hlk];exact c6 (m4 h64) ⋯) λg tk acc kp hacc=>?_)
 have hl:acc.toList.length=ns.length:=by rw[Array.length_toList,hacc.1,hlk]
 have hI:IntsAre acc.toList ns:=Dj hl λj v e=>by
  obtain⟨k,x,hx,hki⟩:=hacc.2 j v (by rw[<-Array.getElem?_toList];exact e)
  have e2:(kvs.map (·.1))[j]? =some k:=by rw[fy,hx];rfl
  rw[hk,fy]at e2;cases q:ns[j]? with
  |none=>rw[q]at e2;cases e2
  |some m=>
   rw[q]at e2;have e3:(Sum.inl m:Key)=k:=de e2;subst e3;obtain⟨t,rfl⟩:=Value.isInt_shape (show Value.isInt m v=true from hki)
   refine⟨t,?_⟩;rw[List.getD_eq_getElem?_getD,q];rfl
 refine ak (wpAny_newList ?_ (by rw[hl];exact c6 (m4 h64) ⋯))
 have hoL:(g.push { cls:=.type "list",data:=.seq acc.toList.toArray }).get? g.objs.size=some (seqObj "list" acc.toList.toArray 0):=dz _ rfl;refine ak (jh (jl PyProof.Rows.slot_list_sort ⟨_,hoL,rfl⟩ PyProof.Rows.entry_list_sort (list_sort_tree (s:={ s with heap:=g.push { cls:=.type "list",data:=.seq acc.toList.toArray },toks:=tk }) hoL hI (by rw[hl];exact h64) λout ns' a1 a2 a3=>⟨_,rfl,?_⟩) (args_list_sort _)))
 obtain⟨e,he⟩:=sortedHeap_at (out:=out) hoL;refine aR ⟨_,rfl,h g.objs.size _ tk e out.toList ns' (λb o' q=>?_) ?_ (by rw[Array.toArray_toList];exact he) a1 a2 a3⟩
 . have q1:=kp b o' q
   have q2:b<g.objs.size:=bB q1;rw[sortedHeap_old (cx q2) (by rw[size_push'];exact xG q2)]
   exact bS _ q1
 . cases q:s.heap.get? g.objs.size with
   |none=>rfl
   |some u=>exact bp (bB (kp _ u q)) (lN _)
end
theorem Px{P:Program}{w:World}{H:Hp}{h:Heap}{a:Addr}{o:HO}(x:aH P w H h a o):∃u,h.get? a=some u:=by
 cases o with
 |lst xs=>obtain⟨_,_,_,_,e⟩:=x;exact⟨_,e⟩
 |tup xs=>obtain⟨_,_,_,o,e,_⟩:=x;exact⟨o,e⟩
 |dK kvs=>obtain⟨_,_,_,_,o,_,_,e,_⟩:=x;exact⟨_,e⟩
 |dT kvs=>obtain⟨_,_,_,_,o,_,_,e,_⟩:=x;exact⟨_,e⟩
 |set S n=>obtain⟨o,_,_,_,e,_⟩:=x;exact⟨_,e⟩
 |ins C dx fs=>obtain⟨_,_,_,e,_⟩:=x;exact⟨_,e⟩
 |own y=>obtain⟨_,e⟩:=x;exact⟨_,e⟩
 |xd fs=>obtain⟨_,⟨_,_,_,e,_⟩,_⟩:=x;exact⟨_,e⟩
 |tS lo hi=>obtain⟨_,_,_,e⟩:=x;exact⟨_,e⟩
 |aZ ob u=>obtain⟨e,_⟩:=x;exact⟨_,e⟩
 |jD ps=>exact⟨_,(show h.get? a=some _ from x)⟩
 |met f y=>exact⟨_,(show h.get? a=some _ from x)⟩
 |ext φ=>obtain⟨_,⟨_,e⟩,_⟩:=x;exact⟨_,e⟩
section
variable {X:Cx}{pins:aF}{σ:L2.St}{H:Hp}{s:Shared}{h':Heap}{a:Addr}{o:HO}
theorem none_of(I:Inv X pins σ H s)(hn:s.heap.get? a=none):H a=none:=by
 cases q:H a with
 |none=>rfl
 |some u=>
  obtain⟨v,e⟩:=Px (I.ar a u q);rw[hn]at e;cases e
theorem FY{t':Nat}(I:Inv X pins σ H s)(k:∀b u,s.heap.get? b=some u->h'.get? b=some u)(hg:s.heap.get? a=none)(new:aH X.prog X.w (upd H a o) h' a o):Inv X pins σ (upd H a o) { s with heap:=h',toks:=t' }:=by
 have hn:=none_of I hg;have ne:∀b u,s.heap.get? b=some u->b≠a:=λb u e z=>by rw[z,hg]at e;cases e
 refine I.un ⟨λb u q _ _ _=>k b u q,λb u q _ _ _=>⟨u.slots,k b u q⟩,λb u q n _=>by rw[aK (ne b u q)];exact n,λb u q _=>⟨u,k b u q⟩,λb xs q=>by rw[aK (eJ q hn)];exact q,λb u xs q=>by rw[aK (eJ q hn)];exact q,λb ps q=>⟨#[],by rw[aK (eJ q hn),q];simp⟩⟩ λb u e=>?_
 by_cases hb:b=a
 . subst hb;rw[d6]at e;cases e;exact new
 . rw[aK hb]at e
   exact(I.ar b u e).cY (λc v _ q=>k c v q) (λc q=>by rw[aK (eJ q hn)];exact q) λc xs q=>by rw[aK (eJ q hn)];exact q
end
theorem r8:∀{vs:ao} {ns:List Int},IntsAre vs ns->Vals (ns.map V.int) vs
 |_,_,.nil=>.nil
 |_,_,.cons _ t r=>.cons ⟨t,rfl⟩ (r8 r)
theorem CI{K:ag}{H:Hp}:∀(ns:List Int),ae K H (ns.map RV.int) (ns.map V.int)
 | []=>ae.nil
 |n::r=>ae.cons (by simp only[Rep]) (CI r)
theorem C0{κ:Type}{K:ag}{H:Hp}:∀{kvs:List (κ×RV)} {ws:List (κ×V)},aJ K H kvs ws->kvs.map (·.1)=ws.map (·.1)
 | [],ws,h=>by have h':ws= []:=h;subst h';rfl
 |(j,x)::r,ws,h=>by
  obtain⟨w,t,rfl,h1,h2⟩:=h;rw[cK,cK,C0 h2]
theorem DP{κ:Type}:∀{ws:List (κ×V)} {vs:List (κ×Value)},KV ws vs->ws.map (·.1)=vs.map (·.1)
 |_,_,.nil=>rfl
 |_,_,.cons r t=>by rw[cK,cK,r.1,DP t]
section
variable {X:Cx}
noncomputable def E4:LR->RM->aq->Prop:=λrs M Q=>∃a kvs ns,rs= [.ref a]/\M a=some (.dk kvs)/\kvs.map (·.1)=ns.map Sum.inl/\ns.length<64/\∀ns':List Int,ns'.Perm ns->ns'.Pairwise (. <= ·)->Q (.ls (ns'.map RV.int)) M
theorem Qm(hc:X.calm=true):cV X (.builtin "sorted") (eE X.K E4):=by
 intro pins s σ H xs us Q0 I rl h;obtain⟨rs,M,Q,rr,hv,hq,hk⟩:=h;obtain⟨a,kvs,ns,rfl,hm,hkk,h64,hq⟩:=hq;simp only[ae,Rep]at rr;obtain⟨v,r,rfl,rfl,rfl⟩:=rr;obtain⟨u,rfl,ru⟩:=vals1 rl;cases ru;obtain⟨ho,eo,ws,rfl,hg⟩:=hv a _ hm;obtain⟨hz,hS,vs,r,m⟩:ws.length<=sizeLine/\(a==sysModules)=false/\∃vs,KV ws vs/\s.heap.DictOf (cH X.prog X.w) a vs:=I.ar a _ eo;refine Om (I.ok.hd hc) m hS (by rw[<-DP r,<-C0 hg];exact hkk) h64 λB h' tk e vs' ns' kp hB hget hI hp ho=>?_
 have hn:=none_of I hB;have hl:ns'.length<=sizeLine:=by rw[hp.length_eq];exact c6 (m4 h64) ⋯
 refine frozen ⟨.ref B,upd H B (.lst (ns'.map V.int)),FY I kp hB ⟨by rw[cb];exact hl,vs',e,r8 hI,hget⟩,rfl,H,B,_,rfl,hn,rfl,λo=>?_⟩
 exact hk _ M _ _ (hq ns' hp ho) (Ext.new hn) (hv.new hn) (oY hn (CI ns'))
def Fw:LR->RM->aq->Prop:=λrs M Q=>match rs with
 | [.int i,.int j]=>Q (.int (if j > i then j else i)) M
 |_=>False
theorem MQ(hc:X.calm=true):cV X (.builtin "max") (eE X.K Fw):=by
 intro pins s σ H xs us Q0 I rl h;obtain⟨rs,M,Q,rr,hv,hq,hk⟩:=h
 match rs,hq with
 | [.int i,.int j],hq=>
  simp only[ae,Rep]at rr;obtain⟨v,r,rfl,rfl,v',r',rfl,rfl,rfl⟩:=rr;exact Qg hc pins s σ H _ us Q0 I rl ⟨i,j,rfl,hk _ M _ H hq (.refl H) hv (by simp only[Rep])⟩
def Fv:LR->RM->aq->Prop:=λrs M Q=>match rs with
 | [.int i,.int j]=>Q (.int (if j<i then j else i)) M
 |_=>False
theorem MP(hc:X.calm=true):cV X (.builtin "min") (eE X.K Fv):=by
 intro pins s σ H xs us Q0 I rl h;obtain⟨rs,M,Q,rr,hv,hq,hk⟩:=h
 match rs,hq with
 | [.int i,.int j],hq=>
  simp only[ae,Rep]at rr;obtain⟨v,r,rfl,rfl,v',r',rfl,rfl,rfl⟩:=rr;exact Qf hc pins s σ H _ us Q0 I rl ⟨i,j,rfl,hk _ M _ H hq (.refl H) hv (by simp only[Rep])⟩
end
open PySem.W
section
variable {X:Cx}{pins:aF}{σ:L2.St}{H:Hp}{s:Shared}
noncomputable def et (M:RM):RV->RV
 | .ref a=>(match M a with|some (.lst xs)=>.ls xs|_=>.ref a)
 |x=>x
theorem Eg(I:Inv X pins σ H s){n:Nat}:∀{rs:LR} {vs:LV} {us:ao},rs.all (aG n)=true->ae X.K H rs vs->Vals vs us->aA s.heap rs us
 | [],vs,us,_,r,w=>by
  have e:vs= []:=by simpa only[ae]using r
  subst e;cases w;simp only[aA]
 |x::rs,vs,us,o,r,w=>by
  rw[eF,bh]at o;simp only[ae]at r;obtain⟨v,vs',rfl,r1,r2⟩:=r;obtain⟨u,us',rfl,w1,w2⟩:=Vals.cons_inv w;simp only[aA];exact⟨u,us',rfl,iV I n x v u o.1 r1 w1,Eg I o.2 r2 w2⟩
theorem vK(I:Inv X pins σ H s){M:RM}(hv:View X.K H M){a:RV}{x:V}{v:Value}(o:aG 16 (et M a)=true)(ra:Rep X.K H a x)(rx:RelV x v):Den s.heap (et M a) v:=by
 cases a with
 |ref p=>
  cases q:M p with
  |none=>rw[show et M (.ref p)= .ref p by simp only[et,q]]at o;cases o
  |some ob=>
   cases ob with
   |lst xs=>
    have e:et M (.ref p)= .ls xs:=by simp only[et,q]
    rw[e]at o ⊢;simp only[Rep]at ra;subst ra;cases rx;obtain⟨ho,e0,vs,rfl,hr⟩:=hv p _ q;obtain⟨its,rv,pl,hz⟩:=I.list (bM.of e0);simp only[Den];exact⟨p,its,rfl,pl.isList,Eg I (n:=15) o hr rv⟩
   |_=>rw[show et M (.ref p)= .ref p by simp only[et,q]]at o;cases o
 |_=>exact iV I 16 _ x v o ra rx
def JG:bV:=λx y M Q=>aG 16 (et M x)=true/\aG 16 (et M y)=true/\Q (.bl (bw (et M x) (et M y))) M
def Kj:bV:=λx y M Q=>aG 16 (et M x)=true/\aG 16 (et M y)=true/\Q (.bl (!bw (et M x) (et M y))) M
theorem Na(hu:X.A.units+64<cLine):ck X (compareOp .Eq) JG:=by
 intro pins s σ H x y v u Q0 I rx ry h;obtain⟨a,b,M,Q,ra,rb,hv,⟨o1,o2,hq⟩,hk⟩:=h;exact PQ 15 _ _ X.A s v u o1 o2 (vK I hv o1 ra rx) (vK I hv o2 rb ry) ∅ _ _ _ _ ⟨.bl _,H,I,rfl,hk _ M _ H hq (.refl H) hv (by simp only[Rep])⟩
theorem Mc(hu:X.A.units+64<cLine):ck X (compareOp .NotEq) Kj:=by
 intro pins s σ H x y v u Q0 I rx ry h;obtain⟨a,b,M,Q,ra,rb,hv,⟨o1,o2,hq⟩,hk⟩:=h;exact OK 15 _ _ X.A s v u o1 o2 (vK I hv o1 ra rx) (vK I hv o2 rb ry) ∅ _ _ _ _ ⟨.bl _,H,I,rfl,hk _ M _ H hq (.refl H) hv (by simp only[Rep])⟩
end
section
variable {X:Cx}
noncomputable def K2 (Q:aq):LR->RM->Prop:=λrs M=>match rs with
 | [.int i,.int j]=>(-1000000<=i/\i<=1000000/\-1000000<=j/\j<=1000000)/\(j-i).toNat<=1000/\Q (.ls (kO i (j-i).toNat)) M
 |_=>False
end
structure qS(P:Program)(w:World)(K:ag)(mg:aU)(base:Heap)(C:Addr)(k:Nat)(m:Str)(ps:ay)(sp:bE):Prop where
 ex:∃(g:Addr) (fd:FuncData),Meth K C m g/\Binds K fd ps []/\bQ P w K mg base eG k g fd ps (eV K sp)
structure xV(P:Program)(w:World)(K:ag)(mg:aU)(base:Heap)(C:Addr)(k:Nat)(ps:ay)(sp:bE):Prop where
 ex:∃(g:Addr) (fd:FuncData),Mk K C g/\Binds K fd ps []/\bQ P w K mg base eG k g fd ps (eV K sp)
section
variable {X:Cx}{x m:Str}{p pos apos:Pos}{o e:Expr}{es:aT}{t:bx}{ta:aw}{k:Nat}{ps:ay}{sp:bE}{C:Addr}
theorem T7{pl:Sem Bool}(F:qS X.prog X.w X.K X.mg X.base C k m ps sp)(c:bN X.K C)(hr:aI k X.A)(he:ai X o ta)(ha:cw X (e::es) t)
 (hst:starEach (e::es) X.env=(false,eval e X.env)::starEach es X.env:=by rfl) (hpl:(backTo pos (starEach es X.env)).any (·.1)=false:=by rfl)
 (ht:eval (.Call (.Attribute o m apos) (e::es) [] pos) X.env=(do
  let ov<-eval o X.env
  standAt apos.atName
  let(f,first) <-holding [ov] (getMethod ov m pl)
  callWith pos f first (backTo pos (starEach (e::es) X.env)) (backToKw pos (keywordEach [] X.env))):=by rfl):
 ai X (.Call (.Attribute o m apos) (e::es) [] pos) (tf C m sp ta t):=by
 obtain⟨g,fd,hm,hb,F⟩:=F.ex;exact Wo he c hm F hr hb ha hst hpl ht
theorem RN{pl:Sem Bool}(F:qS X.prog X.w X.K X.mg X.base C k m ps sp)(c:bN X.K C)(hr:aI k X.A)(he:ai X o ta)
 (ht:eval (.Call (.Attribute o m apos) [] [] pos) X.env=(do
  let ov<-eval o X.env
  standAt apos.atName
  let(f,first) <-holding [ov] (getMethod ov m pl)
  callWith pos f first (backTo pos (starEach [] X.env)) (backToKw pos (keywordEach [] X.env))):=by rfl):
 ai X (.Call (.Attribute o m apos) [] [] pos) (tf C m sp ta jA):=by
 obtain⟨g,fd,hm,hb,F⟩:=F.ex;exact T8 he c hm F hr hb ht
theorem T9(F:xV X.prog X.w X.K X.mg X.base C k ps sp)(hr:aI (k+1) X.A)(hm:X.mg x=some (.ref C))(ha:cw X (e::es) t)(hg:Gl X x:=by rfl)(hdb:(x==("__debug__":Str))=false:=by decide)
 (he:starEach (e::es) X.env=(false,eval e X.env)::starEach es X.env:=by rfl) (hpl:(backTo pos (starEach es X.env)).any (·.1)=false:=by rfl):ai X (.Call (.Name x p) (e::es) [] pos) (qm C sp t):=by
 obtain⟨g,fd,hM,hb,F⟩:=F.ex;exact Wq (h0:=0) hM F hr hm hb ha hg hdb he hpl
end
section
variable {X:Cx}
noncomputable def Fy:LR->RM->aq->Prop:=λrs M Q=>match rs with
 | [.ref a,.ty T']=>T'= "list"/\(match M a with|some (.lst _)=>Q (.bl true) M|_=>False)
 |_=>False
theorem Pe:cV X (.builtin "isinstance") (eE X.K Fy):=by
 intro pins s σ H xs us Q0 I rl h;obtain⟨rs,M,Q,rr,hv,hq,hk⟩:=h;unfold Fy at hq;split at hq
 . rename_i a T'
   obtain⟨rfl,hq⟩:=hq;obtain⟨v,w,rfl,r1,r2⟩:=rr.two;obtain⟨u,u',rfl,w1,w2⟩:=vals2 rl;simp only[Rep]at r1 r2;subst r1;subst r2;obtain rfl:u'=Value.type "list":=w2;cases(show u=Value.ref a from w1)
   split at hq
   . rename_i ys em
     obtain⟨ho,e,r⟩:=hv a _ em;obtain⟨vs,rfl,hr⟩:=r;obtain⟨its,_,pt,_⟩:=I.list (bM.of e);obtain⟨o,h1,h2,_⟩:=pt.isList;exact lE PySem.W.kitx_list I.bW ⟨o,h1,h2⟩ (Cj X.K) (λz=>nomatch z) λtk=>⟨.bl true,H,I.tok tk,rfl,hk _ M _ H hq (.refl H) hv (by simp only[Rep])⟩
   . exact hq.elim
 . exact hq.elim
end
abbrev TK:=List (Option Key)
noncomputable def zY:RV->Option (Option Key)
 | .au=>some none
 | .int i=>some (some (.inl i))
 | .str x=>some (some (.inr x))
 |_=>none
noncomputable def ly:LR->Option TK
 | []=>some []
 |r::rs=>match zY r,ly rs with
  |some k,some ks=>some (k::ks)
  |_,_=>none
noncomputable def fV:RV->Option TK
 | .tup rs=>ly rs
 |_=>none
noncomputable def jw (kvs:List (TK×Str))(k:TK):RV:=match kvs.find? λp=>decide (p.1=k)with
 |some p=>.str p.2
 |none=>.au
noncomputable def tM:List (TK×Str)->List (TK×Addr×Value)->Prop
 | [],[]=>True
 |(k,y)::r,(k',_,v)::r'=>k=k'/\(∃t,v= .str y t)/\tM r r'
 |_,_=>False
theorem CJ{k:TK}:∀{kvs:List (TK×Str)} {xs:List (TK×Addr×Value)},tM kvs xs->
 (∃y t,jw kvs k= .str y/\((PySem.atKey xs k).map (·.2)).getD .none= .str y t)∨(jw kvs k= .au/\((PySem.atKey xs k).map (·.2)).getD .none= .none)
 | [],[],_=>.inr ⟨rfl,rfl⟩
 |(k1,y)::r,(k',a,v)::r',⟨e,⟨t,ev⟩,h⟩=>by
  subst e;subst ev
  by_cases q:k1=k
  . subst q
    exact .inl ⟨y,t,by simp[jw],by simp[PySem.atKey]⟩
  . have e1:jw ((k1,y)::r) k=jw r k:=by simp[jw,q]
    have e2:PySem.atKey ((k1,a,Value.str y t)::r') k=PySem.atKey r' k:=by simp[PySem.atKey,q]
    rw[e1,e2];exact CJ h
structure mz(P:Program)(w:World)(K:ag)(mg:aU)(x:Str)(kvs:List (TK×Str)):Prop where
 ex:∃a xs,mg x=some (.ref a)/\(a==sysModules)=false/\(∀h:Heap,K.In h->h.DictOfH (tupleKind (optKind P w)) a xs)/\tM kvs xs
theorem Qw{P:Program}{w:World}{K:ag}{mg:aU}{x:Str}{a:Addr}{es:Array DictEntry}{ep:Nat}{sl:Array (bU)}{xs:List (TK×Addr×Value)}{kvs:List (TK×Str)}
 (hm:mg x=some (.ref a)) (l:K.lookup a=some ⟨.type "dict",none,.dict es ep,sl⟩) (ha:(a==sysModules)=false) (hsl:Obj.ExactDict ⟨.type "dict",none,.dict es ep,sl⟩)
 (he:es.toList=xs.map (entryOfKey (tupleKind (optKind P w)))) (hi:∀y∈xs,∃o items n,K.lookup y.2.1=some o/\o.cls= .type "tuple"/\o.data= .seq items n/\ItemsAre (optKind P w) y.1 items.toList)
 (hn:(xs.map (·.1)).Nodup) (hv:tM kvs xs):mz P w K mg x kvs:=
 ⟨a,xs,hm,ha,λh X=>⟨_,es,ep,X _ _ l,hsl,rfl,he,λy hy=>by
  obtain⟨o,items,n,h1,h2,h3,h4⟩:=hi y hy;exact⟨o,items,n,X _ _ h1,h2,h3,h4⟩,hn⟩,hv⟩
theorem Ds{P:Program}{w:World}{K:ag}{H:Hp}:∀{rs:LR} {ks:TK} {vs:LV} {its:ao},ly rs=some ks->ae K H rs vs->Vals vs its->ItemsAre (optKind P w) ks its
 | [],ks,vs,its,e,r,v=>by
  cases e;simp only[ae]at r;subst r;cases v;exact .nil
 |r::rs,ks,vs,its,e,hr,v=>by
  obtain⟨x,xs,rfl,h1,h2⟩:=(by simpa only[ae]using hr:∃v r',vs=v::r'/\Rep K H r v/\ae K H rs r')
  cases v with
  |cons v1 v2=>
   rename_i u its';simp only[ly]at e;cases e1:zY r with
   |none=>rw[e1]at e;cases e
   |some k=>
    cases e2:ly rs with
    |none=>rw[e1,e2]at e;cases e
    |some ks'=>
     rw[e1,e2]at e;cases e;refine .cons ?_ (Ds e2 h2 v2);cases r with
     |au=>
      cases e1;have:x= .au:=by simpa only[Rep]using h1
      subst this;cases(show u=Value.none from v1)
      rfl
     |int i=>
      cases e1;have:x= .int i:=by simpa only[Rep]using h1
      subst this;exact i4 (P:=P) (w:=w) (k:=.inl i) v1
     |str y=>
      cases e1;have:x= .str y:=by simpa only[Rep]using h1
      subst this;exact i4 (P:=P) (w:=w) (k:=.inr y) v1
     |_=>cases e1
section
variable {X:Cx}
def vS(kvs:List (TK×Str))(Q:aq):aq:=λk M1=>match fV k with
 |some ks=>Q (jw kvs ks) M1
 |none=>False
def vP(kvs:List (TK×Str))(te:aw):aw:=λσ M Q=>te σ M (vS kvs Q)
theorem RI{x:Str}{kvs:List (TK×Str)}{e:Expr}{te:aw}{p apos cpos:Pos}(hu:X.A.units+1<cLine)(T:mz X.prog X.w X.K X.mg x kvs)(he:ai X e te)(m:M1 X (.Name x p) "get" apos e cpos:=by exact⟨rfl,rfl,rfl,rfl⟩)
 (hg:Gl X x:=by rfl) (hd:(x==("__debug__":Str))=false:=by decide):ai X (.Call (.Attribute (.Name x p) "get" apos) [e] [] cpos) (vP kvs te):=by
 obtain⟨a,xs,hm,ha,hD,hk⟩:=T.ex;intro pins s σ0 H Q0 I h;obtain⟨σ,M,Q,hs',hv,ht,hq⟩:=h;have d0:=hD _ I.bW;refine wpAny_Call_method m.base m.pW m.line PySem.F.plainAttrs_dict PySem.F.slot_dict_get PySem.F.type_dict_get (js I hg hm ⟨d0.typeIs,λb q=>?_,?_⟩ hd)
 . cases q
   obtain⟨ob,_,_,h1,h2,_⟩:=d0;exact⟨ob,h1,h2.2.1⟩
 rw[m.trees];refine Calls.callWith_builtin rfl (Calls.evalArgs_plain (Calls.spliced_cons (aB (he pins s σ0 H (λv H1=>∃r M1,Rep X.K H1 r v/\Ext H H1/\View X.K H1 M1/\vS kvs Q r M1) I ⟨σ,M,_,hs',hv,ht,λr M1 v H1 q e w r1=>⟨r,M1,r1,e,w,q⟩⟩)
  λiv s2 ⟨y,H2,I2,ry,r,M2,rr,e2,w2,q2⟩=>Calls.spliced_nil ?_)))
 unfold vS at q2;cases ek:fV r with
 |none=>rw[ek]at q2;exact q2.elim
 |some ks=>
  rw[ek]at q2;simp only at q2;cases r with
  |tup rs=>
   obtain⟨b,vs,rfl,hS,hR⟩:=(by simpa only[Rep]using rr:∃a vs,y= .ref a/\H2 a=some (.tup vs)/\ae X.K H2 rs vs)
   cases(show iv=Value.ref b from ry)
   obtain⟨its,hV,⟨o,h1,h2,n,h3⟩,_⟩:=I2.tuple (bI.of hS);have key:IsTupleKey (optKind X.prog X.w) s2.heap ks b:=⟨o,its.toArray,n,h1,h2,h3,by simpa using Ds ek hR hV⟩
   have dd:=hD _ I2.bW;rcases CJ (k:=ks) hk with⟨z,t,e1,e2'⟩|⟨e1,e2'⟩
   . refine call_meetsIn PySem.F.slot_dict_get dd.typeIs PySem.F.entry_dict_get (PySem.F.args_dict_get_2 _ _) (meetsH_dict_get (tupleKind (optKind X.prog X.w)) a b ha) ⟨tupleKind_room_in1 hu,ks,xs,key,dd,.str z,H2,I2.tok _,by rw[e2'];exact⟨t,rfl⟩,?_⟩
     exact hq _ M2 _ H2 q2 e2 w2 (by rw[e1];simp only[Rep])
   . refine call_meetsIn PySem.F.slot_dict_get dd.typeIs PySem.F.entry_dict_get (PySem.F.args_dict_get_2 _ _) (meetsH_dict_get (tupleKind (optKind X.prog X.w)) a b ha) ⟨tupleKind_room_in1 hu,ks,xs,key,dd,.au,H2,I2.tok _,by rw[e2'];rfl,?_⟩
     exact hq _ M2 _ H2 q2 e2 w2 (by rw[e1];simp only[Rep])
  |_=>cases ek
end
section
variable {κ:Type}[DecidableEq κ]{K:ag}{H:Hp}{k:κ}{v:RV}{u:V}
noncomputable def lk {α:Type}(kvs:List (κ×α))(k:κ):Option α:=(kvs.find? λp=>decide (p.1=k)).map (·.2)
theorem ir{α:Type}{j:κ}{x:α}{r:List (κ×α)}:lk ((j,x)::r) k=if j=k then some x else lk r k:=by
 unfold lk;rw[iC]
 by_cases h:j=k
 . rw[az h,mY (show(j,x).1=k from h)];rfl
 . rw[aj h,fv (show ¬(j,x).1=k from h)]
noncomputable def pt {α:Type}(kvs:List (κ×α))(k:κ)(v:α):List (κ×α):=
 if(kvs.any λkv=>decide (kv.1=k))=true then kvs.map (λkv=>if kv.1=k then(kv.1,v)else kv)else kvs++ [(k,v)]
theorem iW:∀{kvs:List (κ×RV)} {ws:List (κ×V)},aJ K H kvs ws->(∀r,lk kvs k=some r->∃v,fj ws k=some v/\Rep K H r v)/\(lk kvs k=none->fj ws k=none)
 | [],ws,h=>by
  have h:ws= []:=h;subst h;exact⟨λr e=>(by cases e),λ_=>rfl⟩
 |(j,x)::t,ws,h=>by
  obtain⟨v,u,rfl,h1,h2⟩:=h;have ih:=iW h2;rw[ir]
  by_cases hj:j=k
  . rw[az hj]
    refine⟨λr e=>⟨v,sC (p:=(j,v)) hj,?_⟩,λe=>(by cases e)⟩
    cases e;exact h1
  . rw[aj hj]
    exact⟨λr e=>by rw[oM (p:=(j,v)) hj];exact ih.1 r e,λe=>by rw[oM (p:=(j,v)) hj];exact ih.2 e⟩
theorem C3:∀{kvs:List (κ×RV)} {ws:List (κ×V)},aJ K H kvs ws->(kvs.any λkv=>decide (kv.1=k))=ws.any λkv=>decide (kv.1=k)
 | [],ws,h=>by have h':ws= []:=h;subst h';rfl
 |(j,x)::r,ws,h=>by
  obtain⟨w,t,rfl,h1,h2⟩:=h;rw[mZ,mZ,C3 h2]
theorem yM(hv:Rep K H v u):∀{kvs:List (κ×RV)} {ws:List (κ×V)},aJ K H kvs ws->aJ K H (kvs.map λkv=>if kv.1=k then(kv.1,v)else kv) (ws.map λkv=>if kv.1=k then(kv.1,u)else kv)
 | [],ws,h=>by have h':ws= []:=h;subst h';rfl
 |(j,x)::r,ws,h=>by
  obtain⟨w,t,rfl,h1,h2⟩:=h;rw[cK,cK]
  by_cases e:j=k
  . rw[az (show(j,x).1=k from e),az (show(j,w).1=k from e)];exact⟨u,_,rfl,hv,yM hv h2⟩
  . rw[aj (show ¬(j,x).1=k from e),aj (show ¬(j,w).1=k from e)];exact⟨w,_,rfl,h1,yM hv h2⟩
theorem DC(hv:Rep K H v u){kvs:List (κ×RV)}{ws:List (κ×V)}(h:aJ K H kvs ws):aJ K H (pt kvs k v) (putK ws k u):=by
 unfold pt putK;rw[C3 h];split
 . exact yM hv h
 . exact Dm h ⟨u,[],rfl,hv,rfl⟩
end
theorem Qn{K:ag}{H:Hp}{r:RV}{x:V}{k:Option Key}(e:zY r=some k)(h:Rep K H r x):x=oV k:=by
 cases r<;>first|(cases e;simp only[Rep]at h;exact h)|cases e
theorem Dt{K:ag}{H:Hp}:∀{rs:LR} {vs:LV} {ks:TK},ly rs=some ks->ae K H rs vs->vs=ks.map oV
 | [],vs,ks,e,h=>by cases e;exact h
 |r::rs,vs,ks,e,h=>by
  simp only[ae]at h;obtain⟨v,t,rfl,h1,h2⟩:=h;unfold ly at e;split at e
  . rename_i a b e1 e2
    cases e;rw[Qn e1 h1,Dt e2 h2];rfl
  . cases e
theorem vI{K:ag}{H:Hp}{r:RV}{x:V}{k:TK}(e:fV r=some k)(h:Rep K H r x):∃b,x= .ref b/\H b=some (.tup (k.map oV)):=by
 cases r with
 |tup rs=>
  simp only[Rep]at h;obtain⟨a,vs,rfl,h1,h2⟩:=h;exact⟨a,rfl,by rw[h1,Dt e h2]⟩
 |_=>cases e
noncomputable def qz (o:RO)(y:RV):Option (Option RV):=match o with
 | .dk kvs=>(fm y).map (lk kvs)
 | .dt kvs=>(fV y).map (lk kvs)
 | .fk kvs=>(fm y).map (lk kvs)
 | .ft kvs=>(fV y).map (lk kvs)
 |_=>none
noncomputable def pT (M:RM)(x y:RV):Option (Option RV):=match x with
 | .ref a=>(M a).bind (qz . y)
 |_=>none
def rf(M:RM)(x:RV):Prop:=match x with
 | .ref a=>match M a with
  |some (.dk _)=>True
  |some (.dt _)=>True
  |some (.fk _)=>True
  |some (.ft _)=>True
  |_=>False
 |_=>False
def q8(M:RM)(x y v:RV)(N:RM->Prop):Prop:=match x with
 | .ref a=>match M a with
  |some (.dk kvs)=>match fm y with
   |some k=>kvs.length<sizeLine/\N (put M a (.dk (pt kvs k v)))
   |none=>False
  |some (.dt kvs)=>match fV y with
   |some k=>kvs.length<sizeLine/\N (put M a (.dt (pt kvs k v)))
   |none=>False
  |_=>False
 |_=>False
section
variable {X:Cx}{M:RM}{H:Hp}{x y:RV}{vx vy:V}
theorem za{K:ag}{r:Option RV}(hv:View K H M)(e:pT M x y=some r)(rx:Rep K H x vx)(ry:Rep K H y vy):
 ∃a r0,vx= .ref a/\bJ H a vy r0/\(∀z,r=some z->∃v,r0=some v/\Rep K H z v)/\(r=none->r0=none):=by
 unfold pT at e;split at e
 . rename_i a
   simp only[Rep]at rx;cases q:M a with
   |none=>rw[q]at e;cases e
   |some o=>
    rw[q]at e
    replace e:qz o y=some r:=e
    obtain⟨ho,eo,ro⟩:=hv a o q;unfold qz at e;split at e
    . rename_i kvs
      obtain⟨ws,rfl,hg⟩:=ro;cases ek:fm y with
      |none=>rw[ek]at e;cases e
      |some k=>
       rw[ek]at e;have e:lk kvs k=r:=de e;have:=qa ek ry;subst this;exact⟨a,_,rx,bJ.k eo,λz hz=>(iW (k:=k) hg).1 z (e.trans hz),λhz=>(iW (k:=k) hg).2 (e.trans hz)⟩
    . rename_i kvs
      obtain⟨ws,rfl,hg⟩:=ro;cases ek:fV y with
      |none=>rw[ek]at e;cases e
      |some k=>
       rw[ek]at e;have e:lk kvs k=r:=de e;obtain⟨b,rfl,hb⟩:=vI ek ry;exact⟨a,_,rx,bJ.t eo hb,λz hz=>(iW (k:=k) hg).1 z (e.trans hz),λhz=>(iW (k:=k) hg).2 (e.trans hz)⟩
    . rename_i kvs
      obtain⟨ob,ws,rfl,hg⟩:=ro;cases ek:fm y with
      |none=>rw[ek]at e;cases e
      |some k=>
       rw[ek]at e;have e:lk kvs k=r:=de e;have:=qa ek ry;subst this;exact⟨a,_,rx,.inl ⟨ws,k,.inr ⟨ob,eo⟩,rfl,rfl⟩,λz hz=>(iW (k:=k) hg).1 z (e.trans hz),λhz=>(iW (k:=k) hg).2 (e.trans hz)⟩
    . rename_i kvs
      obtain⟨ob,ws,rfl,hg⟩:=ro;cases ek:fV y with
      |none=>rw[ek]at e;cases e
      |some k=>
       rw[ek]at e;have e:lk kvs k=r:=de e;obtain⟨b,rfl,hb⟩:=vI ek ry;exact⟨a,_,rx,.inr ⟨ws,k,b,.inr ⟨ob,eo⟩,rfl,hb,rfl⟩,λz hz=>(iW (k:=k) hg).1 z (e.trans hz),λhz=>(iW (k:=k) hg).2 (e.trans hz)⟩
    . cases e
 . cases e
theorem Sk{K:ag}(hv:View K H M)(d:rf M x)(rx:Rep K H x vx):∃a,vx= .ref a/\xT H a:=by
 unfold rf at d;split at d
 . rename_i a
   simp only[Rep]at rx;split at d
   . rename_i kvs e;obtain⟨ho,eo,ws,rfl,hg⟩:=hv a _ e;exact⟨a,rx,.inl ⟨ws,.inl eo⟩⟩
   . rename_i kvs e;obtain⟨ho,eo,ws,rfl,hg⟩:=hv a _ e;exact⟨a,rx,.inr ⟨ws,.inl eo⟩⟩
   . rename_i kvs e;obtain⟨ho,eo,ob,ws,rfl,hg⟩:=hv a _ e;exact⟨a,rx,.inl ⟨ws,.inr ⟨ob,eo⟩⟩⟩
   . rename_i kvs e;obtain⟨ho,eo,ob,ws,rfl,hg⟩:=hv a _ e;exact⟨a,rx,.inr ⟨ws,.inr ⟨ob,eo⟩⟩⟩
   . exact d.elim
 . exact d.elim
theorem S7{K:ag}{v:RV}{vv:V}{N:RM->Prop}(hv:View K H M)(d:q8 M x y v N)(rx:Rep K H x vx)(ry:Rep K H y vy)(rv:Rep K H v vv):
 ∃a H' M',vx= .ref a/\eN H a vy vv H'/\N M'/\Ext H H'/\View K H' M':=by
 unfold q8 at d;split at d
 . rename_i a
   simp only[Rep]at rx;split at d
   . rename_i kvs em
     obtain⟨ho,eo,ws,rfl,hg⟩:=hv a _ em;split at d
     . rename_i k ek
       have:=qa ek ry;subst this;have ex:Ext H (upd H a (.dK (putK ws k vv))):=Ext.write eo rfl;exact⟨a,_,_,rx,eN.k eo (by rw[<-gK hg];exact d.1),d.2,ex,hv.write em ⟨_,rfl,DC (Rep.ext ex _ _ rv) (hg.ext ex)⟩⟩
     . exact d.elim
   . rename_i kvs em
     obtain⟨ho,eo,ws,rfl,hg⟩:=hv a _ em;split at d
     . rename_i k ek
       obtain⟨b,rfl,hb⟩:=vI ek ry;have ex:Ext H (upd H a (.dT (putK ws k vv))):=Ext.write eo rfl;exact⟨a,_,_,rx,eN.t eo hb (by rw[<-gK hg];exact d.1),d.2,ex,hv.write em ⟨_,rfl,DC (Rep.ext ex _ _ rv) (hg.ext ex)⟩⟩
     . exact d.elim
   . exact d.elim
 . exact d.elim
end
section
variable {X:Cx}{o i value e f:Expr}{pos pos' apos cpos:Pos}{td ty tv tx:aw}
def tw(Q:aq)(x y:RV)(M:RM):Prop:=match pT M x y with
 |some (some v)=>Q v M
 |_=>False
def Fp(td ty:aw):aw:=λσ M Q=>td σ M λx M1=>ty σ M1 λy M2=>tw Q x y M2
theorem R1{Q:aq}{x y:RV}{M:RM}(h:tw Q x y M):∃v,pT M x y=some (some v)/\Q v M:=by
 unfold tw at h;split at h
 . rename_i v e;exact⟨v,e,h⟩
 . exact h.elim
theorem VR(hu:X.A.units+1<cLine)(ho:ai X o td)(hi:ai X i ty)(hs:xr i):ai X (.Subscript o i pos) (Fp td ty):=PE.imp (Sq hu ho hi hs) λσ0 H Q0 h=>by
 obtain⟨σ,M,Q,hs,hv,ht,hk⟩:=h;refine⟨σ,M,_,hs,hv,ht,λrx M1 x H1 q e1 v1 r1=>⟨σ,M1,_,hs.ext e1,v1,q,λry M2 y H2 q2 e2 v2 r2=>?_⟩⟩
 obtain⟨v,ev,q2⟩:=R1 q2;obtain⟨a,r0,rfl,g,g1,_⟩:=za v2 ev (Rep.ext e2 _ _ r1) r2;obtain⟨w,rfl,rw'⟩:=g1 v rfl;exact⟨a,w,rfl,g,hk _ M2 _ H2 q2 (e1.trans e2) v2 rw'⟩
def xD(neg:Bool)(Q:aq)(x y:RV)(M:RM):Prop:=match pT M x y with
 |some r=>Q (.bl (if neg then !r.isSome else r.isSome)) M
 |none=>False
def qC(neg:Bool)(ty td:aw):aw:=λσ M Q=>ty σ M λy M1=>td σ M1 λx M2=>xD neg Q x y M2
theorem vC{neg:Bool}{σ0:L2.St}{H:Hp}{Q0:VK}(h:up X.K (qC neg ty td) σ0 H Q0):up X.K ty σ0 H λy H1=>up X.K td σ0 H1 λx H2=>∃a r,x= .ref a/\bJ H2 a y r/\Q0 (.bl (if neg then !r.isSome else r.isSome)) H2:=by
 obtain⟨σ,M,Q,hs,hv,ht,hk⟩:=h;refine⟨σ,M,_,hs,hv,ht,λry M1 y H1 q e1 v1 r1=>⟨σ,M1,_,hs.ext e1,v1,q,λrx M2 x H2 q2 e2 v2 r2=>?_⟩⟩
 unfold xD at q2;split at q2
 . rename_i r er
   obtain⟨a,r0,rfl,g,g1,g2⟩:=za v2 er r2 (Rep.ext e2 _ _ r1);refine⟨a,r0,rfl,g,hk _ M2 _ H2 q2 (e1.trans e2) v2 ?_⟩;have:r0.isSome=r.isSome:=by
    cases r with
    |none=>rw[g2 rfl];rfl
    |some z=>obtain⟨v,rfl,_⟩:=g1 z rfl;rfl
   rw[this];simp only[Rep]
 . exact q2.elim
theorem LC(hu:X.A.units+1<cLine)(hi:ai X i ty)(ho:ai X o td)(h1:behindInMarks .In o=false):ai X (.Compare i [.In] [o] pos) (qC false ty td):=PE.imp (Ex (Ey hu hi ho) h1) λσ0 H Q0 h=>vC h
theorem R3(hu:X.A.units+1<cLine)(hi:ai X i ty)(ho:ai X o td)(h1:behindInMarks .NotIn o=false):ai X (.Compare i [.NotIn] [o] pos) (qC true ty td):=PE.imp (Ex (C5 hu hi ho) h1) λσ0 H Q0 h=>vC h
theorem VQ(hu:X.A.units+1<cLine)(hi:ai X i ty)(ho:ai X o td)(h1:behindInMarks .In o=false):cy X (.Compare i [.In] [o] pos) (k7 (qC false ty td)):=PT.imp (zp (Ey hu hi ho) h1) λσ0 H Q0 h=>by
 obtain⟨σ,M,Q,hs,hv,ht,hk⟩:=h;exact vC (neg:=false) ⟨σ,M,_,hs,hv,ht,oU hk⟩
theorem PZ(hu:X.A.units+1<cLine)(hi:ai X i ty)(ho:ai X o td)(h1:behindInMarks .NotIn o=false):cy X (.Compare i [.NotIn] [o] pos) (k7 (qC true ty td)):=PT.imp (zp (C5 hu hi ho) h1) λσ0 H Q0 h=>by
 obtain⟨σ,M,Q,hs,hv,ht,hk⟩:=h;exact vC (neg:=true) ⟨σ,M,_,hs,hv,ht,oU hk⟩
def sV(Q:aq)(x y z:RV)(M:RM):Prop:=match pT M x y with
 |some r=>Q (r.getD z) M
 |none=>False
def EX(td ty:aw):aw:=λσ M Q=>td σ M λx M1=>rf M1 x/\ty σ M1 λy M2=>sV Q x y .au M2
theorem P0{K:ag}{Q:aq}{x y z:RV}{M:RM}{H:Hp}{a:Addr}{vy vz:V}(h:sV Q x y z M)(hv:View K H M)(rx:Rep K H x (.ref a))(ry:Rep K H y vy)(rz:Rep K H z vz):
 ∃r r0,Q r M/\bJ H a vy r0/\Rep K H r (r0.getD vz):=by
 unfold sV at h;split at h
 . rename_i r er
   obtain⟨a',r0,ea,g,g1,g2⟩:=za hv er rx ry;cases ea;refine⟨_,r0,h,g,?_⟩;cases r with
   |none=>rw[g2 rfl];exact rz
   |some q=>obtain⟨v,rfl,rw'⟩:=g1 q rfl;exact rw'
 . exact h.elim
theorem S2(hu:X.A.units+1<cLine)(ho:ai X o td)(he:ai X e ty)(m:M1 X o "get" apos e cpos):ai X (.Call (.Attribute o "get" apos) [e] [] cpos) (EX td ty):=PE.imp (Q5 hu ho he m) λσ0 H Q0 h=>by
 obtain⟨σ,M,Q,hs,hv,ht,hk⟩:=h;refine⟨σ,M,_,hs,hv,ht,λrx M1 x H1 q e1 v1 r1=>?_⟩
 obtain⟨a,rfl,d⟩:=Sk v1 q.1 r1;refine⟨a,rfl,d,σ,M1,_,hs.ext e1,v1,q.2,λry M2 y H2 q2 e2 v2 r2=>?_⟩
 obtain⟨r,r0,q3,g,rr⟩:=P0 q2 v2 (Rep.ext e2 _ _ r1) r2 (show Rep X.K H2 .au .au by simp only[Rep])
 exact⟨r0,g,hk _ M2 _ H2 q3 (e1.trans e2) v2 rr⟩
def EV(td ty tv:aw):bY:=λD σ M=>tv σ M λv M1=>td σ M1 λx M2=>ty σ M2 λy M3=>q8 M3 x y v (D.nx σ)
theorem SX(hu:X.A.units+1<cLine)(ho:ai X o td)(hi:ai X i ty)(hv:ai X value tv)(hs:swapsWith value (some (.Subscript o i pos')) pos.line X.env=pure false):c8 X (.Assign [.Subscript o i pos'] value pos) (EV td ty tv):=PS.imp (Rq hu ho hi hv hs) λD0 σ0 H h=>by
 obtain⟨σ,M,D,hs,hv,ht,hd⟩:=h;refine⟨σ,M,_,hs,hv,ht,λrv M1 v H1 q e1 v1 r1=>⟨σ,M1,_,hs.ext e1,v1,q,λrx M2 x H2 q2 e2 v2 r2=>⟨σ,M2,_,hs.ext (e1.trans e2),v2,q2,λry M3 y H3 q3 e3 v3 r3=>?_⟩⟩⟩
 obtain⟨a,H4,M4,rfl,g,n,ex,w⟩:=S7 v3 q3 (Rep.ext e3 _ _ r2) r3 (Rep.ext (e2.trans e3) _ _ r1);have e13:=((e1.trans e2).trans e3).trans ex;exact⟨a,H4,rfl,g,hd.nx σ M4 σ0 H4 n e13 w (hs.ext e13)⟩
def E7:aw:=λ_ M Q=>∀p,M p=none->Q (.ref p) (put M p (.dt []))
theorem Uc:ai X (.Dict [] [] pos) E7:=PE.imp Q3 λσ0 H Q0 h=>by
 obtain⟨σ,M,Q,hs,hv,ht,hk⟩:=h;exactλp hp=>hk _ _ _ _ (ht p (hv.free hp)) (Ext.new hp) (hv.cS hp ⟨[],rfl,rfl⟩) (by simp only[Rep])
end
section
variable {prog:Program}{w:World}{K:Type}[DecidableEq K]{knd:HeapKind prog w K}{A:Around}{E:aP}{s:Shared}{d a:Addr}{k:K}{xs:List (K×Addr×Value)}
theorem P2{xs:List (K×Addr×Value)}(hn:(xs.map (·.1)).Nodup):∀{j:Nat} {p:Addr×Value},xs[j]? =some (k,p)->xs.eraseIdx j=xs.filter λx=>decide (x.1≠k):=by
 induction xs with
 |nil=>intro j p h;simp at h
 |cons x r ih=>
  intro j p h;rw[cK,lD]at hn;cases j with
  |zero=>
   simp at h;subst h;rw[List.eraseIdx_cons_zero,lJ];simp only[ne_eq,not_true_eq_false,decide_false,lF,if_false];exact(xK.mpr λy hy=>by
    have:y.1≠k:=λz=>hn.1 (dH.mpr ⟨y,hy,z⟩)
    simpa using this).symm
  |succ j=>
   rw[List.eraseIdx_cons_succ,lJ];have h':r[j]? =some (k,p):=by simpa using h
   have:x.1≠k:=λz=>hn.1 (z ▸ dH.mpr ⟨_,hW h',rfl⟩)
   rw[az (mY this),ih hn.2 h']
theorem NK{Q:Option DictEntry->Shared->Prop}(hu:knd.room A)(hkey:knd.is s.heap k a)(hm:s.heap.DictOfH knd d xs)(ht:(PySem.atKey xs k).isSome=true)
 (hQ:∀e h',h'.DictOfH knd d (xs.filter λx=>decide (x.1≠k))->Heap.SameBut d s.heap h'->Q (some e) { s with heap:=h',toks:=s.toks+knd.draws k }) (hsz:xs.length<=sizeLine):wpAny (model prog w) A (Builtin.Dict.takeOut d (.ref a)) Q E s:=by
 obtain⟨o,es,ep,ho,hc,hd,he,his,hn⟩:=hm;unfold Builtin.Dict.takeOut
 try with_reducible refine jh ?_
 refine ak (knd.pyHash hu hkey ?_);refine ak (wpAny_dictFind_heap (s:={ s with toks:=s.toks+knd.draws k }) hu hkey ho hd he his hn (λhno=>?_) λj p hj=>?_)
 . rw[atKey_none_of_get hno]at ht;cases ht
 . refine ak (t8 (s:={ s with toks:=s.toks+knd.draws k }) ho hd ?_)
   rw[entry_at he j,hj];refine ak (wpAny_updateDictKeys (hz:=by have e:=size_of_entries he;omega) (s:={ s with toks:=s.toks+knd.draws k }) ho hd (aR (hQ _ _ ⟨_,_,ep+1,Heap.get?_update_self _ ho (Obj.isFreed_of_dict (Obj.data_mapDictKeys hd _)),hc.mapDictKeys _,Obj.data_mapDictKeys hd _,?_,λx hx=>?_,?_⟩ (Heap.SameBut.update ..))))
   . rw[<-P2 hn hj]
     have:(xs.eraseIdx j).map (entryOfKey knd)=es.toList.eraseIdx j:=by rw[he,List.eraseIdx_eq_take_drop_succ,List.eraseIdx_eq_take_drop_succ,List.map_append,List.map_take,List.map_drop]
     rw[this];obtain⟨l⟩:=es;simp
   . exact knd.keeps (his x ((List.mem_filter.mp hx).1)) ho hd (Heap.SameBut.update ..)
   . exact hn.sublist (List.filter_sublist.map _)
end
theorem SJ{H:Hp}{kvs:List (List bC×V)}{xs:List (List bC×Addr×Value)}(r:KT H kvs xs)(k:List bC):KT H (i5 kvs k) (xs.filter λx=>decide (x.1≠k)):=by
 unfold i5
 induction r with
 |nil=>exact .nil
 | @cons p q ps qs h t ih=>
  rw[lJ,lJ,h.1];split
  . exact .cons h ih
  . exact ih
section
variable {X:Cx}{pins:aF}{σ:L2.St}{H:Hp}{s:Shared}{a b:Addr}{kvs:List (List bC×V)}{k:List bC}{A:Around}{E:aP}
theorem Vb{Q:Unit->Shared->Prop}(hu:A.units+1<cLine)(I:Inv X pins σ H s)(e:H a=some (.dT kvs))(eb:H b=some (.tup (k.map oV)))(l:(fj kvs k).isSome=true)(h:∀s',Inv X pins σ (upd H a (.dT (i5 kvs k))) s'->Q () s'):
 wpAny (model X.prog X.w) A (delItem (.ref a) (.ref b)) Q E s:=by
 obtain⟨z,hd,xs,rel,dd⟩:=zG I.ar e;have hz:xs.length<=sizeLine:=by rw[<-Paired.length rel];exact z
 refine wpAny_delItem_slot dd.typeIs ⋯ PySem.F.slot_dict_delitem (jl PySem.F.slot_dict_delitem dd.typeIs PySem.F.entry_dict_delitem ?_ (PySem.F.args_dict_delitem_2 _ _))
 unfold Builtin.«dict.__delitem__»;refine ak ?_;unfold Builtin.Dict.dictSlotArgs;refine ak (wpAny_notOrdered_dict dd.typeIs ?_);show wpAny _ _ (pure (Value.ref a,Value.ref b)) _ _ s;refine aR ?_;show wpAny _ _ (Builtin.Dict.takeOut a (.ref b) >>= _) _ _ s;refine ak (NK (tupleKind_room_in1 hu) (oZ I.ar eb) dd (by rw[<-qM,<-(rel.val k).bc];exact l) (λen h' dd' hs=>?_) hz)
 refine ak (wpAny_letGo (aR ⟨.none,rfl,h _ ?_⟩));obtain⟨q,es,ep,hq,h2,h3,h4,_,h5⟩:=dd';refine vM I (by rw[e];exact True.intro) hs ⟨q,hq⟩ ⟨c6 (List.length_filter_le _ _) z,hd,_,(SJ rel k).keeps λc ys ec=>?_,q,es,ep,hq,h2,h3,h4,h5⟩
 rw[aK (i0 ec e (λz=>nomatch z))]
 exact ec
end
noncomputable def dr {κ β:Type}[DecidableEq κ](kvs:List (κ×β))(k:κ):List (κ×β):=kvs.filter λp=>decide (p.1≠k)
theorem zd{κ:Type}[DecidableEq κ]{K:ag}{H:Hp}{k:κ}:∀{xs:List (κ×RV)} {ws:List (κ×V)},aJ K H xs ws->aJ K H (dr xs k) (i5 ws k)
 | [],_,h=>by cases h;exact rfl
 |(j,x)::r,_,h=>by
  obtain⟨v,t,rfl,h1,h2⟩:=h;have ih:=zd (k:=k) h2;unfold dr i5 at ih ⊢;rw[lJ,lJ];split
  . exact⟨v,_,rfl,h1,ih⟩
  . exact ih
def pU(M:RM)(x y:RV)(N:RM->Prop):Prop:=match x with
 | .ref a=>match M a with
  |some (.dk kvs)=>match fm y with
   |some k=>(lk kvs k).isSome=true/\N (put M a (.dk (dr kvs k)))
   |none=>False
  |some (.dt kvs)=>match fV y with
   |some k=>(lk kvs k).isSome=true/\N (put M a (.dt (dr kvs k)))
   |none=>False
  |_=>False
 |_=>False
section
variable {X:Cx}{o i:Expr}{td ty:aw}{pos tpos:Pos}
def EW(td ty:aw):bY:=λD σ M=>td σ M λx M1=>ty σ M1 λy M2=>pU M2 x y (D.nx σ)
theorem SY(hu:X.A.units+1<cLine)(ho:ai X o td)(hi:ai X i ty):c8 X (.Delete [.Subscript o i tpos] pos) (EW td ty):=by
 intro pins s σ0 H D0 I h;obtain⟨σ,M,D,hs,hv,ht,hd⟩:=h;refine wpAny_Delete (wpAny_deleteEach_cons (wpAny_delete_Subscript (aB (ho pins s σ0 H (λx H1=>∃rx M1,(ty σ M1 λy M2=>pU M2 rx y (D.nx σ))/\Ext H H1/\View X.K H1 M1/\Rep X.K H1 rx x) I ⟨σ,M,_,hs,hv,ht,λrx M1 x H1 q e1 v1 r1=>⟨rx,M1,q,e1,v1,r1⟩⟩) λu s1 ⟨x,H1,I1,ru,rx,M1,q1,e1,v1,r1⟩=>
  aB (hi pins s1 σ0 H1 (λy H2=>∃ry M2,pU M2 rx ry (D.nx σ)/\Ext H1 H2/\View X.K H2 M2/\Rep X.K H2 ry y) I1 ⟨σ,M1,_,hs.ext e1,v1,q1,λry M2 y H2 q e2 v2 r2=>⟨ry,M2,q,e2,v2,r2⟩⟩) λiv s2 ⟨y,H2,I2,riv,ry,M2,q2,e2,v2,r2⟩=>?_)))
 have r1:=Rep.ext e2 _ _ r1;have e12:=e1.trans e2;unfold pU at q2;split at q2
 . rename_i a _ _
   simp only[Rep]at r1;subst r1;obtain rfl:u=Value.ref a:=ru;split at q2
   . rename_i kvs em
     obtain⟨ho',eo,ws,rfl,hg⟩:=v2 a _ em;split at q2
     . rename_i k ek
       have:=qa ek r2;subst this;have ex:Ext H2 (upd H2 a (.dK (i5 ws k))):=Ext.write eo rfl;obtain⟨z,hz⟩:=tW.mp q2.1;obtain⟨z',hz',_⟩:=(iW (k:=k) hg).1 z hz;exact P8 I2 eo riv (by rw[hz'];rfl) λs3 I3=>wpAny_deleteEach_nil ⟨σ0,_,I3,hd.nx σ _ _ _ q2.2 (e12.trans ex) (v2.write em ⟨_,rfl,zd (hg.ext ex)⟩) (hs.ext (e12.trans ex))⟩
     . exact q2.elim
   . rename_i kvs em
     obtain⟨ho',eo,ws,rfl,hg⟩:=v2 a _ em;split at q2
     . rename_i k ek
       obtain⟨b,rfl,hb⟩:=vI ek r2;obtain rfl:iv=Value.ref b:=riv;have ex:Ext H2 (upd H2 a (.dT (i5 ws k))):=Ext.write eo rfl;obtain⟨z,hz⟩:=tW.mp q2.1;obtain⟨z',hz',_⟩:=(iW (k:=k) hg).1 z hz;exact Vb hu I2 eo hb (by rw[hz'];rfl) λs3 I3=>wpAny_deleteEach_nil ⟨σ0,_,I3,hd.nx σ _ _ _ q2.2 (e12.trans ex) (v2.write em ⟨_,rfl,zd (hg.ext ex)⟩) (hs.ext (e12.trans ex))⟩
     . exact q2.elim
   . exact q2.elim
 . exact q2.elim
end
section
variable {X:Cx}{pins:aF}{σ:L2.St}{H:Hp}{s:Shared}{a:Addr}{A:Around}{E:aP}
theorem U9{kvs:List (List bC×V)}{Q:aP}(I:Inv X pins σ H s)(e:H a=some (.dT kvs))(h:∀t s',Inv X pins σ H s'->Q (.int kvs.length t) s'):wpAny (model X.prog X.w) A (call (.builtin "len") [.ref a]) Q E s:=by
 obtain⟨z,hd,xs,rel,dd⟩:=zG I.ar e;have ty:=dd.typeIs;obtain⟨o,es,ep,ho,hc,hdat,he,_,_⟩:=dd;have hl:es.size=kvs.length:=by rw[size_of_entries he,Paired.length rel]
 refine Calls.call_function_entry kind_len plain_len entry_len (args_len1 _) ?_;unfold Builtin.«len»;refine ak (m:=oneArg "len" _) (aR ?_);refine ak (m:=callSpecial? (.ref a) (Str.ofString "__len__")) (wpAny_callSpecial?_slot (name:=Str.ofString "__len__") ty F.slot_dict_len (jl F.slot_dict_len ty F.entry_dict_len ?_ (F.args_dict_len_1 _)));show wpAny _ _ (dictSize a >>= _) _ _ s;unfold dictSize;refine ak (ak (t8 ho hdat (aR ?_)));show wpAny _ _ (Builtin.Dict.pendingCount a >>= _) _ _ s;refine ak (wpAny_pendingCount_other hd ?_);refine wpAny_ret_mkInt ?_;rw[hl];show wpAny _ _ _ _ _ { s with toks:=s.toks+1 }
 refine ak (jh (aR ?_));refine ak (wpAny_letGo ?_);rw[sizeLine_eq]at z;show wpAny _ _ (if((kvs.length:Nat):Int)<0 then _ else _) _ _ _
 rw[aj ∅]
 show wpAny _ _ (if((kvs.length:Nat):Int) ≥ 2 ^ 63 then _ else _) _ _ _
 rw[aj ∅]
 exact ak (wpAny_mkInt (aR ⟨_,rfl,h _ _ (I.tok _)⟩))
theorem WI:cV X (.builtin "len") (eE X.K λrs M Q=>∃a kvs,rs= [.ref a]/\M a=some (.dt kvs)/\Q (.int kvs.length) M):=by
 intro pins s σ H xs us Q0 I rl h;obtain⟨rs,M,Q,rr,hv,⟨a,kvs,rfl,hm,hq⟩,hk⟩:=h;obtain⟨v,rfl,r1⟩:=rr.one;simp only[Rep]at r1;subst r1;obtain⟨ho,eo,ws,rfl,hg⟩:=hv a _ hm;obtain⟨u,rfl,ru⟩:=vals1 rl;cases ru;exact U9 I eo λt s' I'=>⟨.int ws.length,H,I',⟨t,rfl⟩,hk _ M _ H hq (.refl H) hv (by simp only[Rep];rw[gK hg])⟩
end
section
variable {X:Cx}
noncomputable def rg (C:Addr)(f:Str)(tv:aw)(σ:bq)(N:RM->Prop):aq:=λx M=>match x with
 | .ref a=>match M a with
  |some (.ins C' fs)=>C'=C/\match fs.lookup f with
   |some (.int i)=>tv σ M λy M2=>match y with
    | .int j=>match M2 a with
     |some (.ins C2 fs2)=>C2=C/\fs2.length<1000/\N (put M2 a (.ins C (jv f (.int (i+j)) fs2)))
     |_=>False
    |_=>False
   |_=>False
  |_=>False
 |_=>False
def KA(C:Addr)(f:Str)(ta tv:aw):bY:=λD σ M=>ta σ M (rg C f tv σ (D.nx σ))
theorem Xs{C:Addr}{f:Str}{o value:Expr}{ta tv:aw}{tpos pos:Pos}(hc:bN X.K C)(hn:bb X.K C f)(ha:ai X o ta)(hv:ai X value tv):c8 X (.AugAssign (.Attribute o f tpos) .Add value pos) (KA C f ta tv):=PS.imp (Pp ha hv UJ) λD0 σ0 H h=>by
 obtain⟨σ,M,D,hs,hv,ht,hd⟩:=h;refine⟨σ,M,_,hs,hv,ht,λrx M1 x H1 q e1 v1 r1=>?_⟩
 cases rx with
 |ref a=>
  simp only[Rep]at r1;subst r1;unfold rg at q;simp only at q;split at q
  . rename_i C' fs em
    obtain⟨rfl,q⟩:=q;split at q
    . rename_i i el
      obtain⟨ho,eo,dx,gs,rfl,hg⟩:=v1 a _ em;obtain⟨u,eu,ru⟩:=yI hg el;refine⟨a,C',dx,gs,u,rfl,eo,hc,hn,eu,σ,M1,_,hs.ext e1,v1,q,λry M2 y H2 q2 e2 v2 r2=>?_⟩
      cases ry with
      |int j=>
       simp only[Rep]at r2 ru;subst r2 ru;simp only at q2;split at q2
       . rename_i C2 fs2 em2
         obtain⟨rfl,hl,n⟩:=q2;obtain⟨ho2,eo2,dx2,gs2,rfl,hg2⟩:=v2 a _ em2;have ex:Ext H2 (upd H2 a (.ins C2 dx2 (ez f (.int (i+j)) gs2))):=Ext.write eo2 rfl;have e12:=(e1.trans e2).trans ex;exact⟨i,j,rfl,rfl,dx2,gs2,eo2,by rw[<-gK hg2];exact hl,hd.nx σ _ σ0 _ n e12 (v2.write em2 ⟨dx2,_,rfl,yL (by simp only[Rep]) (hg2.ext ex)⟩) (hs.ext e12)⟩
       . exact q2.elim
      |_=>exact(show False from q2).elim
    . exact q.elim
  . exact q.elim
 |_=>exact(show False from q).elim
end
def fB(h:Heap)(d:Addr)(es:Array DictEntry)(ep:Nat):Prop:=∃o,h.get? d=some o/\o.ExactDict/\o.data= .dict es ep
section
variable {prog:Program}{w:World}{A:Around}{E:aP}{s:Shared}{d it:Addr}{es:Array DictEntry}{ep i:Nat}
theorem fB.ty(x:fB s.heap d es ep):s.TypeIs (.ref d) "dict":=by
 obtain⟨o,h1,h2,h3⟩:=x;exact⟨o,h1,h2.1⟩
theorem NB{Q:bU->Shared->Prop}(hit:s.heap.IsValIter it d i es.size ep)(hm:fB s.heap d es ep)(hi:i<es.size)
 (hQ:∀h',h'.IsValIter it d (i+1) es.size ep->Heap.SameBut it s.heap h'->Q (some es[i].val) { s with heap:=h' }):wpAny (model prog w) A (pyNext (.ref it)) Q E s:=by
 obtain⟨o,ho,hc,hd⟩:=id hit;obtain⟨od,hod,hcd,hdd⟩:=id hm;have ow:Builtin.Dict_items.ownsTuple "dict_valueiterator" =false:=by decide
 unfold pyNext;refine ak (wpAny_attempt (wpAny_callSpecial?_slot (name:=Str.ofString "__next__") hit.typeIs F.slot_dict_valueiterator_next (jl F.slot_dict_valueiterator_next hit.typeIs F.entry_dict_valueiterator_next ?_ (F.args_dict_valueiterator_next_1 _))));refine ak (aR (ak (ak ?_)))
 first|refine ak (wpAny_typeNameOfWhole_valiter hit.typeIs (aR (ak (wpAny_fieldsOf ho hd ?_))))|refine ak (wpAny_typeNameOf_valiter hit.typeIs (aR (ak (wpAny_fieldsOf ho hd ?_))))
 simp only[ow,lF,if_false];refine(?_:wpAny _ _ (if(Value.ref d==Value.none)=true then _ else _) _ _ s)
 rw[aj (show ¬(Value.ref d==Value.none)=true fromλz=>gZ z)]
 refine ak (aR (ak (t8 hod hdd ?_)));rw[aj (by simp)];refine ak (aR (ak (wpAny_dictEpoch hod hdd ?_)))
 rw[aj (by simp)];refine aR ?_
 simp only[show ¬((i:Int)<0) by omega,if_false,mU,Array.getElem?_eq_getElem hi]
 first|refine ak (ak (wpAny_typeNameOfWhole_valiter hit.typeIs (aR (ak (wpAny_isOneOf_valiter hit.typeIs ?_)))))|refine ak (ak (wpAny_typeNameOf_valiter hit.typeIs (aR (ak (wpAny_isOneOf_valiter hit.typeIs ?_)))))
 refine(?_:wpAny _ _ (setField (.ref it) 1 (rawInt ((i:Int)+1)) >>= _) _ _ s);refine ak (wpAny_setField ho hd (by simp) ?_)
 have hit':(s.heap.update it (Obj.mapFields λa=>a.setIfInBounds 1 (rawInt ((i:Int)+1)))).IsValIter it d (i+1) es.size ep:=⟨_,Heap.get?_update_self _ ho (Obj.isFreed_of_fields (Obj.data_mapFields hd _)),(Obj.cls_mapFields ..).trans hc,by rw[Obj.data_mapFields hd];simp[rawInt]⟩
 refine ak (jh (ak (wpAny_isOneOf_valiter (s:={ s with heap:=s.heap.update it (Obj.mapFields λa=>a.setIfInBounds 1 (rawInt ((i:Int)+1))) }) hit'.typeIs ?_)))
 refine ak (wpAny_isOneOf_valiter (s:={ s with heap:=s.heap.update it (Obj.mapFields (·.setIfInBounds 1 (rawInt ((i:Int)+1)))) }) hit'.typeIs (?_:_))
 refine(?_:wpAny _ _ (pure es[i].val) _ _ _);exact aR (aR ⟨_,rfl,aR (hQ _ hit' (Heap.SameBut.update ..))⟩)
theorem Nz{Q:bU->Shared->Prop}(hh:A.handled=none)(hit:s.heap.IsValIter it d i es.size ep)(hm:fB s.heap d es ep)(hi:es.size<=i)(hQ:∀h',Heap.ExtBut it s.heap h'->Q none { s with heap:=h' }):
 wpAny (model prog w) A (pyNext (.ref it)) Q E s:=by
 obtain⟨o,ho,hc,hd⟩:=id hit;obtain⟨od,hod,hcd,hdd⟩:=id hm;have ow:Builtin.Dict_items.ownsTuple "dict_valueiterator" =false:=by decide
 unfold pyNext;refine ak (wpAny_attempt (wpAny_callSpecial?_slot (name:=Str.ofString "__next__") hit.typeIs F.slot_dict_valueiterator_next (jl F.slot_dict_valueiterator_next hit.typeIs F.entry_dict_valueiterator_next ?_ (F.args_dict_valueiterator_next_1 _))));refine ak (aR (ak (ak ?_)))
 first|refine ak (wpAny_typeNameOfWhole_valiter hit.typeIs (aR (ak (wpAny_fieldsOf ho hd ?_))))|refine ak (wpAny_typeNameOf_valiter hit.typeIs (aR (ak (wpAny_fieldsOf ho hd ?_))))
 simp only[ow,lF,if_false];refine(?_:wpAny _ _ (if(Value.ref d==Value.none)=true then _ else _) _ _ s)
 rw[aj (show ¬(Value.ref d==Value.none)=true fromλz=>gZ z)]
 refine ak (aR (ak (t8 hod hdd ?_)));rw[aj (by simp)];refine ak (aR (ak (wpAny_dictEpoch hod hdd ?_)))
 rw[aj (by simp)];refine aR ?_
 simp only[show ¬((i:Int)<0) by omega,if_false,mU,Array.getElem?_eq_none hi]
 first|refine ak (ak (wpAny_typeNameOfWhole_valiter hit.typeIs (aR ?_)))|refine ak (ak (wpAny_typeNameOf_valiter hit.typeIs (aR ?_)))
 refine(?_:wpAny _ _ (setField (.ref it) 0 .none >>= _) _ _ s);refine ak (wpAny_setField ho hd (by simp) ?_)
 refine(?_:wpAny _ _ (newExc (.type "StopIteration") [] >>= _) _ _ _);simp only[newExc,newTuple];refine ak (ak (lH ?_ (by size_fits)))
 refine ak (m:=firstArgMember _ _) (wpAny_of_eq (a:=Value.none) (by first|rfl|(simp only[firstArgMember];rfl)) (lH ?_ (by size_fits)))
 simp only[raiseNew];refine ak (wpAny_handled ?_);rw[show A.in1.handled=none from hh];refine ak (aR (wpAny_throw ?_));refine ak (wpAny_isInstance (T:="StopIteration") (b:=true) ⟨_,dz _ rfl,rfl⟩ isSubtype_stop ?_)
 exact aR (hQ _ (((Heap.SameBut.update ..).extBut.push _).push _))
theorem OL{Q:aP}{v:Addr}(hv:s.heap.IsValuesView v d)(hm:fB s.heap d es ep)
 (hQ:Q (.ref s.heap.objs.size) { s with heap:=s.heap.push { cls:=.type "dict_valueiterator",data:=.fields #[.ref d,.int 0 0,.int es.size 0,.int ep 0] } }):wpAny (model prog w) A (pyIter (.ref v)) Q E s:=by
 obtain⟨ov,hov,hcv,hdv⟩:=id hv;obtain⟨o,ho,hc,hdat⟩:=id hm;have ow:Builtin.Dict_items.ownsTuple "dict_valueiterator" =false:=by decide
 refine wpAny_pyIter_slot hv.typeIs F.slot_dict_values_iter (jl F.slot_dict_values_iter hv.typeIs F.entry_dict_values_iter ?_ (F.args_dict_values_iter_1 _));unfold Builtin.«dict_values.__iter__» Builtin.Dict_items.dictOf Builtin.Dict_items.newIterator;refine ak (aR (ak (ak (wpAny_field hov hdv (x:=.ref d) rfl (aR (ak (ak (t8 ho hdat (ak (wpAny_dictEpoch ho hdat ?_))))))))));simp only[ow,lF,if_false];refine lH (aR ⟨_,rfl,"dict_valueiterator",_,⟨_,dz _ rfl,rfl⟩,F.slot_dict_valueiterator_next.lookup,?_⟩);simpa[rawInt]using hQ
theorem Oo(hd:(d==sysModules)=false):MeetsIn prog w (Builtin.«dict.values» ⟨[.ref d],[]⟩) (λ_ R s=>(∃es ep,fB s.heap d es ep)/\R (.ok (.ret (.ref s.heap.objs.size))) { s with heap:=s.heap.push { cls:=.type "dict_values",data:=.fields #[.ref d] } }):=
 .of_wp λA R s ⟨⟨es,ep,hm⟩,h⟩=>by
  have e0:Builtin.Dict.showsAll d=pure ():=by unfold Builtin.Dict.showsAll;rw[aj (by rw[hd];exact gZ)]
  refine ak ?_;unfold Builtin.Dict.noArgs;refine ak (wpAny_notOrdered_dict hm.ty ?_);refine(aR ?_:wpAny _ _ (pure d) _ _ s);refine(?_:wpAny _ _ (Builtin.Dict.showsAll d >>= _) _ _ s);rw[e0];exact ak (aR (ak (lH (aR ⟨_,rfl,h⟩))))
end
noncomputable def xi:HO->Nat
 | .dK kvs=>kvs.length
 | .dT kvs=>kvs.length
 |_=>0
def FO(u:HO)(i:Nat)(H:Hp)(x:V):Prop:=match u with
 | .dK kvs=>∃kv,kvs[i]? =some kv/\x=kV kv.1
 | .dT kvs=>∃kv b,kvs[i]? =some kv/\x= .ref b/\H b=some (.tup (kv.1.map oV))
 |_=>False
def valAt(u:HO)(i:Nat)(x:V):Prop:=match u with
 | .dK kvs=>∃kv,kvs[i]? =some kv/\x=kv.2
 | .dT kvs=>∃kv,kvs[i]? =some kv/\x=kv.2
 |_=>False
theorem u9{α β:Type}{F:α->β->Prop}:∀{l:List α} {m:List β} {i:Nat} {b:β},Paired F l m->m[i]? =some b->∃a,l[i]? =some a/\F a b
 |_,_,_,_,.nil,e=>by simp at e
 |_,_,0,_,.cons r _,e=>by simp at e;subst e;exact⟨_,rfl,r⟩
 |_,_,i+1,b,.cons _ t,e=>by
  obtain⟨a,h1,h2⟩:=u9 (i:=i) t (by simpa using e)
  exact⟨a,by simpa using h1,h2⟩
theorem CM{k:Key}{u:Value}(h:jx k u=true):RelV (kV k) u:=by
 rcases iw h with⟨i,t,rfl,rfl⟩|⟨x,t,rfl,rfl⟩
 . exact⟨t,rfl⟩
 . exact⟨t,rfl⟩
section
variable {X:Cx}{pins:aF}{σ:L2.St}{H:Hp}{s:Shared}{a:Addr}{o:Obj}{u:HO}
theorem vn(I:Inv X pins σ H s)(h:H a=some (.aZ o u))(du:jB u=true):∃es ep,o.data= .dict es ep/\fB s.heap a es ep/\(a==sysModules)=false/\es.size=xi u/\xi u<=sizeLine/\
 ∀i (hi:i<es.size),(∃x,FO u i H x/\RelV x es[i].key)/\∃x,valAt u i x/\RelV x es[i].val:=by
 obtain⟨g,hz⟩:=I.ar a _ h;cases u<;>first|(cases du;done)|skip
 . rename_i kvs
   obtain⟨z,y,vs,r,o',es,ep,e,c,dd,ks,ps,nd⟩:=hz;rw[g]at e;cases e;have hl:es.size=kvs.length:=by have:=ps.length;have h2:=Paired.length r;simp at this;omega
   refine⟨es,ep,dd,⟨o,g,c,dd⟩,y,hl,z,λi hi=>?_⟩
   have hv:i<vs.length:=by have:=ps.length;simp at this;omega
   obtain⟨p1,p2⟩:=ps.get? (e:=es[i]) (i:=i) (k:=vs[i].1) (v:=vs[i].2) (by simp[hi]) (by simp[hv])
   obtain⟨kv,k1,k2,k3⟩:=u9 (i:=i) r (by simp[hv]:vs[i]? =some vs[i])
   refine⟨⟨kV kv.1,⟨kv,k1,rfl⟩,?_⟩,kv.2,⟨kv,k1,rfl⟩,by rw[p2];exact k3⟩
   rw[k2];exact CM p1
 . rename_i kvs
   obtain⟨z,y,xs,r,o',es,ep,e,c,dd,he,nd⟩:=hz;rw[g]at e;cases e;have hl:es.size=kvs.length:=by have h2:=Paired.length r;have:=congrArg List.length he;simp at this;omega
   refine⟨es,ep,dd,⟨o,g,c,dd⟩,y,hl,z,λi hi=>?_⟩
   have hx:i<xs.length:=by have:=congrArg List.length he;simp at this;omega
   have he':es[i]=entryOfKey (tupleKind (optKind X.prog X.w)) xs[i]:=by
    have:=entry_at (knd:=tupleKind (optKind X.prog X.w)) he i;simpa[hi,hx]using this
   obtain⟨kv,k1,k2,k3,k4⟩:=u9 (i:=i) r (by simp[hx]:xs[i]? =some xs[i])
   rw[he'];exact⟨⟨.ref xs[i].2.1,⟨kv,xs[i].2.1,k1,rfl,k3⟩,rfl⟩,kv.2,⟨kv,k1,rfl⟩,k4⟩
end
noncomputable def ud (o:Obj)(a:Addr)(k:Bool):It:=
 ⟨λi H=>∃u,H a=some (.aZ o u)/\jB u=true/\i<xi u,λi H x H'=>H'=H/\∃u,H a=some (.aZ o u)/\(if k=true then FO u i H x else valAt u i x),λi H=>∃u,H a=some (.aZ o u)/\jB u=true/\xi u<=i⟩
section
variable {P:Program}{w:World}{K:ag}{tg:Expr}{o:Obj}{a it:Addr}{es:Array DictEntry}{ep:Nat}
theorem OT(hd:o.data= .dict es ep):Turn P w K tg (ud o a false) [it] it (λi h=>h.IsValIter it a i es.size ep) where
 mem:=by simp
 obj:=λi h st b hb=>by
  have e:b=it:=by simpa using hb
  subst e;obtain⟨o,e,c,d⟩:=st;exact⟨o,e,λv z=>by rw[d]at z;cases z⟩
 keep:=λi h h' st k=>by obtain⟨o,e,c,d⟩:=st;exact⟨o,k it (by simp) o e,c,d⟩
 item:=by
  intro X hP hw hK hc i pins s σ H E I hf st ⟨u,hg,du,hi⟩;subst hP hw hK;obtain⟨es',ep',d',rd,hS,hl,_,hall⟩:=vn I hg du;rw[hd]at d';cases d';have hi':i<es.size:=by rw[hl];exact hi
  obtain⟨f0,f1,f2,f3,f4,f5⟩:=hf it (by simp)
  refine NB st rd hi' λh' st' sb=>?_
  have I1:Inv X pins σ H { s with heap:=h' }:=I.turned (t':=s.toks) (λb o hb e=>(sb.2 b hb).trans e) f0 f1 f3 f4 f5
  obtain⟨_,x,k1,k2⟩:=hall i hi';obtain⟨oi,e,c,d⟩:=id st';exact⟨_,rfl,sZ (s:={ s with heap:=h' }) e c d ⋯ ⟨x,H,I1,k2,⟨rfl,u,hg,by rw[aj ⋯];exact k1⟩,st',λb hb=>(hf b hb).1⟩⟩
 done:=by
  intro X hP hw hK hc i pins s σ H E I hf st ⟨u,hg,du,hi⟩;subst hP hw hK;obtain⟨es',ep',d',rd,hS,hl,_,hall⟩:=vn I hg du;rw[hd]at d';cases d';obtain⟨f0,f1,f2,f3,f4,f5⟩:=hf it (by simp)
  exact Nz (I.ok.hd hc) st rd (by rw[hl];exact hi) λh' eb=>⟨rfl,I.turned (t':=s.toks) (λb o hb e=>eb b o hb e) f0 f1 f3 f4 f5⟩
 self:=λ_ _ _ _ _ st h=>wpAny_pyIter_valiter st h
end
noncomputable def kR:Key->RV
 | .inl i=>.int i
 | .inr x=>.str x
noncomputable def oR:bC->RV
 |none=>.au
 |some k=>kR k
noncomputable def i7 (k:Bool)(kvs:bO):LR:=if k=true then kvs.map (λkv=>kR kv.1)else kvs.map (·.2)
noncomputable def lh (k:Bool)(kvs:List (TK×RV)):LR:=if k=true then kvs.map (λkv=>.tup (kv.1.map oR))else kvs.map (·.2)
theorem zh{K:ag}{H:Hp}(k:Key):Rep K H (kR k) (kV k):=by cases k<;>simp only[kR,kV,Rep]
theorem Ub{K:ag}{H:Hp}(k:bC):Rep K H (oR k) (oV k):=by
 cases k with
 |none=>simp only[oR,oV,Rep]
 |some k=>exact zh k
theorem DM{K:ag}{H:Hp}:∀ks:TK,ae K H (ks.map oR) (ks.map oV)
 | []=>ae.nil
 |k::ks=>ae.cons (Ub k) (DM ks)
theorem qb{κ:Type}{K:ag}{H:Hp}:∀{xs:List (κ×RV)} {ws:List (κ×V)} {i:Nat} {w:κ×V},aJ K H xs ws->ws[i]? =some w->∃r,xs[i]? =some (w.1,r)/\Rep K H r w.2
 | [],ws,i,w,h,e=>by have h:ws= []:=h;subst h;simp at e
 |(k,x)::r,ws,i,w,h,e=>by
  obtain⟨v,t,rfl,h1,h2⟩:=h;cases i with
  |zero=>simp at e;subst e;exact⟨x,by simp,h1⟩
  |succ i=>
   obtain⟨q,a,b⟩:=qb (i:=i) h2 (by simpa using e)
   exact⟨q,by simpa using a,b⟩
section
variable {H0 Hs:Hp}{K:ag}{H1:Hp}{a:Addr}{o:Obj}{k:Bool}
theorem EK{kvs:bO}{ws:List (Key×V)}{un:RM->RM}(h:H1 a=some (.aZ o (.dK ws)))(r:aJ K H1 kvs ws)
 (th:∀H M,Ext H1 H->View K H M->M a=some (.fk kvs)->∃H',dJ H0 H H'/\bj H H'/\Ext Hs H'/\View K H' (un M)):fW H0 Hs K (ud o a k) (i7 k kvs) (λM=>M a=some (.fk kvs)) un H1 where
 turn:=λi H M e hv hm x hx=>by
  have hH:=e.aE _ _ _ h;have hl:(i7 k kvs).length=ws.length:=by rw[<-gK r];unfold i7;split<;>simp
  have hi:i<ws.length:=by rw[<-hl];exact(hU.mp hx).1
  refine⟨⟨_,hH,rfl,hi⟩,λv H' y=>?_⟩
  obtain⟨rfl,u,hu,y⟩:=y;rw[hH]at hu;cases hu;refine⟨.refl _,λ_ w=>w,?_⟩
  cases k with
  |true=>
   rw[az rfl]at y;obtain⟨kv,e1,rfl⟩:=y;obtain⟨q,e2,_⟩:=qb r e1;have:x=kR kv.1:=by simpa[i7,e2]using hx.symm
   rw[this];exact zh _
  |false=>
   rw[aj ⋯]at y
   obtain⟨kv,e1,rfl⟩:=y;obtain⟨q,e2,rq⟩:=qb r e1;have:x=q:=by simpa[i7,e2]using hx.symm
   rw[this];exact Rep.ext e _ _ rq
 stop:=λi H M e hv hm hi=>by
  have hl:(i7 k kvs).length=ws.length:=by rw[<-gK r];unfold i7;split<;>simp
  exact⟨_,e.aE _ _ _ h,rfl,by rw[hl]at hi;exact hi⟩
 bH:=th
theorem EJ{kvs:List (TK×RV)}{ws:List (TK×V)}{un:RM->RM}(h:H1 a=some (.aZ o (.dT ws)))(r:aJ K H1 kvs ws)
 (th:∀H M,Ext H1 H->View K H M->M a=some (.ft kvs)->∃H',dJ H0 H H'/\bj H H'/\Ext Hs H'/\View K H' (un M)):fW H0 Hs K (ud o a k) (lh k kvs) (λM=>M a=some (.ft kvs)) un H1 where
 turn:=λi H M e hv hm x hx=>by
  have hH:=e.aE _ _ _ h;have hl:(lh k kvs).length=ws.length:=by rw[<-gK r];unfold lh;split<;>simp
  have hi:i<ws.length:=by rw[<-hl];exact(hU.mp hx).1
  refine⟨⟨_,hH,rfl,hi⟩,λv H' y=>?_⟩
  obtain⟨rfl,u,hu,y⟩:=y;rw[hH]at hu;cases hu;refine⟨.refl _,λ_ w=>w,?_⟩
  cases k with
  |true=>
   rw[az rfl]at y;obtain⟨kv,b,e1,rfl,hb⟩:=y;obtain⟨q,e2,_⟩:=qb r e1;have:x= .tup (kv.1.map oR):=by simpa[lh,e2]using hx.symm
   rw[this];simp only[Rep];exact⟨b,_,rfl,hb,DM _⟩
  |false=>
   rw[aj ⋯]at y
   obtain⟨kv,e1,rfl⟩:=y;obtain⟨q,e2,rq⟩:=qb r e1;have:x=q:=by simpa[lh,e2]using hx.symm
   rw[this];exact Rep.ext e _ _ rq
 stop:=λi H M e hv hm hi=>by
  have hl:(lh k kvs).length=ws.length:=by rw[<-gK r];unfold lh;split<;>simp
  exact⟨_,e.aE _ _ _ h,rfl,by rw[hl]at hi;exact hi⟩
 bH:=th
end
noncomputable def qw (k:Bool)(Q:LR->(RM->Prop)->(RM->RM)->RM->Prop):aq:=λv M1=>match v with
 | .ref a=>match M1 a with
  |some (.dk kvs)=>Q (i7 k kvs) (λM=>M a=some (.fk kvs)) (λM=>put M a (.dk kvs)) (put M1 a (.fk kvs))
  |some (.dt kvs)=>Q (lh k kvs) (λM=>M a=some (.ft kvs)) (λM=>put M a (.dt kvs)) (put M1 a (.ft kvs))
  |some (.fk kvs)=>Q (i7 k kvs) (λM=>M a=some (.fk kvs)) id M1
  |some (.ft kvs)=>Q (lh k kvs) (λM=>M a=some (.ft kvs)) id M1
  |_=>False
 |_=>False
def JF(k:Bool)(te:aw):fP:=λσ M Q=>te σ M (qw k Q)
section
variable {X:Cx}{tg:Expr}
theorem hold{pins:aF}{σ0:L2.St}{H H1:Hp}{s:Shared}{k:Bool}{Q:LR->(RM->Prop)->(RM->RM)->RM->Prop}{rv:RV}{v:V}{M1:RM}(I:Inv X pins σ0 H1 s)(e1:Ext H H1)(v1:View X.K H1 M1)(r1:Rep X.K H1 rv v)(q:qw k Q rv M1):
 ∃a o u H2 xs ok un M2,v= .ref a/\Inv X pins σ0 H2 s/\H2 a=some (.aZ o u)/\jB u=true/\fW X.H₀ H X.K (ud o a k) xs ok un H2/\Q xs ok un M2/\Ext H H2/\View X.K H2 M2:=by
 cases rv<;>first|(exact(show False from q).elim)|skip
 rename_i a;simp only[Rep]at r1;unfold qw at q;simp only at q;split at q
 . rename_i kvs em
   obtain⟨ho,eh,ws,rfl,r⟩:=v1 a _ em;obtain⟨ob,g,I2,n0⟩:=y7 I eh rfl;have ex:Ext H1 (upd H1 a (.aZ ob (.dK ws))):=Ext.write eh rfl;refine⟨a,ob,.dK ws,_,_,_,_,_,r1,I2,d6,rfl,EK d6 (r.ext ex) λH2 M e hv hm=>?_,q,e1.trans ex,v1.write em ⟨ob,ws,rfl,r.ext ex⟩⟩
   have hH:=e.aE _ _ _ (d6 (H:=H1) (a:=a) (o:=.aZ ob (.dK ws)));have xw:bj H2 (upd H2 a (.dK ws)):=bj.bH hH rfl;refine⟨upd H2 a (.dK ws),.inr ⟨a,ob,_,hH,rfl,n0,rfl⟩,xw,⟨λb xs z=>?_,λb o' u' z=>?_⟩,hv.write hm ⟨ws,rfl,aJ.aW xw (r.ext (ex.trans e))⟩⟩
   . have z1:=e.aV _ _ (ex.aV _ _ (e1.aV _ _ z))
     rw[aK (by rintro rfl;rw[hH]at z1;cases z1)];exact z1
   . have z0:=e1.aE _ _ _ z
     rw[aK (by rintro rfl;rw[eh]at z0;cases z0)];exact e.aE _ _ _ (ex.aE _ _ _ z0)
 . rename_i kvs em
   obtain⟨ho,eh,ws,rfl,r⟩:=v1 a _ em;obtain⟨ob,g,I2,n0⟩:=y7 I eh rfl;have ex:Ext H1 (upd H1 a (.aZ ob (.dT ws))):=Ext.write eh rfl;refine⟨a,ob,.dT ws,_,_,_,_,_,r1,I2,d6,rfl,EJ d6 (r.ext ex) λH2 M e hv hm=>?_,q,e1.trans ex,v1.write em ⟨ob,ws,rfl,r.ext ex⟩⟩
   have hH:=e.aE _ _ _ (d6 (H:=H1) (a:=a) (o:=.aZ ob (.dT ws)));have xw:bj H2 (upd H2 a (.dT ws)):=bj.bH hH rfl;refine⟨upd H2 a (.dT ws),.inr ⟨a,ob,_,hH,rfl,n0,rfl⟩,xw,⟨λb xs z=>?_,λb o' u' z=>?_⟩,hv.write hm ⟨ws,rfl,aJ.aW xw (r.ext (ex.trans e))⟩⟩
   . have z1:=e.aV _ _ (ex.aV _ _ (e1.aV _ _ z))
     rw[aK (by rintro rfl;rw[hH]at z1;cases z1)];exact z1
   . have z0:=e1.aE _ _ _ z
     rw[aK (by rintro rfl;rw[eh]at z0;cases z0)];exact e.aE _ _ _ (ex.aE _ _ _ z0)
 . rename_i kvs em
   obtain⟨ho,eh,ob,ws,rfl,r⟩:=v1 a _ em;exact⟨a,ob,.dK ws,H1,_,_,_,_,r1,I,eh,rfl,EK eh r (jt e1),q,e1,v1⟩
 . rename_i kvs em
   obtain⟨ho,eh,ob,ws,rfl,r⟩:=v1 a _ em;exact⟨a,ob,.dT ws,H1,_,_,_,_,r1,I,eh,rfl,EJ eh r (jt e1),q,e1,v1⟩
 . exact q.elim
theorem Ef{pins:aF}{σ0:L2.St}{H:Hp}{s:Shared}{a:Addr}{o:Obj}{u:HO}(I:Inv X pins σ0 H s)(h:H a=some (.aZ o u))(du:jB u=true):s.TypeIs (.ref a) "dict"/\∀b,Value.ref a= .ref b->∃ob,s.heap.get? b=some ob/\ob.dict=none:=by
 obtain⟨es,ep,hd,rd,_⟩:=vn I h du;refine⟨rd.ty,λb e=>?_⟩
 cases e;obtain⟨o1,h1,h2,h3⟩:=rd;exact⟨o1,h1,h2.2.1⟩
theorem V2{l:Expr}{te:aw}{ap p:Pos}(hl:ai X l te)(hbase:attributeBase l "values" X.env (eval l X.env)=eval l X.env)(hline:(ap.endLine==p.line)=true):gG X tg (.Call (.Attribute l "values" ap) [] [] p) (JF false te):=by
 intro pins s σ0 H R I h;obtain⟨σ,M,Q,hs,hv,ht,hk⟩:=h;refine wpAny_Call_method (T:="dict") (id:="dict.values") hbase rfl hline F.plainAttrs_dict F.slot_dict_values F.type_dict_values (aB (hl pins s σ0 H (λx H1=>∃rv M1,Rep X.K H1 rv x/\qw false Q rv M1/\Ext H H1/\View X.K H1 M1) I ⟨σ,M,_,hs,hv,ht,λrv M1 v H1 q e1 v1 r1=>⟨rv,M1,r1,q,e1,v1⟩⟩) λuv s1 zz=>?_);obtain⟨v,H1,I1,rl,rv,M1,r1,q,e1,v1⟩:=zz
 obtain⟨a,o,u,H2,xs,ok,un,M2,rfl,I2,hH,du,it,q,e2,v2⟩:=hold I1 e1 v1 r1 q;cases(show uv=Value.ref a from rl)
 obtain⟨es,ep,hd,rd,hS,_⟩:=vn I2 hH du;obtain⟨t1,t2⟩:=Ef I2 hH du;refine⟨t1,t2,method_meetsIn F.slot_dict_values F.entry_dict_values rfl (PySem.evalArgs_none ⟨rfl,t1,F.args_dict_values_1 _,_,Oo hS,⟨es,ep,rd⟩,?_⟩)⟩;have I3:Inv X pins σ0 H2 { s1 with heap:=s1.heap.push { cls:=.type "dict_values",data:=.fields #[.ref a] } }:=I2.kept (t':=s1.toks) λb o e=>bS _ e
 have rd3:fB (s1.heap.push { cls:=.type "dict_values",data:=.fields #[.ref a] }) a es ep:=by obtain⟨o1,h1,h2⟩:=rd;exact⟨o1,bS _ h1,h2⟩
 refine OL (s:={ s1 with heap:=s1.heap.push { cls:=.type "dict_values",data:=.fields #[.ref a] } }) ⟨_,dz _ rfl,rfl,rfl⟩ rd3 ?_
 refine⟨_,[_],_,_,H2,rfl,I3.kept (t':=s1.toks) λb o e=>bS _ e,OT hd,⟨_,dz _ rfl,rfl,rfl⟩,λb hb=>?_,hk xs ok un M2 _ H2 q e2 v2 it⟩
 have e:=t6.mp hb;subst e;exact I3.fE (ba _) (I3.ar.fresh (ba _))
end
noncomputable def Itm (o:Obj)(a:Addr):It:=
 ⟨λi H=>∃ws:List (Key×V),H a=some (.aZ o (.dK ws))/\i<ws.length,λi H x H'=>∃(ws:List (Key×V)) (kv:Key×V) (p:Addr),H a=some (.aZ o (.dK ws))/\ws[i]? =some kv/\x= .ref p/\H p=none/\H'=upd H p (.tup [kV kv.1,kv.2]),λi H=>∃ws:List (Key×V),H a=some (.aZ o (.dK ws))/\ws.length<=i⟩
section
variable {X:Cx}
theorem yR{pins:aF}{σ:L2.St}{H:Hp}{s:Shared}{a:Addr}{o:Obj}{ws:List (Key×V)}(I:Inv X pins σ H s)(h:H a=some (.aZ o (.dK ws))):∃vs es ep,o.data= .dict es ep/\KV ws vs/\s.heap.DictAt (cH X.prog X.w) a vs ep/\(a==sysModules)=false/\vs.length=es.size:=by
 obtain⟨g,z,y,vs,r,o',es,ep,e,c,dd,ks,ps,nd⟩:=I.ar a _ h;rw[g]at e;cases e;exact⟨vs,es,ep,dd,r,⟨o,es,g,c,dd,ks,ps,nd⟩,y,by have:=ps.length;simp at this;omega⟩
theorem Ny:entryFor table "dict_itemiterator.__iter__" =some Builtin.«dict_keyiterator.__iter__»:=entryFor_alias (id':="dict_keyiterator.__iter__") (by kernel_rfl) rfl (by decide+kernel) (by kernel_rfl)
theorem OG{P:Program}{w:World}{K:ag}{o:Obj}{a it:Addr}{es:Array DictEntry}{ep:Nat}{ts:aT}{tk:Nat}{tp:Pos}(hd:o.data= .dict es ep):Turn P w K (.Tuple ts tk tp) (Itm o a) [it] it (λi h=>∃ok ov,IsItemIter h it a i es.size ep ok ov) where
 mem:=by simp
 obj:=λi h st b hb=>by
  have e:b=it:=by simpa using hb
  subst e;obtain⟨_,_,st⟩:=st;exact⟨_,st,λv z=>by cases z⟩
 keep:=λi h h' st k=>by obtain⟨x,y,st⟩:=st;exact⟨x,y,k it (by simp) _ st⟩
 item:=by
  intro X hP hw hK hc i pins s σ H E I hf ⟨x0,y0,st⟩ ⟨ws,hg,hi⟩;subst hP hw hK;obtain⟨vs,es',ep',d',r,da,hS,hl⟩:=yR I hg;rw[hd]at d';cases d';have hv:i<vs.length:=by have:=Paired.length r;omega
  obtain⟨kv,k1,k2,k3⟩:=u9 (i:=i) r (by simp[hv]:vs[i]? =some vs[i])
  obtain⟨f0,f1,f2,f3,f4,f5⟩:=hf it (by simp)
  refine wpAny_pyNext_items_item (knd:=cH X.prog X.w) (k:=vs[i].1) (v:=vs[i].2) (by rw[hl];exact st) da (by simp[hv]) λkey h' hk st' tp' sz kp=>⟨_,rfl,?_⟩
  refine wpAny_letOwnedTupleGo_items (s:={ s with heap:=h' }) st' λh2 st2 sb=>?_
  have iR:=I.ar.fresh (ba s.heap.objs.size);have hpi:s.heap.objs.size≠it:=Nat.ne_of_gt (bB st);have t2:h2.get? s.heap.objs.size=some { cls:=.type "tuple",data:=.seq #[key,vs[i].2] }:=sb.extBut _ _ hpi tp';have rk:Vals [kV kv.1,kv.2] [key,vs[i].2]:=.cons (by rw[k2];exact CM hk) (.cons k3 .nil)
  have I1:Inv X pins σ (upd H s.heap.objs.size (.tup [kV kv.1,kv.2])) { s with heap:=s.heap.push { cls:=.type "tuple",data:=.seq #[key,vs[i].2] },toks:=s.toks }:=
   I.laid (λb o e=>bS _ e) (ba _) ⟨by show 2<=sizeLine;decide,[key,vs[i].2],rk,IsTup.new s.heap _⟩
  have I2:Inv X pins σ (upd H s.heap.objs.size (.tup [kV kv.1,kv.2])) { s with heap:=h2 }:=Inv.turned (s:={ s with heap:=s.heap.push { cls:=.type "tuple",data:=.seq #[key,vs[i].2] },toks:=s.toks }) (h':=h2) (t':=s.toks) (it:=it) I1 (λb o hb e=>?_) (by rw[aK hpi.symm];exact f0) f1 f3 f4 f5
  . exact⟨.ref s.heap.objs.size,_,I2,rfl,⟨ws,kv,_,hg,k1,rfl,iR,rfl⟩,⟨_,_,by rw[<-hl];exact st2⟩,λb hb=>by
     have e:b=it:=by simpa using hb
     subst e;rw[aK hpi.symm];exact f0⟩
  . rcases Heap.get?_push_cases e with⟨rfl,rfl⟩|e'
    . exact t2
    . exact sb.extBut b o hb (kp b o hb e')
 done:=by
  intro X hP hw hK hc i pins s σ H E I hf ⟨x0,y0,st⟩ ⟨ws,hg,hi⟩;subst hP hw hK;obtain⟨vs,es',ep',d',r,da,hS,hl⟩:=yR I hg;rw[hd]at d';cases d';have hv:vs.length<=i:=by have:=Paired.length r;omega
  obtain⟨f0,f1,f2,f3,f4,f5⟩:=hf it (by simp)
  exact wpAny_pyNext_items_end (knd:=cH X.prog X.w) (I.ok.hd hc) (by rw[hl];exact st) da (by simp[hv]) λh' eb=>⟨rfl,I.turned (t':=s.toks) (λb o hb e=>eb b o hb e) f0 f1 f3 f4 f5⟩
 self:=λA i s Q E st h=>by
  obtain⟨x,y,st⟩:=st;have hT:s.TypeIs (.ref it) "dict_itemiterator":=⟨_,st,rfl⟩;refine wpAny_pyIter_slot hT F.slot_dict_itemiterator_iter (jl F.slot_dict_itemiterator_iter hT Ny ?_ (F.args_dict_itemiterator_iter_1 _));refine(?_:wpAny _ _ (ret (.ref it)) _ _ s);exact aR ⟨_,rfl,"dict_itemiterator",_,hT,F.slot_dict_itemiterator_next.lookup,h⟩
noncomputable def iU (kvs:bO):LR:=kvs.map λkv=>.tup [kR kv.1,kv.2]
theorem EL{H0 Hs:Hp}{K:ag}{H1:Hp}{a:Addr}{o:Obj}{kvs:bO}{ws:List (Key×V)}{un:RM->RM}(h:H1 a=some (.aZ o (.dK ws)))(r:aJ K H1 kvs ws)
 (th:∀H M,Ext H1 H->View K H M->M a=some (.fk kvs)->∃H',dJ H0 H H'/\bj H H'/\Ext Hs H'/\View K H' (un M)):fW H0 Hs K (Itm o a) (iU kvs) (λM=>M a=some (.fk kvs)) un H1 where
 turn:=λi H M e hv hm x hx=>by
  have hH:=e.aE _ _ _ h;have hl:(iU kvs).length=ws.length:=by rw[<-gK r];simp[iU]
  have hi:i<ws.length:=by rw[<-hl];exact(hU.mp hx).1
  refine⟨⟨_,hH,hi⟩,λv H' y=>?_⟩
  obtain⟨ws',kv,p,hu,e1,rfl,hn,rfl⟩:=y;rw[hH]at hu;cases hu;obtain⟨q,e2,rq⟩:=qb r e1;have:x= .tup [kR kv.1,q]:=by simpa[iU,e2]using hx.symm
  rw[this];exact⟨Ext.new hn,λ_ w=>w.new hn,sE hn (ae.cons (zh _) (ae.cons (Rep.ext e _ _ rq) ae.nil))⟩
 stop:=λi H M e hv hm hi=>by
  have hl:(iU kvs).length=ws.length:=by rw[<-gK r];simp[iU]
  exact⟨_,e.aE _ _ _ h,by rw[hl]at hi;exact hi⟩
 bH:=th
noncomputable def pz (Q:LR->(RM->Prop)->(RM->RM)->RM->Prop):aq:=λv M1=>match v with
 | .ref a=>match M1 a with
  |some (.dk kvs)=>Q (iU kvs) (λM=>M a=some (.fk kvs)) (λM=>put M a (.dk kvs)) (put M1 a (.fk kvs))
  |some (.fk kvs)=>Q (iU kvs) (λM=>M a=some (.fk kvs)) id M1
  |_=>False
 |_=>False
def JD(te:aw):fP:=λσ M Q=>te σ M (pz Q)
theorem WV{pins:aF}{σ0:L2.St}{H H1:Hp}{s:Shared}{Q:LR->(RM->Prop)->(RM->RM)->RM->Prop}{rv:RV}{v:V}{M1:RM}(I:Inv X pins σ0 H1 s)(e1:Ext H H1)(v1:View X.K H1 M1)(r1:Rep X.K H1 rv v)(q:pz Q rv M1):
 ∃a o ws H2 xs ok un M2,v= .ref a/\Inv X pins σ0 H2 s/\H2 a=some (.aZ o (.dK ws))/\fW X.H₀ H X.K (Itm o a) xs ok un H2/\Q xs ok un M2/\Ext H H2/\View X.K H2 M2:=by
 cases rv<;>first|(exact(show False from q).elim)|skip
 rename_i a;simp only[Rep]at r1;unfold pz at q;simp only at q;split at q
 . rename_i kvs em
   obtain⟨ho,eh,ws,rfl,r⟩:=v1 a _ em;obtain⟨ob,g,I2,n0⟩:=y7 I eh rfl;have ex:Ext H1 (upd H1 a (.aZ ob (.dK ws))):=Ext.write eh rfl;refine⟨a,ob,ws,_,_,_,_,_,r1,I2,d6,EL d6 (r.ext ex) λH2 M e hv hm=>?_,q,e1.trans ex,v1.write em ⟨ob,ws,rfl,r.ext ex⟩⟩
   have hH:=e.aE _ _ _ (d6 (H:=H1) (a:=a) (o:=.aZ ob (.dK ws)));have xw:bj H2 (upd H2 a (.dK ws)):=bj.bH hH rfl;refine⟨upd H2 a (.dK ws),.inr ⟨a,ob,_,hH,rfl,n0,rfl⟩,xw,⟨λb xs z=>?_,λb o' u' z=>?_⟩,hv.write hm ⟨ws,rfl,aJ.aW xw (r.ext (ex.trans e))⟩⟩
   . have z1:=e.aV _ _ (ex.aV _ _ (e1.aV _ _ z))
     rw[aK (by rintro rfl;rw[hH]at z1;cases z1)];exact z1
   . have z0:=e1.aE _ _ _ z
     rw[aK (by rintro rfl;rw[eh]at z0;cases z0)];exact e.aE _ _ _ (ex.aE _ _ _ z0)
 . rename_i kvs em
   obtain⟨ho,eh,ob,ws,rfl,r⟩:=v1 a _ em;exact⟨a,ob,ws,H1,_,_,_,_,r1,I,eh,EL eh r (jt e1),q,e1,v1⟩
 . exact q.elim
theorem Uo{l:Expr}{te:aw}{ap p:Pos}{ts:aT}{tk:Nat}{tp:Pos}(hl:ai X l te)(hbase:attributeBase l "items" X.env (eval l X.env)=eval l X.env)(hline:(ap.endLine==p.line)=true):gG X (.Tuple ts tk tp) (.Call (.Attribute l "items" ap) [] [] p) (JD te):=by
 intro pins s σ0 H R I h;obtain⟨σ,M,Q,hs,hv,ht,hk⟩:=h;refine wpAny_Call_method (T:="dict") (id:="dict.items") hbase rfl hline F.plainAttrs_dict F.slot_dict_items F.type_dict_items (aB (hl pins s σ0 H (λx H1=>∃rv M1,Rep X.K H1 rv x/\pz Q rv M1/\Ext H H1/\View X.K H1 M1) I ⟨σ,M,_,hs,hv,ht,λrv M1 v H1 q e1 v1 r1=>⟨rv,M1,r1,q,e1,v1⟩⟩) λuv s1 zz=>?_);obtain⟨v,H1,I1,rl,rv,M1,r1,q,e1,v1⟩:=zz
 obtain⟨a,o,ws,H2,xs,ok,un,M2,rfl,I2,hH,it,q,e2,v2⟩:=WV I1 e1 v1 r1 q;cases(show uv=Value.ref a from rl)
 obtain⟨vs,es,ep,hd,r,da,hS,hl⟩:=yR I2 hH;obtain⟨t1,t2⟩:=Ef I2 hH rfl;refine⟨t1,t2,method_meetsIn F.slot_dict_items F.entry_dict_items rfl (PySem.evalArgs_none ⟨rfl,t1,F.args_dict_items_1 _,_,meets_dict_items (cH X.prog X.w) a hS,⟨vs,da.dictOf⟩,?_⟩)⟩;have I3:Inv X pins σ0 H2 { s1 with heap:=s1.heap.push { cls:=.type "dict_items",data:=.fields #[.ref a] } }:=I2.kept (t':=s1.toks) λb o e=>bS _ e
 refine wpAny_pyIter_items (s:={ s1 with heap:=s1.heap.push { cls:=.type "dict_items",data:=.fields #[.ref a] } }) ⟨_,dz _ rfl,rfl,rfl⟩ (da.push _) ?_
 have hlt:a<s1.heap.objs.size:=da.lt_size;refine⟨_,[_],_,_,H2,rfl,I3.kept (t':=s1.toks) λb o e=>bS _ e,OG hd,⟨_,_,by rw[<-hl];exact dz _ rfl⟩,λb hb=>?_,hk xs ok un M2 _ H2 q e2 v2 it⟩
 have e:=t6.mp hb;subst e;exact I3.fE (ba _) (I3.ar.fresh (ba _))
end
noncomputable def wB:RO->Option (LR)
 | .dk kvs=>some (kvs.map (·.2))
 | .fk kvs=>some (kvs.map (·.2))
 | .dt kvs=>some (kvs.map (·.2))
 | .ft kvs=>some (kvs.map (·.2))
 |_=>none
def K3(md:Bool)(Q:aq):aq:=λv M=>match v with
 | .ref a=>match(M a).bind wB with
  |some xs=>lx md xs M Q
  |none=>False
 |_=>False
noncomputable def kJ:bC->bC->Bool
 |some (.inl _),some (.inl _)=>true
 |some (.inr _),some (.inr _)=>true
 |_,_=>false
section
variable {prog:Program}{w:World}{A:Around}{s:Shared}{E:aP}
structure qEk(v:Str)(params:Arguments)(scope:Scope):Prop where
 bd:∀name qual body pm cd ct u,bindArgs (kla_fn name qual params body scope [] pm cd ct) ⟨[u],[]⟩=pure [(v,u)]
 loc:scope.names.lookup v=some .local
 cell:∀y∈scope.names,y.2≠.cell
 co:scope.isCoroutine=false
 gen:scope.isGenerator=false
 kind:scope.kind= .function
 kD:(v==("__debug__":Str))=false
end
section
variable {prog:Program}{w:World}{A:Around}{E:aP}{s:Shared}
theorem OI{a:Addr}{vs:ao}{n:Nat}{P:Fin->Shared->Prop}(ho:s.heap.get? a=some (seqObj "list" vs.toArray n))(h1:vs.length<2)
 (h:P (.done (.ret .none)) { s with heap:=sortedHeap s.heap a vs vs.toArray }):wpAny (model prog w) A (Builtin.«list.sort» ⟨[.ref a],[]⟩) P E s:=by
 have big:(2:Nat)<=sizeLine:=by decide
 obtain⟨e1,ho1⟩:∃e1,(s.heap.update a (Obj.mapSeq λ_=>(#[]:Array Value))).get? a=some (seqObj "list" #[] e1):=⟨_,get?_update_seq ho λ_=>#[]⟩
 rw[list_sort_plain];refine ak (listItems_at ho rfl (ak (listUpdate_at ho rfl (ak (seqEpoch_at ho1 rfl (ak (wpAny_newTuple (ak (wpAny_newList (jh ?_) (lQ _))) (by show vs.length<=_;omega))))) (by rw[dW];omega) (lQ _))))
 let g:=((s.heap.update a (Obj.mapSeq λ_=>(#[]:Array Value))).push (seqObj "tuple" vs.toArray 0)).push (seqObj "list" #[] 0)
 have hg:g.get? a=some (seqObj "list" #[] e1):=bS _ (bS _ ho1);show wpAny (model prog w) A _ P E { s with heap:=g }
 dsimp only;have fin:∀(st:SortSt),(arrOf st).map (·.2)=vs.toArray->failedOf st=none->wpAny (model prog w) A (do
  let touched:=(<-seqEpoch a) != e1
  Builtin.List.listUpdate (.ref a) λ_=>(arrOf st).map (·.2)
  if let some e:=failedOf st then rule "list.sort.comparison-raised";throw e
  if touched then rule "list.sort.modified";raiseError "ValueError" "list modified during sort"
  ret .none) P E { s with heap:=g }:=λst e ef=>by
  rw[e,ef];refine ak (seqEpoch_at hg rfl (ak (listUpdate_at hg rfl ?_ (lQ _) (by rw[dW];omega))))
  simp only[bne_self_eq_false,lF,if_false];exact aR h
 have h2:vs.toArray.size<2:=by simpa using h1
 rw[az h2,az h2];refine ak (aR ?_);rw[StateT.run_pure];refine ak (aR (fin _ ?_ rfl));show(vs.toArray.zip vs.toArray).map (·.2)=_
 apply Array.toList_inj.mp;simp[List.map_snd_zip]
theorem NG{l:Addr}{vs:ao}{Q:aP}(hl:s.heap.IsList l vs.toArray)(h1:vs.length<2)
 (h:∀B h' e,(∀b o,s.heap.get? b=some o->h'.get? b=some o)->s.heap.get? B=none->h'.get? B=some (seqObj "list" vs.toArray e)->Q (.ref B) { s with heap:=h' }):
 wpAny (model prog w) A (call (.builtin "sorted") [.ref l]) Q E s:=by
 have big:(2:Nat)<=sizeLine:=by decide
 refine Calls.call_function_entry kind_sorted plain_sorted entry_sorted (args_sorted1 (.ref l)) ?_;unfold Builtin.«sorted»;refine ak (m:=checkCount "sorted" 1 1 _) (aR (ak (collect_list hl (ak (wpAny_newList ?_ ∅)) ∅)))
 let g0:=(s.heap.push (seqObj "list" #[] 0)).update s.heap.objs.size (Obj.mapSeq (. ++vs.toArray))
 have z0:g0.objs.size=s.heap.objs.size+1:=by show Array.size (Heap.objs (Heap.update _ _ _))=_;rw[Heap.size_update,size_push']
 have kp:∀b o,s.heap.get? b=some o->(g0.push (seqObj "list" vs.toArray 0)).get? b=some o:=λb o e=>bS _ (by
  show Heap.get? (Heap.update _ _ _) b=_;rw[Heap.get?_update_ne _ _ _ _ (cx (bB e))];exact bS _ e)
 have hB:s.heap.get? g0.objs.size=none:=Heap.get?_none_of_le (by rw[z0];exact Nat.le_succ _)
 have hoL:(g0.push (seqObj "list" vs.toArray 0)).get? g0.objs.size=some (seqObj "list" vs.toArray 0):=dz _ rfl;show wpAny _ _ _ _ _ { s with heap:=g0.push (seqObj "list" vs.toArray 0) }
 refine ak (jh (jl PyProof.Rows.slot_list_sort ⟨_,hoL,rfl⟩ PyProof.Rows.entry_list_sort (OI (s:={ s with heap:=g0.push (seqObj "list" vs.toArray 0) }) hoL h1 ⟨_,rfl,?_⟩) (PyProof.Rows.args_list_sort (.ref g0.objs.size))))
 obtain⟨e,he⟩:=sortedHeap_at (out:=vs.toArray) hoL;refine aR ⟨_,rfl,h g0.objs.size _ e (λb o q=>?_) hB he⟩
 have ne:b≠g0.objs.size:=λz=>by rw[z,hB]at q;cases q
 rw[sortedHeap_old ne (by rw[size_push'];exact xG (by rw[z0];exact xG (bB q)))]
 exact kp b o q
end
def zi:LR->RM->aq->Prop:=λrs M Q=>match rs with
 | [.ls xs]=>xs.length<2/\Q (.ls xs) M
 |_=>E4 rs M Q
section
variable {X:Cx}
theorem Vd(hc:X.calm=true):cV X (.builtin "sorted") (eE X.K zi):=by
 intro pins s σ H xs us Q0 I rl h;obtain⟨rs,M,Q,rr,hv,hq,hk⟩:=h;unfold zi at hq;split at hq
 . rename_i ys
   simp only[ae,Rep]at rr;obtain⟨v,r,rfl,⟨a,ws,rfl,hf,hg⟩,rfl⟩:=rr;obtain⟨u,rfl,ru⟩:=vals1 rl;cases ru;obtain⟨its,hw,⟨o,n,g1,g2,g3,g4⟩,hz⟩:=I.list hf.sq;have l1:ys.length=ws.length:=hg.length;have l2:ws.length=its.length:=hw.length;refine NG ⟨o,g1,g2,n,g4⟩ ∅ λB h' e kp hB hget=>?_
   have hn:=none_of I hB;exact frozen ⟨.ref B,upd H B (.lst ws),FY (t':=s.toks) I kp hB ⟨hz,its,e,hw,hget⟩,rfl,H,B,_,rfl,hn,rfl,λo=>hk _ M _ _ hq.2 (Ext.new hn) (hv.new hn) (oY hn hg)⟩
 . exact Qm hc pins s σ H xs us Q0 I rl ⟨_,M,Q,rr,hv,hq,hk⟩
end
section
variable {X:Cx}{pins:aF}{σ:L2.St}{H:Hp}{s:Shared}{h':Heap}
theorem DH{t':Nat}{its:List Addr}(I:Inv X pins σ H s)(k:∀b o,b∉its->s.heap.get? b=some o->h'.get? b=some o)(hf:∀b∈its,jb X pins H b):Inv X pins σ H { s with heap:=h',toks:=t' }:=by
 have off:∀b u,H b=some u->b∉its:=λb u e z=>by rw[(hf b z).1]at e;cases e
 refine I.step (g':=s.gens) (d':=s.drawn) (ch:=its) (λb hb=>⟨(hf b hb).2.2.2.1,(hf b hb).2.1,(hf b hb).2.2.2.2.1,(hf b hb).2.2.2.2.2⟩) (λb o _ _ hc e _=>k b o hc e) (λb o _ _ hc e _=>⟨o.slots,k b o hc e⟩) (λ_ _ _ _ n=>n)
  (λb o hc e=>⟨o,k b o hc e⟩) (λ_ _ e=>e) (λ_ _ _ e=>e) (λb ps e=>⟨#[],by rw[e];simp⟩) (λm hm=>?_) (λb u e=>?_) I.bare
 . obtain⟨o,es,ep,ho,r⟩:=hm
   exact⟨o,es,ep,k _ o (λz=>(hf _ z).2.1 rfl) ho,r⟩
 . refine(I.ar b u e).cY (λc v hc q=>k c v ?_ q) (λ_ q=>q) λ_ _ q=>q
   rcases hc with z|z
   . rw[z];exact off b u e
   . exact off c _ z
end
noncomputable def ub (K:ag)(l:Addr):It:=
 ⟨λi H=>∃xs x,bM K H l xs/\xs[i]? =some x,
  λi H v H'=>∃p x,v= .ref p/\H p=none/\H'=upd H p (.tup [.int (i:Int),x])/\∀xs,bM K H l xs->xs[i]? =some x,
  λi H=>∃xs,bM K H l xs/\xs.length<=i⟩
def Nt(h:Heap)(e it l:Addr)(n:Nat):Prop:=(∃old,IsEnum h e it n old)/\h.IsListIter it l n
theorem OV{P:Program}{w:World}{K:ag}{ts:aT}{tk:Nat}{tp:Pos}{e it l:Addr}(hne:e≠it):Turn P w K (.Tuple ts tk tp) (ub K l) [e,it] e (λn h=>Nt h e it l n) where
 mem:=by simp
 obj:=λn h st b hb=>by
  obtain⟨⟨old,q1⟩,⟨o2,q2,_,d2⟩⟩:=st;simp only[cM,lA,or_false]at hb;rcases hb with rfl|rfl
  . exact⟨_,q1,λv e=>by cases e⟩
  . exact⟨o2,q2,λv e=>by rw[d2]at e;cases e⟩
 keep:=λn h h' st kp=>by
  obtain⟨⟨old,q1⟩,q2⟩:=st;exact⟨⟨old,kp _ (by simp) _ q1⟩,q2.at λo e=>kp _ (by simp) o e⟩
 item:=by
  intro X hP hw hK hc n pins s σ H E I hf st hg;subst hP hw hK;obtain⟨xs,x,t1,hx⟩:=hg;obtain⟨its,rv,p,hz⟩:=I.list t1;obtain⟨u,hu,ru⟩:=rv.get hx;obtain⟨⟨old,q1⟩,q2⟩:=id st;have iR:=I.ar.fresh (ba s.heap.objs.size);have e1:e<s.heap.objs.size:=bB q1;have e2:it<s.heap.objs.size:=by obtain⟨o,q,_⟩:=q2;exact bB q
  have new:∀b∈[e,it],b<s.heap.objs.size:=λb hb=>by
   simp only[cM,lA,or_false]at hb;rcases hb with rfl|rfl
   . exact e1
   . exact e2
  refine wpAny_pyNext_enum_item q1 q2 p.isList (by simpa using hu) hne λg S it' tp' sz kk=>⟨_,rfl,?_⟩
  refine wpAny_letOwnedTupleGo_enum (s:={ s with heap:=g,toks:=s.toks+1 }) S λg' z' sb=>?_
  have pe:s.heap.objs.size≠e:=Nat.ne_of_gt e1;have pr':g'.get? s.heap.objs.size=some { cls:=.type "tuple",data:=.seq #[.int n s.toks,u] }:=sb.extBut _ _ pe tp';have I1:=I.laid (h':=s.heap.push { cls:=.type "tuple",data:=.seq #[.int n s.toks,u] }) (a:=s.heap.objs.size) (o:=.tup [.int (n:Int),x]) (t':=s.toks+1) (λb o e=>bS _ e) (ba _) ⟨show 2<=sizeLine by decide,[.int n s.toks,u],.cons ⟨_,rfl⟩ (.cons ru .nil),⟨_,dz _ rfl,rfl,_,rfl⟩⟩
  have fp':∀b∈[e,it],jb X pins (upd H s.heap.objs.size (.tup [.int (n:Int),x])) b:=λb hb=>by
   have z1:=hf b hb;exact⟨by rw[aK (cx (new b hb))];exact z1.1,z1.2⟩
  have I2:=DH (h':=g') (t':=s.toks+1) (its:=[e,it]) I1 (λb o hb ee=>by
   have hbe:b≠e:=λz=>hb (by simp[z])
   have hbi:b≠it:=λz=>hb (by simp[z])
   rcases Heap.get?_push_cases ee with⟨rfl,rfl⟩|e2
   . exact pr'
   . exact sb.extBut b o hbe (kk b o hbe hbi e2)) fp'
  refine⟨.ref s.heap.objs.size,upd H s.heap.objs.size (.tup [.int (n:Int),x]),I2,rfl,⟨_,x,rfl,iR,rfl,λxs' t1'=>?_⟩,?_,λb hb=>?_⟩
  . rw[I.fG t1' t1];exact hx
  . exact⟨⟨_,z'⟩,it'.at λo q=>sb.extBut _ o (d9 hne) q⟩
  . rw[aK (cx (new b hb))];exact(hf b hb).1
 done:=by
  intro X hP hw hK hc n pins s σ H E I hf st hg;subst hP hw hK;obtain⟨xs,t1,hn⟩:=hg;obtain⟨its,rv,p,hz⟩:=I.list t1;obtain⟨⟨old,q1⟩,q2⟩:=id st;have hl:=rv.length;refine wpAny_pyNext_enum_end (I.ok.hd hc) q1 q2 p.isList (by simp;omega) λh' ex=>⟨rfl,?_⟩
  exact DH (h':=h') (t':=s.toks) (its:=[it]) I (λb o hb ee=>ex b o (λz=>hb (by simp[z])) ee) λb hb=>hf b (by simp at hb ⊢;exact .inr hb)
 self:=λA n s Q E st h=>by
  obtain⟨⟨old,q1⟩,q2⟩:=st;exact wpAny_pyIter_enum q1 h
noncomputable def gu:Nat->LR->LR
 |_,[]=>[]
 |n,x::r=>.tup [.int (n:Int),x]::gu (n+1) r
theorem Ee:∀(xs:LR) (n i:Nat) (y:RV),(gu n xs)[i]? =some y->∃x,xs[i]? =some x/\y= .tup [.int ((n+i:Nat):Int),x]
 | [],n,i,y,h=>by simp[gu]at h
 |x::r,n,0,y,h=>by simp[gu]at h;exact⟨x,rfl,by simp[h]⟩
 |x::r,n,i+1,y,h=>by
  obtain⟨z,e1,e2⟩:=Ee r (n+1) i y (by simpa[gu]using h)
  exact⟨z,by simpa using e1,by rw[e2];congr 4;omega⟩
theorem Ed:∀(xs:LR) (n:Nat),(gu n xs).length=xs.length
 | [],_=>rfl
 |x::r,n=>by simp[gu,Ed r (n+1)]
theorem EM{H0 Hs:Hp}{K:ag}{H1:Hp}{l:Addr}{xs:LR}{ok:RM->Prop}(es:Ext Hs H1)(h:∀H M,Ext H1 H->View K H M->ok M->∃vs,bM K H l vs/\ae K H xs vs):fW H0 Hs K (ub K l) (gu 0 xs) ok id H1 where
 turn:=λi H M e v m x hx=>by
  obtain⟨vs,t1,r1⟩:=h H M e v m;obtain⟨z,e1,rfl⟩:=Ee xs 0 i x hx;obtain⟨w,hw,rw_⟩:=r1.get e1;refine⟨⟨vs,w,t1,hw⟩,λu H' y=>?_⟩
  obtain⟨q,w',rfl,hn,rfl,k1⟩:=y;have e2:=k1 vs t1;rw[hw]at e2;cases e2;refine⟨Ext.new hn,λM vw=>vw.new hn,sE hn (ae.cons ?_ (ae.cons rw_ ae.nil))⟩
  simp only[Rep];simp
 stop:=λi H M e v m hi=>by
  obtain⟨vs,t1,r1⟩:=h H M e v m;exact⟨vs,t1,by rw[Ed]at hi;rw[<-r1.length];exact hi⟩
 bH:=jt es
noncomputable def pV (Q:LR->(RM->Prop)->(RM->RM)->RM->Prop):LR->RM->Prop:=λrs M1=>match rs with
 | [.ls xs]=>Q (gu 0 xs) cu id M1
 | [.ref a]=>match M1 a with
  |some (.lst xs)=>Q (gu 0 xs) (λM=>M a=some (.lst xs)) id M1
  |_=>False
 |_=>False
def JE(t:aw):fP:=λσ M Q=>t σ M λv M1=>pV Q [v] M1
section
variable {X:Cx}
theorem WR{a:Expr}{t:aw}{p pos:Pos}{ts:aT}{tk:Nat}{tp:Pos}(hm:X.mg "enumerate" =none)(ha:ai X a t)(hgl:Gl X "enumerate")
 (hst:starEach [a] X.env= [(false,eval a X.env)]) (he1:starEach [a] X.env=(false,eval a X.env)::starEach [] X.env):gG X (.Tuple ts tk tp) (.Call (.Name "enumerate" p) [a] [] pos) (JE t):=by
 intro pins s σ0 H R I h;obtain⟨σ,M,Q,hs,hv,ht,hk⟩:=h;have args:cw X [a] (mC t jA):=kZ ha pG he1;refine Call_ (sS I hgl hm boot_enumerate (AE (aB (args pos pins s σ0 H (λvs H1=>∃l ws rs ok M1,vs= [.ref l]/\bM X.K H1 l ws/\fW X.H₀ H X.K (ub X.K l) rs ok id H1/\Q rs ok id M1/\Ext H H1/\View X.K H1 M1) I ⟨σ,M,pV Q,hs,hv,ht,λrs M1 vs H1 q e1 v1 r1=>?_⟩) λus s1 q1=>?_) hst rfl))
 . unfold pV at q
   split at q
   . rename_i xs
     obtain⟨v,rfl,r2⟩:=r1.one;simp only[Rep]at r2;obtain⟨l,ws,rfl,hf,hr⟩:=r2;exact⟨l,ws,_,_,M1,rfl,hf.sq,EM e1 λH' M' e' _ _=>⟨ws,(hf.ext e').sq,hr.ext e'⟩,q,e1,v1⟩
   . rename_i b
     obtain⟨v,rfl,r2⟩:=r1.one;simp only[Rep]at r2;subst r2;split at q
     . rename_i xs em
       obtain⟨ho,eh,ws,rfl,hr⟩:=v1 b _ em;refine⟨b,ws,_,_,M1,rfl,bM.of eh,EM e1 λH' M' e' v' m'=>?_,q,e1,v1⟩
       obtain⟨ho,eh,ws,rfl,hr⟩:=v' b _ m';exact⟨ws,bM.of eh,hr⟩
     . exact q.elim
   . exact q.elim
 . obtain⟨vs,H1,I1,rv,l,ws,rs,ok,M1,rfl,hq,hi,q,e1,v1⟩:=q1
   obtain⟨u1,us1,rfl,q1,rv⟩:=Vals.cons_inv rv;cases rv;cases q1;obtain⟨its,vv,pl,z1⟩:=I1.list hq;refine call_enumerate_list pl.isList λh' he hit hsz hk'=>?_
   have I2:Inv X pins σ0 H1 { s1 with heap:=h' }:=I1.kept (t':=s1.toks) hk'
   refine wpAny_pyIter_enum he ⟨s1.heap.objs.size+1,_,_,ub X.K l,H1,rfl,I2,OV (Nat.succ_ne_self _),⟨⟨_,he⟩,hit⟩,λb hb=>?_,hk _ _ _ M1 _ H1 q e1 v1 hi⟩
   have hge:s1.heap.objs.size<=b:=by
    simp only[cM,lA,or_false]at hb;rcases hb with q|q<;>rw[q]<;>first|exact Nat.le_add_right _ _|exact ba _
   exact I1.fE hge (I1.ar.fresh hge)
end
inductive T where
 |v (i:Nat)|i (n:Int)|s (x:Str)|b (x:Bool)|n
 |g (x:Str)|ty (x:String)
 |op (o:Operator) (a b:T)|cm (o:CmpOp) (a b:T)|ch (o p:CmpOp) (a b c:T)
 |an (a b:T)|or (a b:T)|no (a:T)|ie (t a b:T)
 |tu (a:T)|ll (a:T)|lm (a:T)|e0|ec (a r:T)
 |ix (a b:T)|sl (a l h:T)|p0|p1 (a:T)
 |fl (c:Nat) (f:Str) (a:T)
 |ca (f:Nat) (a:T)|me (f:Nat) (o a:T)|mk (c:Nat) (a:T)
 |bf (f:Str) (a:T)
 |ap (o a:T)
 |dg (d k:T)|dn (neg:Bool) (k d:T)|d1 (d k:T)|dk|dt
 |ic (neg:Bool) (a:T) (x:Str)
 |tx (x:Str) (a:T)|tg (x:Str) (a:T)|tn (x:Str) (a:T)
 |cv (i:Nat) (a:T)
 |cp (md tup:Bool) (nm:ay) (cap:List (Nat×Str)) (it t e:T)
 |le (a:T)|iv (a:T)|im (a:T)
 |af (c:Nat) (f:Str) (o a:T)|dd (d k:T)
 |is (a:T)|r1 (a:T)|r2 (a b:T)|st (a:T)
 |set (i:Nat) (a:T)|un (is:List Nat) (a:T)|sf (c:Nat) (f:Str) (o a:T)|dp (d k a:T)|sp (l i a:T)
 |re (a:T)|bg (t a b:T)|fo (tup:Bool) (is:List Nat) (it b:T)|ex (a:T)|ra
 |se (a b:T)|en
structure FD where
 kind:Nat
 cls:Nat
 name:Str
 ps:ay
 N:ay
 body:T
structure SI where
 gi:List (Str×Int)
 gt:List (Str×ay)
 tb:ay
 tt:List (Str×List (TK×Str))
 cl:ay
 fs:List (Nat×Str)
 bl:ay
 fd:List FD
 ln:ay:=[""]
 lp:Pos:=⟨0,0,0,0⟩
 lq:Str:=""
structure G where
 S:SI
 tb:Str->bO
 C:Nat->Addr
 fn:Nat->bE
 kH:Nat->bE
 gI:List (Addr×bE)
 lP:Addr
def il:Operator->bV
 | .Add=>xf| .Sub=>Ke| .Mult=>Kk| .Mod=>Jx| .FloorDiv=>JH| .Pow=>Kf
 |_=>λ_ _ _ _=>False
noncomputable def cz:CmpOp->bV
 | .Lt=>Kq| .LtE=>Kp| .Gt=>Kn| .GtE=>Km| .Eq=>JG| .NotEq=>Kj| .Is=>Ko| .IsNot=>E6| .In=>wX false| .NotIn=>wX true
noncomputable def AZ:String->RV->Option Bool:=λx=>if x= "int" then EO else if x= "bool" then is_bool else if x= "str" then EN else if x= "tuple" then DA else if x= "list" then DU elseλ_=>none
noncomputable def Ac:LR->RM->aq->Prop:=λrs M Q=>match rs with
 | [.ref a,.ty "list"]=>match M a with|some (.lst _)=>Q (.bl true) M|_=>False
 | [x,.ty t]=>match AZ t x with|some c=>Q (.bl c) M|none=>False
 |_=>False
noncomputable def zA:LR->RM->aq->Prop:=λrs M Q=>match rs with
 | [.ref a]=>match M a with
  |some (.lst xs)=>Q (.int xs.length) M
  |some (.dk kvs)=>Q (.int kvs.length) M
  |some (.dt kvs)=>Q (.int kvs.length) M
  |_=>False
 |rs=>wV rs M Q
noncomputable def eZ (f:Str):LR->RM->aq->Prop:=
 if f= "len" then zA else if f= "isinstance" then Ac else if f= "all" then JI else if f= "max" then Fw else if f= "sorted" then zi else if f= "ord" then Kg else if f= "min" then Fv elseλ_ _ _=>False
noncomputable def pX (C:Addr)(f:Str)(Q:aq):aq:=λx M=>match x with
 | .ref a=>match M a with
  |some (.ins C' fs)=>C'=C/\match fs.lookup f with
   |some v=>Q v M
   |none=>False
  |_=>False
 |_=>False
def Az(C:Addr)(f:Str)(ta:aw):aw:=λσ M Q=>ta σ M (pX C f Q)
noncomputable def pZ (C:Addr)(f:Str)(y:RV)(N:RM->Prop):aq:=λx M=>match x with
 | .ref a=>match M a with
  |some (.ins C' fs)=>C'=C/\fs.length<1000/\N (put M a (.ins C (jv f y fs)))
  |_=>False
 |_=>False
def AA(C:Addr)(f:Str)(ta tv:aw):bY:=λD σ M=>tv σ M λy M1=>ta σ M1 (pZ C f y (D.nx σ))
noncomputable def ou (C:Addr)(m:Str)(sp:bE)(t:bx)(σ:bq)(Q:aq):aq:=λx M=>match x with
 | .ref a=>match M a with
  |some (.ins C' fs)=>C'=C/\fs.lookup m=none/\t σ M λrs M2=>sp (.ref a::rs) M2 Q
  |_=>False
 |_=>False
def pK(C:Addr)(m:Str)(sp:bE)(ta:aw)(t:bx):aw:=λσ M Q=>ta σ M (ou C m sp t σ Q)
def fR:aw:=λ_ _ _=>False
structure Sm where
 E:aw:=λ_ _ _=>False
 T:c9:=λ_ _ _=>False
 A:bx:=λ_ _ _=>False
 I:fP:=λ_ _ _=>False
 P:nh:=λ_ _ _=>False
 S:bY:=λ_ _ _=>False
 L:List aw:=[]
noncomputable def ex (e:aw):Sm:={ E:=e,T:=k7 e }
noncomputable def tr (Γ:G):T->Sm
 | .v i=>ex (jz i)
 | .i n=>ex (rC (.int n))
 | .s x=>ex (rC (.str x))
 | .b x=>ex (rC (.bl x))
 | .n=>ex (rC .au)
 | .g x=>ex (match Γ.S.gi.lookup x with|some i=>rC (.int i)|none=>fR)
 | .ty x=>ex (rC (.ty x))
 | .op o a b=>ex (mP (il o) (tr Γ a).E (tr Γ b).E)
 | .cm o a b=>ex (mP (cz o) (tr Γ a).E (tr Γ b).E)
 | .ch o p a b c=>ex (qj (cz o) (cz p) (tr Γ a).E (tr Γ b).E (tr Γ c).E)
 | .an a b=>{ E:=wH (tr Γ a).E (tr Γ b).E,T:=wZ (tr Γ a).T (tr Γ b).T }
 | .or a b=>{ E:=wU (tr Γ a).E (tr Γ b).E,T:=xy (tr Γ a).T (tr Γ b).T }
 | .no a=>{ E:=Fu (tr Γ a).E,T:=Kh (tr Γ a).T }
 | .ie t a b=>ex (xx (tr Γ t).T (tr Γ a).E (tr Γ b).E)
 | .tu a=>ex (Kc (tr Γ a).A)
 | .ll a=>ex (Jz (tr Γ a).A)
 | .lm a=>ex (Jy (tr Γ a).A)
 | .e0=>{ A:=jA }
 | .ec a r=>{ A:=mC (tr Γ a).E (tr Γ r).A,L:=(tr Γ a).E::(tr Γ r).L }
 | .ix a b=>ex (mP fq (tr Γ a).E (tr Γ b).E)
 | .sl a l h=>ex (Kr (tr Γ a).E (tr Γ l).P (tr Γ h).P)
 | .p0=>{ P:=Ki }
 | .p1 a=>{ P:=Ft (tr Γ a).E }
 | .fl c f a=>ex (Az (Γ.C c) f (tr Γ a).E)
 | .ca f a=>ex (k9 (Γ.fn f) (tr Γ a).A)
 | .me f o a=>ex (match Γ.S.fd[f]? with|some d=>pK (Γ.C d.cls) d.name (Γ.fn f) (tr Γ o).E (tr Γ a).A|none=>fR)
 | .mk f a=>ex (match Γ.S.fd[f]? with|some d=>qm (Γ.C d.cls) (Γ.kH f) (tr Γ a).A|none=>fR)
 | .bf f a=>ex (k9 (eZ f) (tr Γ a).A)
 | .ap o a=>ex (wY (tr Γ o).E (tr Γ a).A)
 | .dg d k=>ex (Fp (tr Γ d).E (tr Γ k).E)
 | .dn neg k d=>ex (qC neg (tr Γ k).E (tr Γ d).E)
 | .d1 d k=>ex (EX (tr Γ d).E (tr Γ k).E)
 | .dk=>ex FF
 | .dt=>ex E7
 | .ic neg a x=>ex (match Γ.S.gt.lookup x with|some ss=>qv neg ss (tr Γ a).E|none=>fR)
 | .tx x a=>ex (wQ (Γ.tb x) (tr Γ a).E)
 | .tg x a=>ex (match Γ.S.tt.lookup x with|some l=>vP l (tr Γ a).E|none=>fR)
 | .tn x a=>ex (yV (Γ.tb x) (tr Γ a).E)
 | .cv i a=>ex (Et Γ.gI (jz i) (tr Γ a).A)
 | .cp md tup nm cap it t e=>ex (wm (pF tup nm.length) md (tr Γ it).I (cap.map Prod.fst) (tr Γ t).T (tr Γ e).E)
 | .iv a=>{ I:=JF false (tr Γ a).E }
 | .im a=>{ I:=JD (tr Γ a).E }
 | .le a=>{ I:=JE (tr Γ a).E }
 | .af c f o a=>{ S:=KA (Γ.C c) f (tr Γ o).E (tr Γ a).E }
 | .dd d k=>{ S:=EW (tr Γ d).E (tr Γ k).E }
 | .is a=>{ I:=JB (tr Γ a).E }
 | .r1 a=>{ I:=JC (tr Γ a).E }
 | .r2 a b=>{ I:=Fx (tr Γ a).E (tr Γ b).E }
 | .st a=>{ I:=JA (tr Γ a).E }
 | .set i a=>{ S:=tH i (tr Γ a).E }
 | .un is a=>{ S:=Ad (tr Γ a).E (mR is) }
 | .sf c f o a=>{ S:=AA (Γ.C c) f (tr Γ o).E (tr Γ a).E }
 | .dp d k a=>{ S:=EV (tr Γ d).E (tr Γ k).E (tr Γ a).E }
 | .sp l i a=>{ S:=Ad (tr Γ a).E (FH (tr Γ l).E (tr Γ i).E pd) }
 | .re a=>{ S:=wR (tr Γ a).E }
 | .bg t a b=>{ S:=pv (tr Γ t).T (tr Γ a).S (tr Γ b).S }
 | .fo tup is it b=>{ S:=FC (tr Γ it).I (match tup,is with|true,is=>mR is|false,[i]=>mQ i|_,_=>λ_ _ _ _=>False) (tr Γ b).S }
 | .ex a=>{ S:=FE (tr Γ a).E }
 | .ra=>{ S:=λ_ _ _=>False }
 | .se a b=>{ S:=gz (tr Γ a).S (tr Γ b).S }
 | .en=>{ S:=k8 }
inductive Nd where
 |e (x:Expr)|t (x:Expr)|a (xs:aT)|i (tg x:Expr)|p (x:Option Expr)|s (x:Stmt)|b (xs:List Stmt)|l (xs:aT)
noncomputable def eQ (sc:Scope)(x:Str):Bool:=sc.names.lookup x==some .globalImplicit&& !(x==("__debug__":Str))
noncomputable def zB (tup:Bool)(tg:Expr)(nm:ay):Bool:=match tup,tg with
 |false,.Name x _=>nm==[x]
 |true,.Tuple es _ _=>mx es==some nm
 |_,_=>false
noncomputable def kW (N:ay):List Nat->aT->Bool
 | [],[]=>true
 |i::is,.Name x _::es=>(N[i]? ==some x)&&kW N is es
 |_,_=>false
noncomputable def loc (sc:Scope)(x:Str):Bool:=sc.names.lookup x==some .local||sc.names.lookup x==some .cell
noncomputable def cf (sc:Scope)(x:Str):Bool:=sc.names.lookup x==some .cell||sc.names.lookup x==some .free
noncomputable def kD (x:Str):Bool:=!(x==("__debug__":Str))&& !(x==("__classdict__":Str))
noncomputable def tJ (N:ay)(sc scope:Scope)(nm:ay)(cap:List (Nat×Str)):Bool:=
 cap.all (λp=>(N[p.1]? ==some p.2)&&(scope.names.lookup p.2==some .free)&&cf sc p.2)&&scope.names.all (λy=>y.2 != .free||cf sc y.1)&&scope.names.all (λy=>y.2 != .cell)&&scope.kind== .function&&
 scope.names.all (λy=>y.2 != .local||scope.names.lookup y.1==some .local)&&nm.all (λx=>scope.names.lookup x==some .local)&&decide (nm++cap.map Prod.snd).Nodup&&(nm++cap.map Prod.snd).all kD
noncomputable def ya:ay:=["len","isinstance","all","max","sorted","ord","min"]
noncomputable def gc (ap p:Pos):Bool:=ap.endLine==p.line
noncomputable def FP (t:T):Bool:=if h:t.ctorIdx=3 then T.b.elim t h id else false
@[elab_as_elim] theorem o8 {α:Type} [BEq α] [LawfulBEq α] {z c:α} {b:Bool} {C:α->Prop} (h:((z==c)&&b)=true) (k:b=true->C c):C z:=by
 rw[bh,eW]at h;rw[h.1];exact k h.2
theorem iY{a b:Bool}(h:(a&&b)=true):a=true/\b=true:=by rwa [bh]at h
theorem di{c:Prop}[Decidable c]{t:c->Bool}{C:Prop}(h:(if h:c then t h else false)=true)(k:c->(if h:c then t h else false)=true->C):C:=
 if i:c then k i h else by rw[dif_neg i]at h;cases h
noncomputable def dN (e:Expr)(f:Str->Pos->Bool):Bool:=if h:e.ctorIdx=23 then Expr.Name.elim e h f else false
@[elab_as_elim] theorem i6 {e f} {C:Expr->Prop} (h:dN e f=true) (k:∀a b,f a b=true->C (.Name a b)):C e:=di h λi=>Expr.Name.elim e i k
noncomputable def dK (e:Expr)(f:Const->Nat->Pos->Bool):Bool:=if h:e.ctorIdx=19 then Expr.Constant.elim e h f else false
@[elab_as_elim] theorem wD {e f} {C:Expr->Prop} (h:dK e f=true) (k:∀a b c,f a b c=true->C (.Constant a b c)):C e:=di h λi=>Expr.Constant.elim e i k
noncomputable def dB (e:Expr)(f:Expr->Operator->Expr->Pos->Bool):Bool:=if h:e.ctorIdx=2 then Expr.BinOp.elim e h f else false
@[elab_as_elim] theorem WH {e f} {C:Expr->Prop} (h:dB e f=true) (k:∀a b c d,f a b c d=true->C (.BinOp a b c d)):C e:=di h λi=>Expr.BinOp.elim e i k
noncomputable def dC (e:Expr)(f:Expr->List CmpOp->aT->Pos->Bool):Bool:=if h:e.ctorIdx=15 then Expr.Compare.elim e h f else false
@[elab_as_elim] theorem Gp {e f} {C:Expr->Prop} (h:dC e f=true) (k:∀a b c d,f a b c d=true->C (.Compare a b c d)):C e:=di h λi=>Expr.Compare.elim e i k
noncomputable def dQ (e:Expr)(f:BoolOp->aT->Pos->Bool):Bool:=if h:e.ctorIdx=0 then Expr.BoolOp.elim e h f else false
@[elab_as_elim] theorem wC {e f} {C:Expr->Prop} (h:dQ e f=true) (k:∀a b c,f a b c=true->C (.BoolOp a b c)):C e:=di h λi=>Expr.BoolOp.elim e i k
noncomputable def dU (e:Expr)(f:UnaryOp->Expr->Pos->Bool):Bool:=if h:e.ctorIdx=3 then Expr.UnaryOp.elim e h f else false
@[elab_as_elim] theorem Gh {e f} {C:Expr->Prop} (h:dU e f=true) (k:∀a b c,f a b c=true->C (.UnaryOp a b c)):C e:=di h λi=>Expr.UnaryOp.elim e i k
noncomputable def dI (e:Expr)(f:Expr->Expr->Expr->Pos->Bool):Bool:=if h:e.ctorIdx=5 then Expr.IfExp.elim e h f else false
@[elab_as_elim] theorem Xg {e f} {C:Expr->Prop} (h:dI e f=true) (k:∀a b c d,f a b c d=true->C (.IfExp a b c d)):C e:=di h λi=>Expr.IfExp.elim e i k
noncomputable def dT (e:Expr)(f:aT->Nat->Pos->Bool):Bool:=if h:e.ctorIdx=25 then Expr.Tuple.elim e h f else false
@[elab_as_elim] theorem zQ {e f} {C:Expr->Prop} (h:dT e f=true) (k:∀a b c,f a b c=true->C (.Tuple a b c)):C e:=di h λi=>Expr.Tuple.elim e i k
noncomputable def dL (e:Expr)(f:aT->Pos->Bool):Bool:=if h:e.ctorIdx=24 then Expr.List.elim e h f else false
@[elab_as_elim] theorem Gj {e f} {C:Expr->Prop} (h:dL e f=true) (k:∀a b,f a b=true->C (.List a b)):C e:=di h λi=>Expr.List.elim e i k
noncomputable def dS (e:Expr)(f:Expr->Expr->Pos->Bool):Bool:=if h:e.ctorIdx=21 then Expr.Subscript.elim e h f else false
@[elab_as_elim] theorem pb {e f} {C:Expr->Prop} (h:dS e f=true) (k:∀a b c,f a b c=true->C (.Subscript a b c)):C e:=di h λi=>Expr.Subscript.elim e i k
noncomputable def dX (e:Expr)(f:Option Expr->Option Expr->Option Expr->Pos->Bool):Bool:=if h:e.ctorIdx=26 then Expr.Slice.elim e h f else false
@[elab_as_elim] theorem Xf {e f} {C:Expr->Prop} (h:dX e f=true) (k:∀a b c d,f a b c d=true->C (.Slice a b c d)):C e:=di h λi=>Expr.Slice.elim e i k
noncomputable def dA (e:Expr)(f:Expr->Str->Pos->Bool):Bool:=if h:e.ctorIdx=20 then Expr.Attribute.elim e h f else false
@[elab_as_elim] theorem wF {e f} {C:Expr->Prop} (h:dA e f=true) (k:∀a b c,f a b c=true->C (.Attribute a b c)):C e:=di h λi=>Expr.Attribute.elim e i k
noncomputable def dF (e:Expr)(f:Expr->aT->List Keyword->Pos->Bool):Bool:=if h:e.ctorIdx=16 then Expr.Call.elim e h f else false
@[elab_as_elim] theorem Gk {e f} {C:Expr->Prop} (h:dF e f=true) (k:∀a b c d,f a b c d=true->C (.Call a b c d)):C e:=di h λi=>Expr.Call.elim e i k
noncomputable def dD (e:Expr)(f:List (Option Expr)->aT->Pos->Bool):Bool:=if h:e.ctorIdx=6 then Expr.Dict.elim e h f else false
@[elab_as_elim] theorem Gm {e f} {C:Expr->Prop} (h:dD e f=true) (k:∀a b c,f a b c=true->C (.Dict a b c)):C e:=di h λi=>Expr.Dict.elim e i k
noncomputable def dG (e:Expr)(f:Expr->List Comprehension->Scope->Pos->Bool):Bool:=if h:e.ctorIdx=8 then Expr.ListComp.elim e h f else false
@[elab_as_elim] theorem WG {e f} {C:Expr->Prop} (h:dG e f=true) (k:∀a b c d,f a b c d=true->C (.ListComp a b c d)):C e:=di h λi=>Expr.ListComp.elim e i k
noncomputable def tA (e:Stmt)(f:aT->Expr->Pos->Bool):Bool:=if h:e.ctorIdx=5 then Stmt.Assign.elim e h f else false
@[elab_as_elim] theorem Vy {e f} {C:Stmt->Prop} (h:tA e f=true) (k:∀a b c,f a b c=true->C (.Assign a b c)):C e:=di h λi=>Stmt.Assign.elim e i k
noncomputable def tU (e:Stmt)(f:Expr->Operator->Expr->Pos->Bool):Bool:=if h:e.ctorIdx=7 then Stmt.AugAssign.elim e h f else false
@[elab_as_elim] theorem VW {e f} {C:Stmt->Prop} (h:tU e f=true) (k:∀a b c d,f a b c d=true->C (.AugAssign a b c d)):C e:=di h λi=>Stmt.AugAssign.elim e i k
noncomputable def tD (e:Stmt)(f:aT->Pos->Bool):Bool:=if h:e.ctorIdx=4 then Stmt.Delete.elim e h f else false
@[elab_as_elim] theorem Vu {e f} {C:Stmt->Prop} (h:tD e f=true) (k:∀a b,f a b=true->C (.Delete a b)):C e:=di h λi=>Stmt.Delete.elim e i k
noncomputable def tR (e:Stmt)(f:Option Expr->Pos->Bool):Bool:=if h:e.ctorIdx=3 then Stmt.Return.elim e h f else false
@[elab_as_elim] theorem VX {e f} {C:Stmt->Prop} (h:tR e f=true) (k:∀a b,f a b=true->C (.Return a b)):C e:=di h λi=>Stmt.Return.elim e i k
noncomputable def tI (e:Stmt)(f:Expr->List Stmt->List Stmt->Pos->Bool):Bool:=if h:e.ctorIdx=12 then Stmt.If.elim e h f else false
@[elab_as_elim] theorem Vq {e f} {C:Stmt->Prop} (h:tI e f=true) (k:∀a b c d,f a b c d=true->C (.If a b c d)):C e:=di h λi=>Stmt.If.elim e i k
noncomputable def tF (e:Stmt)(f:Expr->Expr->List Stmt->List Stmt->Pos->Bool):Bool:=if h:e.ctorIdx=9 then Stmt.For.elim e h f else false
@[elab_as_elim] theorem Vr {e f} {C:Stmt->Prop} (h:tF e f=true) (k:∀a b c d g,f a b c d g=true->C (.For a b c d g)):C e:=di h λi=>Stmt.For.elim e i k
noncomputable def tE (e:Stmt)(f:Expr->Pos->Bool):Bool:=if h:e.ctorIdx=24 then Stmt.Expr.elim e h f else false
@[elab_as_elim] theorem Vs {e f} {C:Stmt->Prop} (h:tE e f=true) (k:∀a b,f a b=true->C (.Expr a b)):C e:=di h λi=>Stmt.Expr.elim e i k
section
variable {α:Type}{xs:List α}{b:Bool}{x:Option α}{e:Expr}{s:Stmt}
noncomputable def l0 (xs:List α)(b:Bool):Bool:=match xs with| []=>b|_=>false
noncomputable def lc (xs:List α)(f:α->List α->Bool):Bool:=match xs with|x::r=>f x r|_=>false
noncomputable def l1 (xs:List α)(f:α->Bool):Bool:=lc xs λx r=>l0 r (f x)
noncomputable def l2 (xs:List α)(f:α->α->Bool):Bool:=lc xs λx r=>l1 r (f x)
noncomputable def o0 (x:Option α)(b:Bool):Bool:=match x with|none=>b|_=>false
noncomputable def o1 (x:Option α)(f:α->Bool):Bool:=match x with|some y=>f y|_=>false
variable {C:List α->Prop}{D:Option α->Prop}{E:Expr->Prop}{F:Stmt->Prop}
@[elab_as_elim] theorem gQ (h:l0 xs b=true) (k:b=true->C []):C xs:=by cases xs<;>first|exact k h|cases h
@[elab_as_elim] theorem gP {f} (h:lc xs f=true) (k:∀x r,f x r=true->C (x::r)):C xs:=by cases xs<;>first|exact k _ _ h|cases h
@[elab_as_elim] theorem iy {f} (h:l1 xs f=true) (k:∀y,f y=true->C [y]):C xs:=gP h λy _ h=>gQ h (k y)
@[elab_as_elim] theorem zP {f} (h:l2 xs f=true) (k:∀y z,f y z=true->C [y,z]):C xs:=gP h λy _ h=>iy h (k y)
@[elab_as_elim] theorem FT (h:o0 x b=true) (k:b=true->D none):D x:=by cases x<;>first|exact k h|cases h
@[elab_as_elim] theorem FR {f} (h:o1 x f=true) (k:∀y,f y=true->D (some y)):D x:=by cases x<;>first|exact k _ h|cases h
noncomputable def kC (e:Expr)(f:Str->Pos->aT->Pos->Bool):Bool:=dF e λg es ks p=>dN g λx q=>l0 ks (f x q es p)
@[elab_as_elim] theorem o6 {f} (h:kC e f=true) (k:∀x q es p,f x q es p=true->E (.Call (.Name x q) es [] p)):E e:=Gk h λ_ es _ p h=>i6 h λx q h=>gQ h (k x q es p)
noncomputable def n8 (e:Expr)(f:Expr->Str->Pos->aT->Pos->Bool):Bool:=dF e λg es ks p=>dA g λx m q=>l0 ks (f x m q es p)
@[elab_as_elim] theorem qg {f} (h:n8 e f=true) (k:∀x m q es p,f x m q es p=true->E (.Call (.Attribute x m q) es [] p)):E e:=Gk h λ_ es _ p h=>wF h λx m q h=>gQ h (k x m q es p)
noncomputable def qZ (e:Expr)(f:Expr->CmpOp->Expr->Pos->Bool):Bool:=dC e λx os ys p=>l1 os λo=>l1 ys λy=>f x o y p
@[elab_as_elim] theorem sP {f} (h:qZ e f=true) (k:∀x o y p,f x o y p=true->E (.Compare x [o] [y] p)):E e:=Gp h λx _ _ p h=>iy h λo h=>iy h λy=>k x o y p
noncomputable def qF (s:Stmt)(f:Expr->Expr->Pos->Bool):Bool:=tA s λz v p=>l1 z λt=>f t v p
@[elab_as_elim] theorem sN {f} (h:qF s f=true) (k:∀t v p,f t v p=true->F (.Assign [t] v p)):F s:=Vy h λ_ v p h=>iy h λt=>k t v p
end
noncomputable def cU (e:Expr):Bool:=!([22,7,26,9,10].contains e.ctorIdx)
noncomputable def kI (e:Expr):Bool:=e.ctorIdx==8
noncomputable def zJ (e:Expr):Bool:=[0,5,15].contains e.ctorIdx||dU e λo _ _=>o== .Not
noncomputable def fU (e:Expr):Bool:=kC e λ_ _ es _=>es.isEmpty
noncomputable def cD (nd:Nd)(f:Expr->Bool):Bool:=match nd with
 | .e x=>cU x&&f x
 | .t x=>!zJ x&&f x
 |_=>false
noncomputable def rD (nd:Nd)(f:Expr->Bool):Bool:=match nd with
 | .e x=>cU x&&f x
 | .t x=>f x
 |_=>false
noncomputable def ik (nd:Nd)(f:Stmt->Bool):Bool:=match nd with
 | .s x=>f x
 |_=>false
noncomputable def yn (nd:Nd)(f:(aT->Nd)->aT->Bool):Bool:=match nd with
 | .a x=>f .a x
 | .l x=>f .l x
 |_=>false
noncomputable def lZ (nd:Nd)(f:Expr->Expr->Bool):Bool:=match nd with
 | .i tg x=>f tg x
 |_=>false
noncomputable def yp (nd:Nd)(f:Option Expr->Bool):Bool:=match nd with
 | .p x=>f x
 |_=>false
noncomputable def yo (nd:Nd)(f:List Stmt->Bool):Bool:=match nd with
 | .b x=>f x
 |_=>false
noncomputable def rF (nd:Nd)(f g:Expr->Bool):Bool:=match nd with
 | .e x=>cU x&&f x
 | .t x=>g x
 |_=>false
noncomputable def mt (S:SI)(fc:Bool)(N:ay)(sc:Scope):T->Nd->Bool
 | .v i,nd=>cD nd λy0=>dN y0 λx _=>N[i]? ==some x
 | .i n,nd=>cD nd λy0=>dK y0 λz _ _=>z== .int n
 | .s x,nd=>cD nd λy0=>dK y0 λz _ _=>z== .str x
 | .b x,nd=>cD nd λy0=>dK y0 λz _ _=>z== .bool x
 | .n,nd=>cD nd λy0=>dK y0 λz _ _=>z== .none
 | .g x,nd=>cD nd λy0=>dN y0 λy _=>(x==y)&&(S.gi.lookup x).isSome&&eQ sc x
 | .ty x,nd=>cD nd λy0=>dN y0 λy _=>(Str.ofString x==y)&&["int","bool","str","tuple","list"].contains x&&S.bl.contains y&&eQ sc y
 | .op o a b,nd=>cD nd λy0=>dB y0 λx o' y _=>(o==o')&&mt S fc N sc a (.e x)&&mt S fc N sc b (.e y)
 | .cm o a b,nd=>rD nd λy0=>qZ y0 λx o' y _=>(o==o')&&mt S fc N sc a (.e x)&&mt S fc N sc b (.e y)
 | .ch o p a b c,nd=>rD nd λy0=>dC y0 λx z1 z2 _=>l2 z1 λo' p'=>l2 z2 λy z=>(o==o')&&(p==p')&&mt S fc N sc a (.e x)&&mt S fc N sc b (.e y)&&mt S fc N sc c (.e z)
 | .dn neg k d,nd=>rD nd λy0=>qZ y0 λx o' y _=>(o'==if neg then .NotIn else .In)&&mt S fc N sc k (.e x)&&mt S fc N sc d (.e y)
 | .an a b,nd=>rF nd (λy0=>dQ y0 λz1 z2 p=>(z1== .And)&&(lc z2 λx z3=>lc z3 λy r=>mt S fc N sc a (.e x)&&mt S fc N sc b (.e (if r.isEmpty then y else .BoolOp .And (y::r) p)))) (λy0=>dQ y0 λz1 z2 p=>(z1== .And)&&(lc z2 λx z3=>lc z3 λy r=>mt S fc N sc a (.t x)&&mt S fc N sc b (.t (if r.isEmpty then y else .BoolOp .And (y::r) p))))
 | .or a b,nd=>rF nd (λy0=>dQ y0 λz1 z2 p=>(z1== .Or)&&(lc z2 λx z3=>lc z3 λy r=>mt S fc N sc a (.e x)&&mt S fc N sc b (.e (if r.isEmpty then y else .BoolOp .Or (y::r) p)))) (λy0=>dQ y0 λz1 z2 p=>(z1== .Or)&&(lc z2 λx z3=>lc z3 λy r=>mt S fc N sc a (.t x)&&mt S fc N sc b (.t (if r.isEmpty then y else .BoolOp .Or (y::r) p))))
 | .no a,nd=>rF nd (λy0=>dU y0 λz1 x _=>(z1== .Not)&&(mt S fc N sc a (.e x))) (λy0=>dU y0 λz1 x _=>(z1== .Not)&&(mt S fc N sc a (.t x)))
 | .ie t a b,nd=>cD nd λy0=>dI y0 λx y z _=>mt S fc N sc t (.t x)&&mt S fc N sc a (.e y)&&mt S fc N sc b (.e z)
 | .tu a,nd=>cD nd λy0=>dT y0 λes _ _=>mt S fc N sc a (.a es)
 | .ll a,nd=>cD nd λy0=>dL y0 λes _=>mt S fc N sc a (.a es)
 | .lm a,nd=>cD nd λy0=>dL y0 λes _=>mt S fc N sc a (.a es)
 | .e0,nd=>yn nd λ_ y0=>l0 y0 <|true
 | .ec a r,nd=>yn nd λmk y0=>lc y0 λx xs=>mt S fc N sc a (.e x)&&mt S fc N sc r (mk xs)
 | .ix a b,nd=>cD nd λy0=>dS y0 λx y _=>mt S fc N sc a (.e x)&&mt S fc N sc b (.e y)
 | .sl a l h,nd=>cD nd λy0=>dS y0 λx z1 _=>dX z1 λlo hi z2 _=>o0 z2 <|mt S fc N sc a (.e x)&&mt S fc N sc l (.p lo)&&mt S fc N sc h (.p hi)
 | .p0,nd=>yp nd λy0=>o0 y0 <|true
 | .p1 a,nd=>yp nd λy0=>o1 y0 λx=>mt S fc N sc a (.e x)
 | .fl c f a,nd=>cD nd λy0=>dA y0 λx f' _=>(f==f')&&S.fs.contains (c,f)&& !fU x&&mt S fc N sc a (.e x)
 | .ca f a,nd=>cD nd λy0=>kC y0 λx _ es _=>(match S.fd[f]? with|some d=>d.kind==0&&d.name==x|none=>false)&&eQ sc x&&mt S fc N sc a (.a es)
 | .me f o a,nd=>cD nd λy0=>n8 y0 λx m ap es p=>(match S.fd[f]? with|some d=>d.kind==1&&d.name==m|none=>false)&& !fU x&&gc ap p&&decide (es.length<29)&&mt S fc N sc o (.e x)&&mt S fc N sc a (.a es)
 | .mk f a,nd=>cD nd λy0=>kC y0 λx _ es _=>(match S.fd[f]? with|some d=>d.kind==2&&S.cl[d.cls]? ==some x|none=>false)&&eQ sc x&&mt S fc N sc a (.a es)
 | .bf f a,nd=>cD nd λy0=>kC y0 λx _ es _=>(f==x)&&ya.contains x&&S.bl.contains x&&eQ sc x&& !es.isEmpty&&mt S fc N sc a (.a es)
 | .ap o a,nd=>cD nd λy0=>n8 y0 λx m ap z1 p=>l1 z1 λy=>(m==("append":Str))&& !fU x&&gc ap p&&mt S fc N sc o (.e x)&&mt S fc N sc a (.a [y])
 | .dg d k,nd=>cD nd λy0=>dS y0 λx y _=>mt S fc N sc d (.e x)&&mt S fc N sc k (.e y)
 | .d1 d k,nd=>cD nd λy0=>n8 y0 λx m ap z1 p=>l1 z1 λy=>(m==("get":Str))&& !fU x&&gc ap p&&mt S fc N sc d (.e x)&&mt S fc N sc k (.e y)
 | .dk,nd=>cD nd λy0=>dD y0 λz1 z2 _=>l0 z1 <|l0 z2 <|true
 | .dt,nd=>cD nd λy0=>dD y0 λz1 z2 _=>l0 z1 <|l0 z2 <|true
 | .ic neg a x,nd=>rD nd λy0=>qZ y0 λy o z1 _=>dN z1 λx' _=>(o==if neg then .NotIn else .In)&&(x==x')&&(S.gt.lookup x).isSome&&eQ sc x&&mt S fc N sc a (.e y)
 | .tx x a,nd=>cD nd λy0=>dS y0 λz1 y _=>dN z1 λx' _=>(x==x')&&S.tb.contains x&&eQ sc x&&mt S fc N sc a (.e y)
 | .tg x a,nd=>cD nd λy0=>n8 y0 λz1 m ap z2 p=>dN z1 λx' _=>l1 z2 λy=>(m==("get":Str))&&(x==x')&&(S.tt.lookup x).isSome&&eQ sc x&&gc ap p&&mt S fc N sc a (.e y)
 | .tn x a,nd=>rF nd (λ_=>false) λy0=>qZ y0 λy o z1 _=>dN z1 λx' _=>(o== .NotIn)&&(x==x')&&S.tb.contains x&&eQ sc x&&mt S fc N sc a (.e y)
 | .cv i a,nd=>cD nd λy0=>kC y0 λx _ es _=>(N[i]? ==some x)&& !es.isEmpty&&mt S fc N sc a (.a es)
 | .cp _ tup nm cap it t e,nd=>cD nd λy0=>dG y0 λel z1 scope _=>l1 z1 λz2=>match z2 with|⟨tg,ite,ifs,as⟩=>fc&&(as==0)&&zB tup tg nm&&tJ N sc scope nm cap&&cU ite&&mt S fc N sc it (.i tg ite)&&mt S false (nm++cap.map Prod.snd) scope e (.e el)&&(match ifs with| []=>FP t| [c]=>mt S false (nm++cap.map Prod.snd) scope t (.t c)|_=>false)
 | .iv a,nd=>lZ nd λ_=>λy0=>n8 y0 λx m ap z1 p=>l0 z1 <|(m==("values":Str))&& !fU x&&gc ap p&&mt S fc N sc a (.e x)
 | .im a,nd=>lZ nd λtg=>λy0=>n8 y0 λx m ap z1 p=>l0 z1 <|(tg.ctorIdx==25)&&(m==("items":Str))&& !fU x&&gc ap p&&mt S fc N sc a (.e x)
 | .af c f o a,nd=>ik nd λy0=>tU y0 λz1 z2 e _=>dA z1 λx f' _=>(z2== .Add)&&((f==f')&&S.fs.contains (c,f)&&mt S fc N sc o (.e x)&&mt S fc N sc a (.e e))
 | .dd d k,nd=>ik nd λy0=>tD y0 λz1 _=>l1 z1 λz2=>dS z2 λx y _=>mt S fc N sc d (.e x)&&mt S fc N sc k (.e y)
 | .is a,nd=>lZ nd λ_ x=>cU x&&mt S fc N sc a (.e x)
 | .st a,nd=>lZ nd λ_ x=>cU x&&mt S fc N sc a (.e x)
 | .r1 a,nd=>lZ nd λ_=>λy0=>kC y0 λx _ z1 _=>l1 z1 λy=>(x==("range":Str))&&S.bl.contains x&&eQ sc x&&mt S fc N sc a (.e y)
 | .le a,nd=>lZ nd λtg=>λy0=>kC y0 λx _ z1 _=>l1 z1 λy=>(tg.ctorIdx==25)&&(x==("enumerate":Str))&&S.bl.contains x&&eQ sc x&&mt S fc N sc a (.e y)
 | .r2 a b,nd=>lZ nd λ_=>λy0=>kC y0 λx _ z1 _=>l2 z1 λy z=>(x==("range":Str))&&S.bl.contains x&&eQ sc x&&mt S fc N sc a (.e y)&&mt S fc N sc b (.e z)
 | .set i a,nd=>ik nd λy0=>qF y0 λz1 e _=>dN z1 λx p=>fc&&(N[i]? ==some x)&&(!kI e||sc.names.lookup x==some .cell)&&mt S fc N sc a (.e e)
 | .un is a,nd=>ik nd λy0=>qF y0 λz1 e _=>dT z1 λes _ _=>fc&&kW N is es&& !kI e&&(e.ctorIdx != 25)&&mt S fc N sc a (.e e)
 | .sf c f o a,nd=>ik nd λy0=>qF y0 λz1 e _=>dA z1 λx f' _=>(f==f')&&S.fs.contains (c,f)&& !kI e&&mt S fc N sc o (.e x)&&mt S fc N sc a (.e e)
 | .dp d k a,nd=>ik nd λy0=>qF y0 λz1 e _=>dS z1 λx y _=>!kI e&&mt S fc N sc d (.e x)&&mt S fc N sc k (.e y)&&mt S fc N sc a (.e e)
 | .sp l i a,nd=>ik nd λy0=>qF y0 λz1 e _=>dS z1 λx y _=>!kI e&&mt S fc N sc l (.e x)&&mt S fc N sc i (.e y)&&mt S fc N sc a (.e e)
 | .re a,nd=>ik nd λy0=>tR y0 λz1 _=>o1 z1 λe=>mt S fc N sc a (.e e)
 | .bg t a b,nd=>ik nd λy0=>tI y0 λx y z _=>mt S fc N sc t (.t x)&&mt S fc N sc a (.b y)&&mt S fc N sc b (.b z)
 | .fo tup is it b,nd=>ik nd λy0=>tF y0 λtg x y z1 _=>l0 z1 <|fc&&cU x&&cond tup (dT tg λes _ _=>kW N is es) (dN tg λz _=>l1 is λi=>N[i]? ==some z)&&mt S fc N sc it (.i tg x)&&mt S fc N sc b (.b y)
 | .ex a,nd=>ik nd λy0=>tE y0 λe _=>!kI e&&mt S fc N sc a (.e e)
 | .ra,nd=>match nd with| .s _=>true| .b _=>true|_=>false
 | .se a b,nd=>yo nd λy0=>lc y0 λx y=>mt S fc N sc a (.s x)&&mt S fc N sc b (.b y)
 | .en,nd=>yo nd λy0=>l0 y0 <|true
section
variable {S:SI}{fc:Bool}{N:ay}{sc:Scope}
theorem cX{t:T}{x:Expr}(h:mt S fc N sc t (.e x)=true):cU x=true:=by
 cases t<;>first|exact(iY h).1|exact bp h gZ
theorem eK{e:Expr}{es:aT}{env:Env}(h:cU e=true):starEach (e::es) env=(false,eval e env)::starEach es env:=by
 cases e<;>first|rfl|cases h
theorem ze{i:Expr}(h:cU i=true):∀o v,subscripted i false o v=operate [o,v] (getItem o v):=by
 intro o v;cases i<;>first|rfl|cases h
theorem kQ{op:CmpOp}{e:Expr}(h:cU e=true):behindInMarks op e=false:=by
 cases e<;>first|rfl|cases h
theorem y8{e:Expr}{env:Env}(h:cU e=true):∀x,foldedSetIterable e env x=pure x:=by
 intro x;cases e<;>first|rfl|cases h
theorem kM{e:Expr}{tg:Option Expr}{l:Nat}{env:Env}(h:cU e=true)(hc:kI e=false):swapsWith e tg l env=pure false:=by
 cases e<;>first|rfl|(cases hc;done)|(cases h;done)
theorem qe{o:Expr}{m:Str}{env:Env}(h:fU o=false):attributeBase o m env (eval o env)=eval o env:=by
 cases o<;>first|rfl|skip
 rename_i f as ks p;cases f<;>first|rfl|skip
 cases as<;>first|rfl|skip
 cases ks<;>first|rfl|cases h
theorem R5{e:Expr}{env:Env}(h:zJ e=false):∀whole,isTrue e env whole=(do let v<-whole;standAt e.pos;holding [v] (truthy v)):=by
 intro w;cases e<;>first|rfl|cases h|skip
 rename_i o x p;cases o<;>first|rfl|cases h
theorem iX:∀{r:T} {xs:aT},mt S fc N sc r (.a xs)=true->xs.all cU=true
 |r,[],_=>rfl
 |r,x::xs,h=>by
  cases r<;>first|exact bp h gZ|skip
  have h:=iY h;rw[eF,cX h.1,iX h.2];rfl
theorem vF{env:Env}:∀{xs:aT},xs.all cU=true->starEach xs env=xs.map λe=>(false,eval e env)
 | [],_=>rfl
 |x::xs,h=>by
  rw[eF,bh]at h;rw[eK h.1,vF h.2];rfl
theorem kU{env:Env}{p:Pos}{xs:aT}(h:xs.all cU=true):(backTo p (starEach xs env)).any (·.1)=false:=by
 rw[vF h];unfold backTo;simp
theorem yT{env:Env}{p:Pos}{xs:aT}(h:xs.all cU=true):(backTo p (starEach xs env)).all (λx=>!x.1)=true:=by
 rw[vF h];unfold backTo;simp
theorem back_eq{env:Env}{p:Pos}{xs:aT}(h:xs.all cU=true):backTo p (starEach xs env)=xs.map λe=>(false,eval e env):=by
 rw[vF h];unfold backTo;simp[iA,Function.comp_def]
theorem vR{o:Expr}{m:Str}{apos pos:Pos}{es:aT}{env:Env}(hb:fU o=false)(ha:es.all cU=true)(hl:es.length<29)(hn:gc apos pos=true):
 eval (.Call (.Attribute o m apos) es [] pos) env=(do
  let ov<-eval o env
  standAt apos.atName
  let(f,first) <-holding [ov] (getMethod ov m (do return (<-importBound o env).getD true))
  callWith pos f first (backTo pos (starEach es env)) (backToKw pos (keywordEach [] env))):=by
 have e1:eval (.Call (.Attribute o m apos) es [] pos) env=(do
  let ov<-attributeBase o m env (eval o env)
  standAt apos.atName
  methodCall o m apos pos env ov (es.length+([]:List Keyword).length) (backTo pos (starEach es env)) (backToKw pos (keywordEach [] env))):=rfl
 rw[e1,qe hb];have pW:methodCallForm (es.length+([]:List Keyword).length) (backTo pos (starEach es env)) (backToKw pos (keywordEach [] env))=true:=by
  unfold methodCallForm;rw[yT ha];have:es.length+0+0<30:=by omega
  simp[backToKw,keywordEach,this];omega
 have hpos:methodCallPos true o env apos pos=pure pos:=by
  unfold methodCallPos;unfold gc at hn;rw[az (by rw[hn];rfl)]
 unfold methodCall;rw[pW,hpos];rfl
end
structure Wd(P:Program)(w:World)(K:ag)(mg:aU)(base:Heap)(Γ:G)(k:Nat):Prop where
 bl:∀x∈Γ.S.bl,mg x=none
 gi:∀x i,Γ.S.gi.lookup x=some i->xu mg x i
 gt:∀x l,Γ.S.gt.lookup x=some l->pH K mg x l
 tb:∀x∈Γ.S.tb,KTab P w K mg x (Γ.tb x)
 tt:∀x l,Γ.S.tt.lookup x=some l->mz P w K mg x l
 cl:∀i c,Γ.S.cl[i]? =some c->bN K (Γ.C i)/\mg c=some (.ref (Γ.C i))
 fs:∀c f,(c,f)∈Γ.S.fs->bN K (Γ.C c)/\bb K (Γ.C c) f
 fn:∀(i:Nat) d,Γ.S.fd[i]? =some d->d.kind=0->xU P w K mg base k d.name d.ps (Γ.fn i)
 me:∀(i:Nat) d,Γ.S.fd[i]? =some d->d.kind=1->bN K (Γ.C d.cls)/\qS P w K mg base (Γ.C d.cls) k d.name d.ps (Γ.fn i)
 kH:∀(i:Nat) d,Γ.S.fd[i]? =some d->d.kind=2->∃j,j+1<=k/\xV P w K mg base (Γ.C d.cls) j d.ps (Γ.kH i)
 gI:∀q∈Γ.gI,∃fd ps,PySem.W.keepIn K (.ref q.1)=true/\Binds K fd ps []/\bQ P w K mg base eG k q.1 fd ps (eV K q.2)
structure AM(Γ:G)(X:Cx):Prop where
 q:X.env.qual++("<lambda>":Str)=Γ.S.lq
 cc:∃cc,X.env.code= .ref cc/\PySem.W.CodeHd X.base cc Γ.lP
 bt:X.base.BuiltinsAt X.mg Γ.lP
 gp:mainGlobals≠Γ.lP
structure eI(Γ:G)(k:Nat)(fc:Bool)(N:ay)(sc:Scope)(X:Cx):Prop where
 hN:X.N=N
 lz:∀x∈N,pS X.env.scope x/\kD x=true
 gl:∀x,sc.names.lookup x=some .globalImplicit->Gl X x
 calm:X.calm=true
 room:aI k X.A
 fn:fc=true->X.env.scope=sc/\N.Nodup/\(∀x∈N,Loc sc x)/\(∀x,X.fn x=true)/\PassesOwn (model X.prog X.w) X.A X.env X.xe/\X.env.blockKind= .function/\∀x,X.env.kindOf x=sc.names.lookup x
 lm:fc=true->N=Γ.S.ln->AM Γ X
def xW(X:Cx):aT->List aw->Prop
 | [],ts=>ts= []
 |x::xs,ts=>∃t r,ts=t::r/\ai X x t/\xW X xs r
noncomputable def Good (Γ:G)(X:Cx)(t:T):Nd->Prop
 | .e x=>ai X x (tr Γ t).E
 | .t x=>cy X x (tr Γ t).T
 | .a xs=>cw X xs (tr Γ t).A
 | .i tg x=>gG X tg x (tr Γ t).I
 | .p x=>pR X x (tr Γ t).P
 | .s x=>c8 X x (tr Γ t).S
 | .b xs=>gU X xs (tr Γ t).S
 | .l xs=>xW X xs (tr Γ t).L
section
variable {X:Cx}{Γ:G}{t:T}{r:aw}{f:Expr->Bool}{nd:Nd}
theorem oW(e:tr Γ t=ex r)(he:∀x,f x=true->ai X x r)(h:cD nd f=true):Good Γ X t nd:=by
 cases nd<;>first|(cases h;done)|skip
 . show ai X _ (tr Γ t).E;rw[e];exact he _ (iY h).2
 . rename_i x
   have h':(!zJ x&&f x)=true:=h;rw[bh,qN]at h';show cy X _ (tr Γ t).T;rw[e];exact Vl (he _ h'.2) (R5 h'.1)
theorem su(e:tr Γ t=ex r)(he:∀x,f x=true->ai X x r/\cy X x (k7 r))(h:rD nd f=true):Good Γ X t nd:=by
 cases nd<;>first|(cases h;done)|skip
 . show ai X _ (tr Γ t).E;rw[e];exact(he _ (iY h).2).1
 . show cy X _ (tr Γ t).T;rw[e];exact(he _ h).2
theorem ai.imp{e:Expr}{t t':aw}(h:ai X e t)(i:∀σ M Q,t' σ M Q->t σ M Q):ai X e t':=PE.imp h λσ0 H Q0 h=>by
 obtain⟨σ,M,Q,hs,hv,ht,hk⟩:=h;exact⟨σ,M,Q,hs,hv,i _ _ _ ht,hk⟩
theorem c8.imp{e:Stmt}{t t':bY}(h:c8 X e t)(i:∀D σ M,t' D σ M->t D σ M):c8 X e t':=PS.imp h λD0 σ0 H h=>by
 obtain⟨σ,M,D,hs,hv,ht,hd⟩:=h;exact⟨σ,M,D,hs,hv,i _ _ _ ht,hd⟩
theorem zf{e:Expr}:ai X e fR:=λpins s σ0 H Q0 I h=>by
 obtain⟨σ,M,Q,hs,hv,ht,hk⟩:=h;exact ht.elim
theorem Qp{g:Value->Value->Sem Value}:ck X g (λ_ _ _ _=>False):=λpins s σ H x y v u Q0 I rx ry h=>by
 obtain⟨a,b,M,Q,ra,rb,hv,hq,hk⟩:=h;exact hq.elim
theorem UO:∀o:Operator,ck X (binaryOp o) (il o):=by
 intro o;cases o<;>first|exact Nf|exact L9|exact M5|exact M6|exact Nb|exact Mb|exact Qp
theorem qh(hu:X.A.units+64<cLine):∀o:CmpOp,ck X (compareOp o) (cz o):=by
 intro o;cases o<;>first|exact Lp|exact Lo|exact Lk|exact Lj|exact Na hu|exact Mc hu|exact Lm|exact UR|exact Ll hu|exact UP hu
theorem CD{o p:CmpOp}{b c:Expr}(h:cU c=true):lastMarks [o,p] [b,c]=false:=kQ h
end
section
variable {X:Cx}
theorem WM:cV X (.builtin "isinstance") (eE X.K Ac):=by
 intro pins s σ H xs us Q0 I rl h;obtain⟨rs,M,Q,rr,hv,hq,hk⟩:=h;unfold Ac at hq;split at hq
 . rename_i a
   exact Pe pins s σ H xs us Q0 I rl ⟨_,M,Q,rr,hv,⟨rfl,hq⟩,hk⟩
 . rename_i x t _
   by_cases h1:t= "int"
   . subst h1;exact Rg pins s σ H xs us Q0 I rl ⟨_,M,Q,rr,hv,⟨rfl,hq⟩,hk⟩
   by_cases h2:t= "bool"
   . subst h2;exact Qe pins s σ H xs us Q0 I rl ⟨_,M,Q,rr,hv,⟨rfl,hq⟩,hk⟩
   by_cases h3:t= "str"
   . subst h3;exact Rf pins s σ H xs us Q0 I rl ⟨_,M,Q,rr,hv,⟨rfl,hq⟩,hk⟩
   by_cases h4:t= "tuple"
   . subst h4;exact Pd pins s σ H xs us Q0 I rl ⟨_,M,Q,rr,hv,⟨rfl,hq⟩,hk⟩
   by_cases h5:t= "list"
   . subst h5;exact Qd pins s σ H xs us Q0 I rl ⟨_,M,Q,rr,hv,⟨rfl,hq⟩,hk⟩
   . unfold AZ at hq
     rw[aj h1,aj h2,aj h3,aj h4,aj h5]at hq;exact hq.elim
 . exact hq.elim
theorem WL:cV X (.builtin "len") (eE X.K zA):=by
 intro pins s σ H xs us Q0 I rl h;obtain⟨rs,M,Q,rr,hv,hq,hk⟩:=h;unfold zA at hq;split at hq
 . rename_i a
   split at hq
   . rename_i ys e
     exact JT pins s σ H xs us Q0 I rl ⟨_,M,Q,rr,hv,by simp only[wV,e];exact hq,hk⟩
   . rename_i kvs e
     exact WJ pins s σ H xs us Q0 I rl ⟨_,M,Q,rr,hv,⟨a,kvs,rfl,e,hq⟩,hk⟩
   . rename_i kvs e
     exact WI pins s σ H xs us Q0 I rl ⟨_,M,Q,rr,hv,⟨a,kvs,rfl,e,hq⟩,hk⟩
   . exact hq.elim
 . exact JT pins s σ H xs us Q0 I rl ⟨_,M,Q,rr,hv,hq,hk⟩
theorem U0:bootBuiltins "min" =some (.builtin "min"):=by decide+kernel
theorem U1:bootBuiltins "max" =some (.builtin "max"):=by decide+kernel
theorem Qi:bootBuiltins "sorted" =some (.builtin "sorted"):=by decide+kernel
variable {x:Str}{p pos:Pos}{e:Expr}{es:aT}{t:bx}
theorem WQ(hc:X.calm=true)(hx:ya.contains x=true)(hm:X.mg x=none)(hg:Gl X x)(hd:(x==("__debug__":Str))=false)(ha:cw X (e::es) t)(ho:(e::es).all cU=true):ai X (.Call (.Name x p) (e::es) [] pos) (k9 (eZ x) t):=by
 rw[eF,bh]at ho;have s1:=eK (es:=es) (env:=X.env) ho.1;have s2:=kU (env:=X.env) (p:=pos) ho.2;have hm':x= "len"∨x= "isinstance"∨x= "all"∨x= "max"∨x= "sorted"∨x= "ord"∨x= "min":=by simpa[ya]using hx
 rcases hm' with rfl|rfl|rfl|rfl|rfl|rfl|rfl
 . exact mq WL hm U2 ha hg ⋯ hd s1 s2
 . exact mq WM hm Cc ha hg ⋯ hd s1 s2
 . exact mq (Rj hc) hm U4 ha hg ⋯ hd s1 s2
 . exact mq (MQ hc) hm U1 ha hg ⋯ hd s1 s2
 . exact mq (Vd hc) hm Qi ha hg ⋯ hd s1 s2
 . exact mq Nq hm Vg ha hg ⋯ hd s1 s2
 . exact mq (MP hc) hm U0 ha hg ⋯ hd s1 s2
theorem VS{y:String}(hx:["int","bool","str","tuple","list"].contains y=true)(hm:X.mg (Str.ofString y)=none)(hg:Gl X (Str.ofString y)):ai X (.Name (Str.ofString y) pos) (rC (.ty y)):=by
 have hm':y= "int"∨y= "bool"∨y= "str"∨y= "tuple"∨y= "list":=by simpa using hx
 rcases hm' with rfl|rfl|rfl|rfl|rfl
 . exact RG hm hg
 . exact PM hm hg
 . exact RF hm hg
 . exact O0 hm hg
 . exact PL hm hg
theorem Uz{C:Addr}{f:Str}{Q:aq}:pX C f Q=(λx M1=>match x with| .ref a=>∃fs v,M1 a=some (.ins C fs)/\fs.lookup f=some v/\Q v M1|_=>False):=by
 funext x M1;cases x with
 |ref a=>
  refine propext ⟨λh=>?_,λ⟨fs,v,e1,e2,q⟩=>?_⟩
  . unfold pX at h
    simp only at h;split at h
    . rename_i C' fs e1
      obtain⟨rfl,h'⟩:=h;split at h'
      . rename_i v e2;exact⟨fs,v,e1,e2,h'⟩
      . exact h'.elim
    . exact h.elim
  . unfold pX;simp only[e1,e2];exact⟨trivial,q⟩
 |_=>rfl
theorem W8{C:Addr}{f:Str}{ta:aw}(hc:bN X.K C)(hn:bb X.K C f)(he:ai X e ta)(hb:fU e=false):ai X (.Attribute e f pos) (Az C f ta):=ai.imp (Mt hc hn he (qe hb)) λσ M Q h=>by
 unfold Az at h;rw[Uz]at h;exact h
theorem VE{C:Addr}{f:Str}{o value:Expr}{ta tv:aw}{pos':Pos}(hc:bN X.K C)(hn:bb X.K C f)(ha:ai X o ta)(hv:ai X value tv)(hs:swapsWith value (some (.Attribute o f pos')) pos.line X.env=pure false):c8 X (.Assign [.Attribute o f pos'] value pos) (AA C f ta tv):=c8.imp (MM hc hn ha hv hs) λD σ M h=>by
 unfold AA at h;have:∀y,pZ C f y (D.nx σ)=(λx M2=>match x with| .ref a=>∃fs,M2 a=some (.ins C fs)/\fs.length<1000/\D.nx σ (put M2 a (.ins C (jv f y fs)))|_=>False):=λy=>by
  funext x M1;cases x with
  |ref a=>
   refine propext ⟨λh=>?_,λ⟨fs,e1,q⟩=>?_⟩
   . unfold pZ at h
     simp only at h;split at h
     . rename_i C' fs e1
       obtain⟨rfl,h'⟩:=h;exact⟨fs,e1,h'⟩
     . exact h.elim
   . unfold pZ;simp only[e1];exact⟨trivial,q⟩
  |_=>rfl
 simp only[this]at h;exact h
theorem EH{C:Addr}{m:Str}{sp:bE}{t:bx}{σ:bq}{Q:aq}:ou C m sp t σ Q=(λx M1=>match x with| .ref a=>∃fs,M1 a=some (.ins C fs)/\fs.lookup m=none/\t σ M1 λrs M2=>sp (.ref a::rs) M2 Q|_=>False):=by
 funext x M1;cases x with
 |ref a=>
  refine propext ⟨λh=>?_,λ⟨fs,e1,e2,q⟩=>?_⟩
  . unfold ou at h
    simp only at h;split at h
    . rename_i C' fs e1
      obtain⟨rfl,h'⟩:=h;exact⟨fs,e1,h'⟩
    . exact h.elim
  . unfold ou;simp only[e1];exact⟨trivial,e2,q⟩
 |_=>rfl
theorem UT{C:Addr}{m:Str}{sp:bE}{o:Expr}{ta:aw}{apos:Pos}{k:Nat}{ps:ay}(F:qS X.prog X.w X.K X.mg X.base C k m ps sp)(c:bN X.K C)(hr:aI k X.A)(he:ai X o ta)(hb:fU o=false)(hn:gc apos pos=true):
 ai X (.Call (.Attribute o m apos) [] [] pos) (pK C m sp ta jA):=ai.imp (RN F c hr he (vR hb rfl ⋯ hn)) λσ M Q h=>by
 unfold pK at h;rw[EH]at h;exact h
theorem Wk{C:Addr}{m:Str}{sp:bE}{o:Expr}{ta:aw}{apos:Pos}{k:Nat}{ps:ay}(F:qS X.prog X.w X.K X.mg X.base C k m ps sp)(c:bN X.K C)(hr:aI k X.A)(he:ai X o ta)(ha:cw X (e::es) t)(hb:fU o=false)(ho:(e::es).all cU=true)(hl:(e::es).length<29)(hn:gc apos pos=true):
 ai X (.Call (.Attribute o m apos) (e::es) [] pos) (pK C m sp ta t):=by
 have ho':=ho;rw[eF,bh]at ho;refine ai.imp (T7 F c hr he ha (eK ho.1) (kU ho.2) (vR hb ho' hl hn)) λσ M Q h=>?_
 unfold pK at h;rw[EH]at h;exact h
end
theorem zF{S:SI}{fc:Bool}{N:ay}{sc:Scope}{r:T}(h:mt S fc N sc r (.a [])=true):r= .e0:=by
 cases r<;>first|rfl|exact bp h gZ
section
variable {X:Cx}{C:Addr}
theorem RP{x:Str}{p pos:Pos}{k:Nat}{ps:ay}{sp:bE}(F:xV X.prog X.w X.K X.mg X.base C k ps sp)(hr:aI (k+1) X.A)(hm:X.mg x=some (.ref C))(hg:Gl X x)(hdb:(x==("__debug__":Str))=false):ai X (.Call (.Name x p) [] [] pos) (qm C sp jA):=by
 obtain⟨g,fd,hM,hb,F⟩:=F.ex;refine PE.imp (QZ hM F hr hg hm hb .nil ph hdb) λσ0 H Q0 h=>?_
 obtain⟨σ,M,Q,hs,hv,ht,hk⟩:=h;refine λa dx na nd ne=>?_
 have ex1:Ext H (upd H dx (.own a)):=Ext.new nd;have na':(upd H dx (.own a)) a=none:=by rw[aK (d9 ne)];exact na
 have ex2:Ext H (upd (upd H dx (.own a)) a (.ins C dx [])):=ex1.trans (Ext.new na');refine⟨[.ref a],put M a (.ins C []),_,ae.cons (by simp only[Rep]) ae.nil,(hv.new nd).cS na' ⟨dx,[],rfl,rfl⟩,ht a (hv.free na),λrv M2 v H2 q2 e2 v2 r2=>?_⟩
 obtain⟨rfl,q2⟩:=q2;simp only[Rep]at r2;exact⟨r2,hk _ M2 _ H2 q2 (ex2.trans e2) v2 (by simp only[Rep])⟩
theorem fJ{sc:Scope}{x:Str}(h:eQ sc x=true):sc.names.lookup x=some .globalImplicit/\(x==("__debug__":Str))=false:=by
 unfold eQ at h;rw[bh,eW,qN]at h;exact h
theorem Fc{x:Str}(h:kD x=true):(x==("__debug__":Str))=false/\(x==("__classdict__":Str))=false:=by
 unfold kD at h
 rwa [bh,qN,qN]at h
theorem Df{tg e:Expr}{l:Nat}{env:Env}(h:cU e=true)(hc:kI e=false):swapsWithSole [tg] e l env=pure false:=kM h hc
theorem mem_of{α:Type}[BEq α][LawfulBEq α]{a:α}{l:List α}(h:l.contains a=true):a∈l:=by simpa using h
theorem Te{o i:Expr}{p:Pos}(h:cU i=true):∀v,assign (.Subscript o i p) X.env v=(do
 let ov<-holding [v] (eval o X.env)
 let iv<-holding [v,ov] (eval i X.env)
 standAt p
 holding [v,ov,iv] (setItem ov iv v)
 release [v,ov,iv] []):=by intro v;cases i<;>first|rfl|cases h
theorem DX{K:ag}{neg:Bool}{ss:ay}{ta:aw}{σ0:L2.St}{H:Hp}{Q0:VK}(h:up K (qv neg ss ta) σ0 H Q0):qG (qH K (wW K neg)) (up K ta) (up K (Kl K ss)) σ0 H Q0:=by
 obtain⟨σ,M,Q,hs,hv,ht,hk⟩:=h;refine⟨σ,M,_,hs,hv,ht,λrx M1 x H1 q e1 v1 r1=>?_⟩
 refine⟨σ,M1,λy M2=>∃p,y= .ref p/\tN K p ss/\M2=M1,hs.ext e1,v1,λp hp=>⟨p,rfl,hp,rfl⟩,λry M2 y H2 q2 e2 v2 r2=>?_⟩
 obtain⟨p,rfl,hp,rfl⟩:=q2;exact⟨rx,.ref p,_,Q,Rep.ext e2 _ _ r1,r2,v2,⟨ss,hp,q.1,q.2⟩,hk.ext (e1.trans e2)⟩
theorem ER{neg:Bool}{op:CmpOp}{ss:ay}{a:Expr}{ta:aw}{x:Str}{p pos:Pos}(ho:ck X (compareOp op) (wW X.K neg))(h:pH X.K X.mg x ss)(ha:ai X a ta)(hg:Gl X x)(hd:(x==("__debug__":Str))=false):ai X (.Compare a [op] [.Name x p] pos) (qv neg ss ta)/\cy X (.Compare a [op] [.Name x p] pos) (k7 (qv neg ss ta)):=
 ⟨PE.imp (D2 ho ha (Kt h hg hd) (kQ rfl)) λ_ _ _ h=>DX h,PT.imp (DY ho ha (Kt h hg hd) (kQ rfl)) λσ0 H Q0 h=>by
  obtain⟨σ,M,Q,hs,hv,ht,hk⟩:=h;exact DX ⟨σ,M,_,hs,hv,ht,oU hk⟩⟩
theorem FV{o e:Expr}{m:Str}{ap p:Pos}(h0:fU o=false)(hn:gc ap p=true)(he:cU e=true):M1 X o m ap e p where
 base:=qe h0
 pW:=by rw[yT (by rw[eF,he];rfl)];rfl
 line:=hn
 trees:=back_eq (by rw[eF,he];rfl)
end
section
variable {X:Cx}{Γ:G}{k:Nat}{fc:Bool}{N:ay}{sc:Scope}
theorem eI.var(O:eI Γ k fc N sc X){i:Nat}{x:Str}{pos:Pos}(h:N[i]? =some x):ai X (.Name x pos) (jz i):=by
 have m:=O.lz x (hW h);have d:=Fc m.2;exact rv i (by rw[O.hN];exact h) m.1 d.1 d.2
theorem eI.pJ(O:eI Γ k true N sc X){i:Nat}{x:Str}{e:Expr}{te:aw}{pos pos':Pos}(h:N[i]? =some x)(he:ai X e te)(hs:swapsWith e (some (.Name x pos')) pos.line X.env=pure false):c8 X (.Assign [.Name x pos'] e pos) (tH i te):=by
 obtain⟨hsc,nd,hl,hf,_⟩:=O.fn rfl;exact sset i he (by rw[O.hN];exact nd) (by rw[O.hN];exact h) (by rw[hsc];exact hl x (hW h)) hs (.inl (hf x))
theorem eI.gN(O:eI Γ k true N sc X){i:Nat}{x:Str}{pos:Pos}(h:N[i]? =some x):ng X (.Name x pos) (mQ i):=by
 obtain⟨hsc,nd,hl,hf,_⟩:=O.fn rfl;exact WX i (by rw[O.hN];exact nd) (by rw[O.hN];exact h) (by rw[hsc];exact hl x (hW h)) (.inl (hf x))
theorem C8(O:eI Γ k true N sc X):∀(is:List Nat) (es:aT),kW N is es=true->m8 X es (lu is)/\(assignEach es X.env).length=is.length/\(assignEach es X.env).findIdx? (·.1)=none
 | [],[],_=>⟨DZ,rfl,rfl⟩
 | [],_::_,h=>by simp[kW]at h
 |i::is,[],h=>by simp[kW]at h
 |i::is,e::es,h=>by
  cases e<;>first|(simp[kW]at h;done)|skip
  rename_i x p;simp only[kW,bh,eW]at h;obtain⟨hsc,nd,hl,hf,_⟩:=O.fn rfl;obtain⟨a,b,c⟩:=C8 O is es h.2;have hd:(assignEach (.Name x p::es) X.env)=(false,assign (.Name x p) X.env)::assignEach es X.env:=rfl;refine⟨Dr (vQ (i:=i) (by rw[O.hN];exact nd) (by rw[O.hN];exact h.1) (by rw[hsc];exact hl x (hW h.1)) (.inl (hf x))) a,by rw[hd,dc,b];rfl,by rw[hd,List.findIdx?_cons,c];rfl⟩
theorem gT(O:eI Γ k true N sc X){is:List Nat}{es:aT}{j:Nat}{pos:Pos}(h:kW N is es=true):ng X (.Tuple es j pos) (mR is):=by
 obtain⟨a,b,c⟩:=C8 O is es h;exact Nl O.calm a rfl b c
theorem Ej{scope:Scope}{nm:ay}{cap:List (Nat×Str)}{cl:List (Str×Addr)}{C:Addr}{s:Shared}{H:Hp}{fp:List Addr}(O:eI Γ k fc N sc X)(hs:tJ N sc scope nm cap=true):
 eI Γ k false (nm++cap.map Prod.snd) scope (cL X scope cl C (nm++cap.map Prod.snd) s H fp):=by
 unfold tJ at hs;simp only[bh,gk,eW]at hs;obtain⟨⟨⟨⟨⟨⟨⟨hcap,_⟩,_⟩,_⟩,_⟩,hnm⟩,_⟩,hdb⟩:=hs;refine⟨rfl,λx hx=>⟨?_,hdb x hx⟩,λx h=>K1 h,O.calm,O.room,(λh=>by cases h),λh=>by cases h⟩
 rcases jH.mp hx with hx|hx
 . exact .inl (lookup_relabel_local (hnm x hx))
 . obtain⟨p,hp,rfl⟩:=dH.mp hx
   exact .inr (Cm (hcap p hp).1.2)
theorem Gu{x:Str}(h:cf sc x=true):sc.names.lookup x=some .cell∨sc.names.lookup x=some .free:=by
 unfold cf at h
 rwa [Bool.or_eq_true,eW,eW]at h
theorem VV{tup:Bool}{tg:Expr}{nm:ay}(h:zB tup tg nm=true):wM tup tg nm:=by
 unfold zB at h;unfold wM;split at h
 . simpa using h
 . simpa using h
 . cases h
structure Fg(X:Cx)(N:ay)(sc scope:Scope)(nm:ay)(cap:List (Nat×Str)):Prop where
 fF:∀p∈cap,N[p.1]? =some p.2/\scope.names.lookup p.2=some .free/\(sc.names.lookup p.2=some .cell∨sc.names.lookup p.2=some .free)
 iR:∀y∈scope.names,y.2= .free->(sc.names.lookup y.1=some .cell∨sc.names.lookup y.1=some .free)
 bA:∀y∈scope.names,y.2≠.cell
 bD:scope.kind= .function
 cq:∀y∈scope.names,y.2= .local->scope.names.lookup y.1=some .local
 hx:∀x∈nm,scope.names.lookup x=some .local
 kG:(nm++cap.map Prod.snd).Nodup
theorem Qb{scope:Scope}{nm:ay}{cap:List (Nat×Str)}(hs:tJ N sc scope nm cap=true):Fg X N sc scope nm cap:=by
 unfold tJ at hs;simp only[bh,gk,eW,jk]at hs;obtain⟨⟨⟨⟨⟨⟨⟨hcap,iR⟩,bA⟩,bD⟩,cq⟩,hnm⟩,kG⟩,hdb⟩:=hs;refine⟨λp hp=>⟨(hcap p hp).1.1,(hcap p hp).1.2,Gu (hcap p hp).2⟩,λy hy e=>?_,λy hy e=>?_,bD,λy hy e=>?_,hnm,kG⟩
 . have:=iR y hy
   rw[e]at this;exact Gu (by simpa using this)
 . have:=bA y hy
   rw[e]at this;simp at this
 . have:=cq y hy
   rw[e]at this;simpa using this
end
section
variable {Γ:G}{k:Nat}{X:Cx}{fc:Bool}{N:ay}{sc:Scope}
theorem Vz{el:Expr}{gs:List Comprehension}{scope:Scope}{p:Pos}{x:Str}{px:Pos}{l:Nat}(O:eI Γ k true N sc X)(h:sc.names.lookup x=some .cell):swapsWith (.ListComp el gs scope p) (some (.Name x px)) l X.env=pure false:=by
 obtain⟨_,_,_,_,_,hb,hk⟩:=O.fn rfl;show(pure (X.env.blockKind== .function&&X.env.kindOf x==some .local&&px.line==p.line&& !(scope.names.any λ(n,k)=>n==x&&(k== .local||k== .cell))):Sem Bool)=_
 rw[hk,h,show((some NameKind.cell:Option NameKind)==some .local)=false from by decide]
 simp
theorem Ud{elt iter tg:Expr}{nm:ay}{tup md:Bool}{scope:Scope}{pos:Pos}{ti:fP}{tt:c9}{te:aw}{ifs:aT}{cap:List (Nat×Str)}(O:eI Γ k true N sc X)(c:Fg X N sc scope nm cap)(htg:wM tup tg nm)(hi:gG X tg iter ti)
 (hif:∀cl C s H fp,qB (cL X scope cl C (nm++cap.map Prod.snd) s H fp) ifs tt) (hel:∀cl C s H fp,ai (cL X scope cl C (nm++cap.map Prod.snd) s H fp) elt te) (hs:∀v,foldedSetIterable iter X.env v=pure v):
 ai X (.ListComp elt [⟨tg,iter,ifs,0⟩] scope pos) (wm (pF tup nm.length) md ti (cap.map Prod.fst) tt te):=by
 obtain⟨hsc,nd,hl,hf,_⟩:=O.fn rfl;intro pins s σ0 H Q0 I hw;rw[eval_ListComp];exact Rc cap htg O.calm hi hif hel hsc O.hN c.fF c.iR c.bA c.bD c.cq c.hx c.kG hs I hw (use:=none) λD C s5 m5 H5 hn inv q hC hL hS hce hpi=>⟨m5,hn,λh' sb=>⟨.ref D,H5,inv h' sb,rfl,q⟩⟩
end
section
variable {X:Cx}{Γ:G}{t:T}{nd:Nd}
theorem Dp{op:BoolOp}{vs:aT}{p:Pos}{t:c9}(h:cy X (.BoolOp op vs p) t):lR X (.BoolOp op vs p) t:=λwhole pins s σ H Q I w=>h pins s σ H Q I w
theorem vU{f g:Expr->Bool}(he:∀x,f x=true->ai X x (tr Γ t).E)(ht:∀x,g x=true->cy X x (tr Γ t).T)(h:rF nd f g=true):Good Γ X t nd:=by
 cases nd<;>first|(cases h;done)|exact ht _ h|exact he _ (iY h).2
theorem Us{f:Stmt->Bool}(he:∀x,f x=true->c8 X x (tr Γ t).S)(h:ik nd f=true):Good Γ X t nd:=by
 cases nd<;>first|(cases h;done)|exact he _ h
theorem En{f:(aT->Nd)->aT->Bool}(he:∀x,f .a x=true->cw X x (tr Γ t).A)(hl:∀x,f .l x=true->xW X x (tr Γ t).L)(h:yn nd f=true):Good Γ X t nd:=by
 cases nd<;>first|(cases h;done)|exact he _ h|exact hl _ h
theorem o5{f:Expr->Expr->Bool}(he:∀tg x,f tg x=true->gG X tg x (tr Γ t).I)(h:lZ nd f=true):Good Γ X t nd:=by
 cases nd<;>first|(cases h;done)|exact he _ _ h
theorem El{f:Option Expr->Bool}(he:∀x,f x=true->pR X x (tr Γ t).P)(h:yp nd f=true):Good Γ X t nd:=by
 cases nd<;>first|(cases h;done)|exact he _ h
theorem Em{f:List Stmt->Bool}(he:∀x,f x=true->gU X x (tr Γ t).S)(h:yo nd f=true):Good Γ X t nd:=by
 cases nd<;>first|(cases h;done)|exact he _ h
theorem ML{st:Stmt}:c8 X st (λ_ _ _=>False):=λpins s σ0 H D0 I h=>by
 obtain⟨σ,M,D,hs,hv,ht,hd⟩:=h;exact ht.elim
theorem VD{st:List Stmt}:gU X st (λ_ _ _=>False):=λpins s σ0 H D0 I h=>by
 obtain⟨σ,M,D,hs,hv,ht,hd⟩:=h;exact ht.elim
end
theorem Pb{Γ:G}{k:Nat}{X:Cx}{N:ay}{sc:Scope}{t:T}{ifs:aT}(O:eI Γ k false N sc X)(W:Wd X.prog X.w X.K X.mg X.base Γ k)
 (ih:∀{fc:Bool} {N:ay} {sc:Scope} {X:Cx},eI Γ k fc N sc X->Wd X.prog X.w X.K X.mg X.base Γ k->∀{nd},mt Γ.S fc N sc t nd=true->Good Γ X t nd)
 (h:(match ifs with| []=>FP t| [c]=>mt Γ.S false N sc t (.t c)|_=>false)=true):qB X ifs (tr Γ t).T:=by
 split at h
 . revert h
   exactλh=>di h λi=>T.b.elim t i λb h=>by cases b<;>first|exact LF|cases h
 . exact LD (ih O W h)
 . cases h
set_option hygiene false in
local macro_rules
 | `(tactic|walk_at "g0")=>`(tactic|(intro fc N sc X O W nd h))
 | `(tactic|walk_at "gE")=>`(tactic|(walk_at "g0";refine oW rfl (fun x hx=>?_) h))
 | `(tactic|walk_at "gS")=>`(tactic|(walk_at "g0";refine Us (fun x hx=>?_) h))
 | `(tactic|walk_at "ga")=>`(tactic|simp only[bh,eW]at hx)
theorem sound{Γ:G}{k:Nat}:∀(t:T) {fc:Bool} {N:ay} {sc:Scope} {X:Cx},eI Γ k fc N sc X->Wd X.prog X.w X.K X.mg X.base Γ k->∀{nd},mt Γ.S fc N sc t nd=true->Good Γ X t nd:=by
 intro t
 induction t with
 |v i=>
  walk_at "gE";refine i6 hx λ_ _ hx=>?_
  exact O.var (by simpa using hx)
 |i n=>
  walk_at "gE";refine wD hx λm _ _ hx=>?_
  obtain rfl:=gm hx;exact ri
 |s n=>
  walk_at "gE";refine wD hx λm _ _ hx=>?_
  obtain rfl:=gm hx;exact rs
 |b n=>
  walk_at "gE";refine wD hx λm _ _ hx=>?_
  obtain rfl:=gm hx;exact rb
 |n=>
  walk_at "gE";refine wD hx λ_ _ _ hx=>?_
  obtain rfl:=gm hx;exact rn
 |g x0=>
  walk_at "gE";refine i6 hx λ_ _ hx=>?_
  walk_at "ga";obtain⟨⟨rfl,h1⟩,h2⟩:=hx;obtain⟨h2,h3⟩:=fJ h2;obtain⟨i,hi⟩:=tW.mp h1;rw[hi];exact Xn (W.gi _ _ hi) (O.gl _ h2) h3
 |ty x0=>
  walk_at "gE";refine i6 hx λ_ _ hx=>?_
  walk_at "ga";obtain⟨⟨⟨rfl,h1⟩,h2⟩,h3⟩:=hx;exact VS h1 (W.bl _ (mem_of h2)) (O.gl _ (fJ h3).1)
 |op o a b iha ihb=>
  walk_at "gE";refine WH hx λ_ _ _ _ hx=>?_
  walk_at "ga";obtain⟨⟨rfl,h1⟩,h2⟩:=hx;exact Xq (UO o) (iha O W h1) (ihb O W h2)
 |cm o a b iha ihb=>
  walk_at "g0";refine su rfl (λx hx=>?_) h
  refine sP hx λ_ _ _ _ hx=>?_
  walk_at "ga";obtain⟨⟨rfl,h1⟩,h2⟩:=hx;exact⟨Mu (qh O.room.units o) (iha O W h1) (ihb O W h2) (kQ (cX h2)),Vn (qh O.room.units o) (iha O W h1) (ihb O W h2) (kQ (cX h2))⟩
 |ch o p a b c iha ihb ihc=>
  walk_at "g0";refine su rfl (λx hx=>?_) h
  refine Gp hx λ_ z1 z2 _ hx=>?_
  refine zP hx λ_ _ hx=>?_
  refine zP hx λ_ _ hx=>?_
  walk_at "ga";obtain⟨⟨⟨⟨rfl,rfl⟩,h1⟩,h2⟩,h3⟩:=hx;exact⟨Ue (qh O.room.units _) (qh O.room.units _) (iha O W h1) (ihb O W h2) (ihc O W h3) (CD (cX h3)),RH (qh O.room.units _) (qh O.room.units _) (iha O W h1) (ihb O W h2) (ihc O W h3) (CD (cX h3))⟩
 |an a b iha ihb=>
  walk_at "g0";refine vU (λx hx=>?_) (λx hx=>?_) h
  . refine wC hx λz1 z2 p hx=>?_
    refine o8 hx λhx=>?_
    refine gP hx λx z3 hx=>?_
    refine gP hx λy r hx=>?_
    simp only[bh]at hx;have h1:=iha O W hx.1;have h2:=ihb O W hx.2;cases r with
    |nil=>exact FJ h1 (Ka (h2:ai X y _))
    |cons z r=>exact FJ h1 h2
  . refine wC hx λz1 z2 p hx=>?_
    refine o8 hx λhx=>?_
    refine gP hx λx z3 hx=>?_
    refine gP hx λy r hx=>?_
    simp only[bh]at hx;have h1:=iha O W hx.1;have h2:=ihb O W hx.2;cases r with
    |nil=>exact xA (rand h1 (Wu (h2:cy X y _)))
    |cons z r=>exact xA (rand h1 (Dp h2))
 |or a b iha ihb=>
  walk_at "g0";refine vU (λx hx=>?_) (λx hx=>?_) h
  . refine wC hx λz1 z2 p hx=>?_
    refine o8 hx λhx=>?_
    refine gP hx λx z3 hx=>?_
    refine gP hx λy r hx=>?_
    simp only[bh]at hx;have h1:=iha O W hx.1;have h2:=ihb O W hx.2;cases r with
    |nil=>exact J9 h1 (Ka (h2:ai X y _))
    |cons z r=>exact J9 h1 h2
  . refine wC hx λz1 z2 p hx=>?_
    refine o8 hx λhx=>?_
    refine gP hx λx z3 hx=>?_
    refine gP hx λy r hx=>?_
    simp only[bh]at hx;have h1:=iha O W hx.1;have h2:=ihb O W hx.2;cases r with
    |nil=>exact xA (Ku h1 (Mr (h2:cy X y _)))
    |cons z r=>exact xA (Ku h1 (Dp h2))
 |no a iha=>
  walk_at "g0";refine vU (λx hx=>?_) (λx hx=>?_) h
  . refine Gh hx λz1 _ _ hx=>?_
    refine o8 hx λhx=>?_
    exact Wm (iha O W hx)
  . refine Gh hx λz1 _ _ hx=>?_
    refine o8 hx λhx=>?_
    exact Vm (iha O W hx)
 |ie t a b iht iha ihb=>
  walk_at "gE";refine Xg hx λ_ _ _ _ hx=>?_
  walk_at "ga";obtain⟨⟨h1,h2⟩,h3⟩:=hx;exact Xo (iht O W h1) (iha O W h2) (ihb O W h3)
 |tu a iha=>
  walk_at "gE";refine zQ hx λ_ _ _ hx=>?_
  exact J8 (iha O W hx)
 |ll a iha=>
  walk_at "gE";refine Gj hx λ_ _ hx=>?_
  exact Kb (iha O W hx)
 |lm a iha=>
  walk_at "gE";refine Gj hx λ_ _ hx=>?_
  exact Ms (iha O W hx)
 |e0=>
  walk_at "g0";refine En (λx hx=>?_) (λx hx=>?_) h
  . refine gQ hx λ_=>?_
    exact pG
  . refine gQ hx λ_=>?_
    rfl
 |ec a r iha ihr=>
  walk_at "g0";refine En (λx hx=>?_) (λx hx=>?_) h
  . refine gP hx λ_ _ hx=>?_
    have hx:=iY hx;exact kZ (iha O W hx.1) (ihr O W hx.2) (eK (cX hx.1))
  . refine gP hx λ_ _ hx=>?_
    have hx:=iY hx;exact⟨_,_,rfl,iha O W hx.1,ihr O W hx.2⟩
 |ix a b iha ihb=>
  walk_at "gE";refine pb hx λ_ _ _ hx=>?_
  walk_at "ga";obtain⟨h1,h2⟩:=hx;exact Xp (iha O W h1) (ihb O W h2) (ze (cX h2))
 |sl a l h0 iha ihl ihh=>
  walk_at "gE";refine pb hx λ_ z1 _ hx=>?_
  refine Xf hx λ_ _ z2 _ hx=>?_
  refine FT hx λhx=>?_
  walk_at "ga";obtain⟨⟨h1,h2⟩,h3⟩:=hx;exact Xr (iha O W h1) (ihl O W h2) (ihh O W h3)
 |p0=>
  walk_at "g0";refine El (λx hx=>?_) h
  refine FT hx λhx=>?_
  exact V3
 |p1 a iha=>
  walk_at "g0";refine El (λx hx=>?_) h
  refine FR hx λ_ hx=>?_
  exact WC (iha O W hx)
 |fl c f a iha=>
  walk_at "gE";refine wF hx λ_ _ _ hx=>?_
  walk_at "ga";obtain⟨⟨⟨rfl,h1⟩,h2⟩,h3⟩:=hx;exact W8 (W.fs _ _ (mem_of h1)).1 (W.fs _ _ (mem_of h1)).2 (iha O W h3) (by simpa using h2)
 |ca f a iha=>
  walk_at "gE";refine o6 hx λx p es p' hx=>?_
  simp only[bh]at hx;obtain⟨⟨h1,h2⟩,h3⟩:=hx;cases e:Γ.S.fd[f]? with
  |none=>rw[e]at h1;cases h1
  |some d=>
  rw[e]at h1;simp only[bh,eW]at h1;obtain⟨h1,rfl⟩:=h1;obtain⟨h2,h4⟩:=fJ h2;cases es with
  |nil=>
   have:=zF h3;subst this;exact RQ (W.fn f d e h1) O.room (O.gl _ h2) h4
  |cons z es=>
   have ho:=iX h3;rw[eF,bh]at ho;exact Uh (W.fn f d e h1) O.room (iha O W h3) (O.gl _ h2) h4 (eK ho.1) (kU ho.2)
 |me f o a iho iha=>
  walk_at "g0";cases ef:Γ.S.fd[f]? with
  |none=>
   refine oW (r:=fR) (by show ex _=_;rw[ef]) (λx hx=>zf) h
  |some d=>
   refine oW (r:=pK (Γ.C d.cls) d.name (Γ.fn f) (tr Γ o).E (tr Γ a).A) (by show ex _=_;rw[ef]) (λx hx=>?_) h
   refine qg hx λx m ap es p hx=>?_
   rw[ef]at hx;simp only[bh,eW,jk]at hx;obtain⟨⟨⟨⟨⟨⟨h1,rfl⟩,h2⟩,h3⟩,h4⟩,h5⟩,h6⟩:=hx;have W1:=W.me f d ef h1;cases es with
   |nil=>
    have:=zF h6;subst this;exact UT W1.2 W1.1 O.room (iho O W h5) (by simpa using h2) h3
   |cons z es=>exact Wk W1.2 W1.1 O.room (iho O W h5) (iha O W h6) (by simpa using h2) (iX h6) h4 h3
 |mk f a iha=>
  walk_at "g0";cases ef:Γ.S.fd[f]? with
  |none=>
   refine oW (r:=fR) (by show ex _=_;rw[ef]) (λx hx=>zf) h
  |some d=>
   refine oW (r:=qm (Γ.C d.cls) (Γ.kH f) (tr Γ a).A) (by show ex _=_;rw[ef]) (λx hx=>?_) h
   refine o6 hx λx p es p' hx=>?_
   rw[ef]at hx;walk_at "ga";obtain⟨⟨⟨h1,h1'⟩,h2⟩,h3⟩:=hx;obtain⟨h2,h4⟩:=fJ h2;obtain⟨j,hj,F⟩:=W.kH f d ef h1;have C1:=W.cl _ _ h1';cases es with
   |nil=>
    have:=zF h3;subst this;exact RP F (O.room.mono hj) C1.2 (O.gl _ h2) h4
   |cons z es=>
    have ho:=iX h3;rw[eF,bh]at ho;exact T9 F (O.room.mono hj) C1.2 (iha O W h3) (O.gl _ h2) h4 (eK ho.1) (kU ho.2)
 |bf f a iha=>
  walk_at "gE";refine o6 hx λx p es p' hx=>?_
  walk_at "ga";obtain⟨⟨⟨⟨⟨rfl,h1⟩,h2⟩,h3⟩,h4⟩,h5⟩:=hx;obtain⟨h3,h6⟩:=fJ h3;cases es with
  |nil=>cases h4
  |cons z es=>exact WQ O.calm h1 (W.bl _ (mem_of h2)) (O.gl _ h3) h6 (iha O W h5) (iX h5)
 |ap o a iho iha=>
  walk_at "gE";refine qg hx λ_ _ _ z1 _ hx=>?_
  refine iy hx λ_ hx=>?_
  walk_at "ga";obtain⟨⟨⟨⟨rfl,h1⟩,h2⟩,h3⟩,h4⟩:=hx;exact RS (iho O W h3) (iha O W h4) (qe (by simpa using h1)) (by rw[yT (iX h4)];rfl) h2 (eK (by have:=iX h4;rw[eF,bh]at this;exact this.1)) rfl
 |dg d k0 ihd ihk=>
  walk_at "gE";refine pb hx λ_ _ _ hx=>?_
  walk_at "ga";obtain⟨h1,h2⟩:=hx;exact VR (la O.room) (ihd O W h1) (ihk O W h2) (ze (cX h2))
 |dn neg k0 d ihk ihd=>
  walk_at "g0";refine su rfl (λx hx=>?_) h
  refine sP hx λ_ _ _ _ hx=>?_
  walk_at "ga";obtain⟨⟨h0,h1⟩,h2⟩:=hx;have g1:=ihk O W h1;have g2:=ihd O W h2;cases neg with
  |true=>rw[az rfl]at h0;subst h0;exact⟨R3 (la O.room) g1 g2 (kQ (cX h2)),PZ (la O.room) g1 g2 (kQ (cX h2))⟩
  |false=>rw[aj ⋯]at h0;subst h0;exact⟨LC (la O.room) g1 g2 (kQ (cX h2)),VQ (la O.room) g1 g2 (kQ (cX h2))⟩
 |d1 d k0 ihd ihk=>
  walk_at "gE";refine qg hx λ_ _ _ z1 _ hx=>?_
  refine iy hx λ_ hx=>?_
  walk_at "ga";obtain⟨⟨⟨⟨rfl,h1⟩,h2⟩,h3⟩,h4⟩:=hx;exact S2 (la O.room) (ihd O W h3) (ihk O W h4) (FV (by simpa using h1) h2 (cX h4))
 |dk=>
  walk_at "gE";refine Gm hx λz1 z2 _ hx=>?_
  refine gQ hx λhx=>?_
  refine gQ hx λhx=>?_
  exact Wt
 |dt=>
  walk_at "gE";refine Gm hx λz1 z2 _ hx=>?_
  refine gQ hx λhx=>?_
  refine gQ hx λhx=>?_
  exact Uc
 |ic neg a x0 iha=>
  walk_at "g0";cases ef:Γ.S.gt.lookup x0 with
  |none=>
   refine su (r:=fR) (by show ex _=_;rw[ef]) (λx hx=>?_) h
   refine sP hx λ_ _ z1 _ hx=>?_
   refine i6 hx λ_ _ hx=>?_
   rw[ef]at hx;simp at hx
  |some ss=>
   refine su (r:=qv neg ss (tr Γ a).E) (by show ex _=_;rw[ef]) (λx hx=>?_) h
   refine sP hx λ_ _ z1 _ hx=>?_
   refine i6 hx λ_ _ hx=>?_
   walk_at "ga";obtain⟨⟨⟨⟨h0,rfl⟩,_⟩,h2⟩,h3⟩:=hx;obtain⟨h2,h4⟩:=fJ h2;have g:=iha O W h3;cases neg with
   |true=>rw[az rfl]at h0;subst h0;exact ER (Sz O.room.units) (W.gt _ _ ef) g (O.gl _ h2) h4
   |false=>rw[aj ⋯]at h0;subst h0;exact ER (M7 O.room.units) (W.gt _ _ ef) g (O.gl _ h2) h4
 |tx x0 a iha=>
  walk_at "gE";refine pb hx λz1 _ _ hx=>?_
  refine i6 hx λ_ _ hx=>?_
  walk_at "ga";obtain⟨⟨⟨rfl,h1⟩,h2⟩,h3⟩:=hx;exact Mq (W.tb _ (mem_of h1)) (iha O W h3) (ze (cX h3)) (O.gl _ (fJ h2).1) (fJ h2).2
 |tg x0 a iha=>
  walk_at "g0";cases ef:Γ.S.tt.lookup x0 with
  |none=>refine oW (r:=fR) (by show ex _=_;rw[ef]) (λx hx=>zf) h
  |some l=>
   refine oW (r:=vP l (tr Γ a).E) (by show ex _=_;rw[ef]) (λx hx=>?_) h
   refine qg hx λz1 _ _ z2 _ hx=>?_
   refine i6 hx λ_ _ hx=>?_
   refine iy hx λ_ hx=>?_
   walk_at "ga";obtain⟨⟨⟨⟨⟨rfl,rfl⟩,_⟩,h2⟩,h3⟩,h4⟩:=hx;obtain⟨h2,h5⟩:=fJ h2;exact RI (la O.room) (W.tt _ _ ef) (iha O W h4) (FV rfl h3 (cX h4)) (O.gl _ h2) h5
 |tn x0 a iha=>
  walk_at "g0";refine vU (λx hx=>by cases hx) (λx hx=>?_) h
  refine sP hx λ_ _ z1 _ hx=>?_
  refine i6 hx λ_ _ hx=>?_
  walk_at "ga";obtain⟨⟨⟨⟨rfl,rfl⟩,h1⟩,h2⟩,h3⟩:=hx;obtain⟨h2,h5⟩:=fJ h2;exact O1 (W.tb _ (mem_of h1)) (iha O W h3) (O.gl _ h2) h5
 |cv i a iha=>
  walk_at "gE";refine o6 hx λx p es p' hx=>?_
  walk_at "ga";obtain⟨⟨h1,h2⟩,h3⟩:=hx;cases es with
  |nil=>cases h2
  |cons z es=>
   have ho:=iX h3;rw[eF,bh]at ho;exact Ug Γ.gI (λq hq=>by obtain⟨fd,ps,a1,a2,a3⟩:=W.gI q hq;exact⟨fd,ps,k,O.room,a1,a2,a3⟩) (O.var h1) (iha O W h3) (eK ho.1) (kU ho.2)
 |cp md tup nm cap it t e ihi iht ihe=>
  walk_at "gE";refine WG hx λel z1 scope p hx=>?_
  refine iy hx λz2 hx=>?_
  obtain⟨tg,ite,ifs,as⟩:=z2;walk_at "ga";obtain⟨⟨⟨⟨⟨⟨⟨rfl,rfl⟩,h1⟩,h2⟩,h3⟩,h4⟩,h5⟩,h6⟩:=hx;exact Ud O (Qb h2) (VV h1) (ihi O W h4) (λcl C s H fp=>Pb (Ej O h2) W iht h6) (λcl C s H fp=>ihe (Ej O h2) W h5) (y8 h3)
 |iv a iha=>
  walk_at "g0";refine o5 (λtg x hx=>?_) h
  refine qg hx λ_ _ _ z1 _ hx=>?_
  refine gQ hx λhx=>?_
  walk_at "ga";obtain⟨⟨⟨rfl,h1⟩,h2⟩,h3⟩:=hx;exact V2 (iha O W h3) (qe (by simpa using h1)) h2
 |im a iha=>
  walk_at "g0";refine o5 (λtg x hx=>?_) h
  refine qg hx λx m ap z p hx=>?_
  refine gQ hx λhx=>?_
  walk_at "ga";obtain⟨⟨⟨⟨h0,rfl⟩,h1⟩,h2⟩,h3⟩:=hx;exact Expr.Tuple.elim tg h0 λ_ _ _=>Uo (iha O W h3) (qe (by simpa using h1)) h2
 |af c f o a iho iha=>
  walk_at "gS";refine VW hx λz1 z2 _ _ hx=>?_
  refine wF hx λ_ _ _ hx=>?_
  refine o8 hx λhx=>?_
  walk_at "ga";obtain⟨⟨⟨rfl,h1⟩,h2⟩,h3⟩:=hx;exact Xs (W.fs _ _ (mem_of h1)).1 (W.fs _ _ (mem_of h1)).2 (iho O W h2) (iha O W h3)
 |dd d k0 ihd ihk=>
  walk_at "gS";refine Vu hx λz1 _ hx=>?_
  refine iy hx λz2 hx=>?_
  refine pb hx λ_ _ _ hx=>?_
  simp only[bh]at hx;exact SY (la O.room) (ihd O W hx.1) (ihk O W hx.2)
 |is a iha=>
  walk_at "g0";refine o5 (λtg x hx=>?_) h
  simp only[bh]at hx;exact Nk (iha O W hx.2)
 |st a iha=>
  walk_at "g0";refine o5 (λtg x hx=>?_) h
  simp only[bh]at hx;exact Nj (iha O W hx.2)
 |r1 a iha=>
  walk_at "g0";refine o5 (λtg x hx=>?_) h
  refine o6 hx λ_ _ z1 _ hx=>?_
  refine iy hx λ_ hx=>?_
  walk_at "ga";obtain⟨⟨⟨rfl,h1⟩,h2⟩,h3⟩:=hx;have s1:=eK (es:=[]) (env:=X.env) (cX h3);exact UI (W.bl _ (mem_of h1)) (iha O W h3) (O.gl _ (fJ h2).1) s1 s1
 |le a iha=>
  walk_at "g0";refine o5 (λtg x hx=>?_) h
  refine o6 hx λ_ _ z1 _ hx=>?_
  refine iy hx λ_ hx=>?_
  walk_at "ga";obtain⟨⟨⟨⟨h0,rfl⟩,h1⟩,h2⟩,h3⟩:=hx;have s1:=eK (es:=[]) (env:=X.env) (cX h3);exact Expr.Tuple.elim tg h0 λ_ _ _=>WR (W.bl _ (mem_of h1)) (iha O W h3) (O.gl _ (fJ h2).1) s1 s1
 |r2 a b iha ihb=>
  walk_at "g0";refine o5 (λtg x hx=>?_) h
  refine o6 hx λ_ _ z1 _ hx=>?_
  refine zP hx λ_ _ hx=>?_
  walk_at "ga";obtain⟨⟨⟨⟨rfl,h1⟩,h2⟩,h3⟩,h4⟩:=hx;have s1:=eK (es:=[]) (env:=X.env) (cX h4);have s2:=λr=>eK (es:=r) (env:=X.env) (cX h3)
  exact Sl (W.bl _ (mem_of h1)) (iha O W h3) (ihb O W h4) (O.gl _ (fJ h2).1) (by rw[s2,s1];rfl) s1 (s2 _) s1
 |set i a iha=>
  walk_at "gS";refine sN hx λz1 e p' hx=>?_
  refine i6 hx λx p hx=>?_
  simp only[bh,eW,Bool.or_eq_true]at hx;obtain⟨⟨⟨rfl,h1⟩,h2⟩,h3⟩:=hx;rcases h2 with h2|h2
  . exact O.pJ h1 (iha O W h3) (kM (cX h3) (by simpa using h2))
  . by_cases hc:kI e=true
    . cases e<;>first|(cases hc;done)|skip
      exact O.pJ h1 (iha O W h3) (Vz O h2)
    . exact O.pJ h1 (iha O W h3) (kM (cX h3) (by simpa using hc))
 |un is a iha=>
  walk_at "gS";refine sN hx λz1 e p' hx=>?_
  refine zQ hx λes j p hx=>?_
  simp only[bh]at hx;obtain⟨⟨⟨⟨rfl,h1⟩,h2⟩,h3⟩,h4⟩:=hx;have hw:swappedStores [.Tuple es j p] e X.env=pure none:=by cases e<;>first|rfl|cases h3
  exact J5 (iha O W h4) (gT O h1) (Df (cX h4) (by simpa using h2)) hw rfl
 |sf c f o a iho iha=>
  walk_at "gS";refine sN hx λz1 _ _ hx=>?_
  refine wF hx λ_ _ _ hx=>?_
  walk_at "ga";obtain⟨⟨⟨⟨rfl,h1⟩,h2⟩,h3⟩,h4⟩:=hx;exact VE (W.fs _ _ (mem_of h1)).1 (W.fs _ _ (mem_of h1)).2 (iho O W h3) (iha O W h4) (kM (cX h4) (by simpa using h2))
 |dp d k0 a ihd ihk iha=>
  walk_at "gS";refine sN hx λz1 _ _ hx=>?_
  refine pb hx λ_ _ _ hx=>?_
  walk_at "ga";obtain⟨⟨⟨h1,h2⟩,h3⟩,h4⟩:=hx;exact SX (la O.room) (ihd O W h2) (ihk O W h3) (iha O W h4) (kM (cX h4) (by simpa using h1))
 |sp l i a ihl ihi iha=>
  walk_at "gS";refine sN hx λz1 _ _ hx=>?_
  refine pb hx λ_ _ _ hx=>?_
  walk_at "ga";obtain⟨⟨⟨h1,h2⟩,h3⟩,h4⟩:=hx;exact J5 (iha O W h4) (Nm (ihl O W h2) (ihi O W h3) Wc (Te (cX h3))) (Df (cX h4) (by simpa using h1)) rfl rfl
 |re a iha=>
  walk_at "gS";refine VX hx λz1 _ hx=>?_
  refine FR hx λ_ hx=>?_
  exact J3 (iha O W hx)
 |bg t a b iht iha ihb=>
  walk_at "gS";refine Vq hx λ_ _ _ _ hx=>?_
  walk_at "ga";obtain⟨⟨h1,h2⟩,h3⟩:=hx;exact Kv (iht O W h1) (iha O W h2) (ihb O W h3)
 |fo tup is it b ihi ihb=>
  walk_at "gS";refine Vr hx λtg x y z1 p hx=>?_
  refine gQ hx λhx=>?_
  simp only[bh]at hx;obtain⟨⟨⟨⟨rfl,h1⟩,h2⟩,h3⟩,h4⟩:=hx;have hp:=(O.fn rfl).2.2.2.2.1;have g3:=ihi O W h3;revert g3;cases tup with
  |true=>exact zQ h2 λes _ _ h2 g3=>J4 hp O.calm g3 (gT O h2) (ihb O W h4) (y8 h1)
  |false=>
   refine i6 h2 λz _ h2=>?_
   exact iy h2 λi h2 g3=>J4 hp O.calm g3 (O.gN (by simpa using h2)) (ihb O W h4) (y8 h1)
 |ex a iha=>
  walk_at "gS";refine Vs hx λ_ _ hx=>?_
  walk_at "ga";obtain⟨h1,h2⟩:=hx;exact VF (iha O W h2) (kM (cX h2) (by simpa using h1))
 |ra=>
  intro fc N sc X O W nd h;cases nd<;>first|exact ML|exact VD|exact bp h gZ
 |se a b iha ihb=>
  walk_at "g0";refine Em (λx hx=>?_) h
  refine gP hx λ_ _ hx=>?_
  walk_at "ga";obtain⟨h1,h2⟩:=hx;exact mw (t:=(tr Γ a).S) (u:=(tr Γ b).S) (iha O W h1) (ihb O W h2)
 |en=>
  walk_at "g0";refine Em (λx hx=>?_) h
  refine gQ hx λhx=>?_
  exact qD
structure m9 where
 S:SI
 tb:Str->bO
 C:Nat->Addr
 cv:List (Addr×Nat)
 lP:Addr:=0
noncomputable def m9.G (p:m9)(f f':Nat->bE):G:=⟨p.S,p.tb,p.C,f,f',p.cv.map λq=>(q.1,f q.2),p.lP⟩
def J7(Γ:G)(d:FD):bE:=λrs M Q=>rs.length=d.ps.length/\(tr Γ d.body).S { nx:=λ_ M'=>Q .au M',rt:=Q } (fQ d.N rs) M
def Fj(p:m9)(f f':Nat->bE)(i:Nat):bE:=match p.S.fd[i]? with
 |some d=>J7 (p.G f f') d
 |none=>λ_ _ _=>False
structure jn(K:ag)(mg:aU)(S:SI)(C:Nat->Addr)(lP:Addr)(d:FD)(g:Addr)(fd:FuncData):Prop where
 ex:∃(qual:Str) (st:Stmt),(d.N=S.ln->qual++(".<locals>.":Str)++("<lambda>":Str)=S.lq/\∃cc,fd.code= .ref cc/\∀h:Heap,K.In h->PySem.W.CodeHd h cc lP)/\m7 K d.name qual st g fd/\kN d.N d.ps (bK st)/\v9 d.N (bK st)/\mt S true d.N (bK st) d.body (.b (fh st))=true
 bd:Binds K fd d.ps []
 k0:d.kind=0->mg d.name=some (.ref g)
 k1:d.kind=1->bN K (C d.cls)/\Meth K (C d.cls) d.name g
 k2:d.kind=2->Mk K (C d.cls) g
structure Hd(P:Program)(w:World)(K:ag)(mg:aU)(p:m9):Prop where
 bl:∀x∈p.S.bl,mg x=none
 gi:∀x i,p.S.gi.lookup x=some i->xu mg x i
 gt:∀x l,p.S.gt.lookup x=some l->pH K mg x l
 tb:∀x∈p.S.tb,KTab P w K mg x (p.tb x)
 tt:∀x l,p.S.tt.lookup x=some l->mz P w K mg x l
 cl:∀(i:Nat) c,p.S.cl[i]? =some c->bN K (p.C i)/\mg c=some (.ref (p.C i))
 fs:∀c f,(c,f)∈p.S.fs->bN K (p.C c)/\bb K (p.C c) f
 fns:∀(i:Nat) d,p.S.fd[i]? =some d->∃g fd,jn K mg p.S p.C p.lP d g fd
 lm:∀(i:Nat) d,p.S.fd[i]? =some d->d.N=p.S.ln->mainGlobals≠p.lP/\∀h:Heap,K.In h->h.BuiltinsAt mg p.lP
 cv:∀q∈p.cv,∃d,p.S.fd[q.2]? =some d/\d.kind=0/\mg d.name=some (.ref q.1)
section
variable {P:Program}{w:World}{K:ag}{mg:aU}{p:m9}{base:Heap}
theorem Dv{k:Nat}{g:Addr}{fd:FuncData}{ps:ay}:bQ P w K mg base eG k g fd ps (eV K λ_ _ _=>False) where
 len:=λvs H Q E h=>by obtain⟨rs,M,Q',_,_,h,_⟩:=h;exact h.elim
 run:=λA outer s H args us vs Q E _ _ _ _ h=>by obtain⟨rs,M,Q',_,_,h,_⟩:=h;exact h.elim
end
end R
namespace HD
open PySem PySem.W PyProof.Rows
noncomputable def VU (p:Program)(i:Nat):Stmt:=p.main.body.getD i (.Pass ⟨0,0,0,0⟩)
noncomputable def sub (s:Stmt)(i:Nat):Stmt:=match s with
 | .ClassDef (body:=b) ..=>b.getD i (.Pass ⟨0,0,0,0⟩)
 |s=>s
noncomputable def JS (s:Stmt):Arguments:=match s with
 | .FunctionDef (args:=a) ..=>a
 |_=>default
noncomputable def mJ (s:Stmt):List Stmt:=match s with
 | .FunctionDef (body:=b) ..=>b
 |_=>[]
noncomputable def JR (s:Stmt):Scope:=match s with
 | .FunctionDef (scope:=c) ..=>c
 |_=>default
noncomputable abbrev e1 (P:Params) (x:String) (t:Tok) (v:Value):DictEntry:=⟨PyData.keyHash P x,.str x t,v⟩
noncomputable abbrev dv (es:List DictEntry) (n:Nat):Obj:=⟨.type "dict",none,.dict es.toArray n,#[]⟩
noncomputable abbrev eD (vs:ao):Obj:=⟨.none,none,.fields vs.toArray,#[]⟩
noncomputable abbrev AX (vs:ao):Obj:=⟨.type "code",none,.fields vs.toArray,#[]⟩
noncomputable abbrev tup (xs:ao):Obj:=⟨.type "tuple",none,.seq xs.toArray 0,#[]⟩
noncomputable abbrev ib (n q:String) (s:Stmt) (pm cd:Value):Obj:=⟨.type "function",none,.func { name:=n,qualname:=q,params:=JS s,body:=.stmts (mJ s),scope:=JR s,globals:=3,closure:=[],defaults:=.none,kwdefaults:=.none,doc:=.none,pyModule:=pm,annotations:=none,code:=cd,closureTuple:=.none,builtins:=0 },#[]⟩
noncomputable abbrev jg (n q:String) (s:Stmt):Obj:=⟨.none,none,.func { name:=n,qualname:=q,params:=JS s,body:=.stmts (mJ s),scope:=JR s,globals:=0,closure:=[],defaults:=.none,kwdefaults:=.none,doc:=.none,pyModule:=.none,annotations:=none,code:=.none,closureTuple:=.none,builtins:=0 },#[]⟩
structure DF where
 n:String
 q:String
 s:Stmt
 a:Nat
 t:Nat
 l:Nat
 c:Nat
 xs:List String
 pm:Value
noncomputable def df (n q:String)(s:Stmt)(a t l c:Nat)(xs:List String)(pm:Value):DF:=⟨n,q,s,a,t,l,c,xs,pm⟩
noncomputable def EY:Nat->List String->ao
 |_,[]=>[]
 |t,x::xs=>.str x t::EY (t+1) xs
noncomputable def DF.co (d:DF):Obj:=AX [.str d.n d.t,.str d.q (d.t+1),.str "/claim/cut.py" (d.t+2),.int d.l 0,.int d.c 0,.int 0 0,.int 0 0,.int 3 0,.ref d.a,.bool true,.int 181 0,.ref (d.a+1),.none,.ref (d.a+2),.ref (d.a+3),.ref (d.a+4),.int (d.t+3+d.xs.length:Nat) 0,.int d.l 0,.str "/claim/cut.py" (d.t+4+d.xs.length)]
noncomputable def DF.fn (d:DF):Obj:=ib d.n d.q d.s d.pm (.ref (d.a+5))
noncomputable def DF.objs (d:DF):List Obj:=[tup [],eD [],tup (EY (d.t+3) d.xs),tup [],jg d.n d.q d.s,d.co,d.fn]
noncomputable def treeOf (l:List Obj):BT:=(l.foldl (λ(x:BT×Nat) o=>(x.1.ins x.2 o,x.2+1)) (.nil,0)).1
theorem Eo{tb:String->Option Builtin}{p:Program}{w:World}{n₀:Nat}{an:bU}{b:Nat}:∀{n m:Nat} {s s':SharedT} {t t':Thread} {r:Option (SharedT×Thread)},
 segGoT tb p w n₀ an b n s t=some (s',t')->segGoT tb p w n₀ an b m s' t'=r->segGoT tb p w n₀ an b (n+m) s t=r
 |0,m,s,s',t,t',r,h,k=>by
  simp only[segGoT,t7,Prod.mk.injEq]at h;obtain⟨rfl,rfl⟩:=h;rw[fx];exact k
 |n+1,m,s,s',t,t',r,h,k=>by
  have e:n+1+m=(n+m)+1:=by omega
  rw[e];simp only[segGoT]at h ⊢;split at h
  . cases h
  . rename_i he
    split at h
    . cases h
    . rename_i hk
      split at h
      . rename_i s2 t2 hs
        exact Eo h k
      . cases h
theorem DL{tb:String->Option Builtin}{p:Program}{w:World}{n₀:Nat}{an:bU}{b:Nat}:∀{n m:Nat} {s s':SharedT} {t t':Thread} {r:Flow×SharedT×Code×Pos},
 segGoT tb p w n₀ an b n s t=some (s',t')->segRunT tb p w n₀ an b m s' t'=some r->segRunT tb p w n₀ an b (n+m) s t=some r
 |0,m,s,s',t,t',r,h,k=>by
  simp only[segGoT,t7,Prod.mk.injEq]at h;obtain⟨rfl,rfl⟩:=h;rw[fx];exact k
 |n+1,m,s,s',t,t',r,h,k=>by
  have e:n+1+m=(n+m)+1:=by omega
  rw[e];simp only[segGoT]at h;simp only[segRunT];split at h
  . cases h
  . rename_i he
    split at h
    . cases h
    . rename_i hk
      split at h
      . rename_i s2 t2 hs
        exact DL h k
      . cases h
theorem Dh{tb:String->Option Builtin}{p:Program}{w:World}{n₀:Nat}{an:bU}{b:Nat}(k:Nat):∀{n:Nat} {s:SharedT} {t:Thread} {r:Flow×SharedT×Code×Pos},
 segRunT tb p w n₀ an b n s t=some r->segRunT tb p w n₀ an b (n+k) s t=some r
 |0,s,t,r,h=>by cases h
 |n+1,s,t,r,h=>by
  have e:n+1+k=(n+k)+1:=by omega
  rw[e];simp only[segRunT]at h ⊢;split at h
  . exact h
  . rename_i he
    split at h
    . cases h
    . rename_i hk
      split at h
      . exact Dh k h
      . cases h
def Rn{α:Type}(p:Program)(w:World)(n₀:Nat)(an:bU)(c:Code)(F:List Frame)(m:Nat)(x:Sem α)(ps:Pos)(s:SharedT)(a:α)(ps':Pos)(s':SharedT):Prop:=
 ∀(K:α->Sem Fin) (H:Value->Sem Fin) (lv:ao->ao),∃n,n<=m/\segGoT treeTable p w n₀ an 1 n s ⟨x.wrap K H id lv,c,ps,F⟩=some (s',⟨K a,c,ps',F⟩)
section
variable {α β:Type}{p:Program}{w:World}{n₀:Nat}{an:bU}{c:Code}{F:List Frame}{m m1 m2:Nat}{ps ps1 ps2 ps':Pos}{s s1 s2 s':SharedT}
theorem Rn.more{x:Sem α}{a:α}(h:Rn p w n₀ an c F m1 x ps s a ps' s')(e:m1<=m):Rn p w n₀ an c F m x ps s a ps' s':=λK H lv=>by
 obtain⟨n,hn,h⟩:=h K H lv;exact⟨n,c6 hn e,h⟩
theorem fI{a:α}:Rn p w n₀ an c F m (pure a) ps s a ps s:=λK H lv=>⟨0,lQ _,rfl⟩
theorem b9{x:Sem α}{f:α->Sem β}{a:α}{b:β}(h1:Rn p w n₀ an c F m1 x ps s a ps1 s1)(h2:Rn p w n₀ an c F m2 (f a) ps1 s1 b ps2 s2):Rn p w n₀ an c F (m1+m2) (x >>= f) ps s b ps2 s2:=λK H lv=>by
 obtain⟨n1,l1,e1⟩:=h1 (λa=>(f a).wrap K H id lv) H lv
 obtain⟨n2,l2,e2⟩:=h2 K H lv;refine⟨n1+n2,Nat.add_le_add l1 l2,?_⟩;rw[Sem.bind_eq_wrap',Sem.wrap_wrap];exact Eo e1 e2
theorem RL{x:Sem α}{a:α}{vs:ao}(h:Rn p w n₀ an c F m x ps s a ps' s'):Rn p w n₀ an c F m (x.keep vs) ps s a ps' s':=λK H lv=>by
 obtain⟨n,l,e⟩:=h K H (λr=>lv (vs++r))
 refine⟨n,l,?_⟩;rw[Sem.keep_eq_wrap,Sem.wrap_wrap];exact e
theorem rY{x:Sem α}{a:α}{vs:ao}(h:Rn p w n₀ an c F m x ps s a ps' s'):Rn p w n₀ an c F m (holding vs x) ps s a ps' s':=by
 unfold holding;split
 . exact h
 . exact RL h
theorem iZ{x:Sem α}{a:α}{n:Nat}(h:∀(K:α->Sem Fin) (H:Value->Sem Fin) (lv:ao->ao),segGoT treeTable p w n₀ an 1 n s ⟨x.wrap K H id lv,c,ps,F⟩=some (s',⟨K a,c,ps',F⟩)):Rn p w n₀ an c F n x ps s a ps' s':=
 λK H lv=>⟨n,ba _,h K H lv⟩
theorem mapOf{α β:Type}{f g:α->β}:∀{l:List α},l.map f=l.map g->∀i∈l,f i=g i:=λh=>List.map_inj_left.mp h
theorem T5{ι:Type}{l:List ι}{g:ι->Nat}{x:ι->Sem α}{a:α}(h:∀(K:α->Sem Fin) (H:Value->Sem Fin) (lv:ao->ao),l.map (λi=>segGoT treeTable p w n₀ an 1 (g i) s ⟨(x i).wrap K H id lv,c,ps,F⟩)=l.map λ_=>some (s',⟨K a,c,ps',F⟩)):∀i∈l,Rn p w n₀ an c F (g i) (x i) ps s a ps' s':=
 λi hi=>iZ λK H lv=>mapOf (h K H lv) i hi
theorem zc{b:β}{f:α->β->Sem (ForInStep β)}:∀{xs:List α},(∀x∈xs,Rn p w n₀ an c F m (f x b) ps s (.yield b) ps s)->Rn p w n₀ an c F (m*xs.length) (forIn xs b f) ps s b ps s
 | [],_=>by rw[List.forIn_nil];exact fI
 |x::xs,h=>by
  rw[tX];have h1:=h x (iB ..);have h2:=zc (xs:=xs) λy hy=>h y (fM _ hy)
  have e:m*(x::xs).length=m+m*xs.length:=by rw[dc,Nat.mul_succ,Nat.add_comm]
  rw[e];exact b9 h1 h2
end
section
variable {p:Program}{w:World}{n₀:Nat}{an:bU}{c:Code}{F:List Frame}{ps:Pos}{s:SharedT}{m L:Nat}
theorem OW{a:Addr}{st:ao}(hL:st.length<=L)(hq:Rn p w n₀ an c F m (eqIsQuiet 8 (.ref a)) ps s true ps s)
 (hs:∀v∈st,Rn p w n₀ an c F m (eqIsQuiet 8 v) ps s true ps s):Rn p w n₀ an c F (m+m*L) (tableMayTell (.ref a) st) ps s false ps s:=by
 unfold tableMayTell;split
 . exact fI
 . refine Rn.more (b9 hq (m2:=m*st.length) ?_) (Nat.add_le_add_left (Nat.mul_le_mul_left _ hL) _)
   rw[aj ⋯]
   refine Rn.more (b9 (m2:=0) (zc (m:=m) λv hv=>?_) ?_) (ba _)
   . refine Rn.more (b9 (m2:=0) (hs v hv) ?_) (ba _)
     rw[aj ⋯]
     exact fI
   . exact fI
theorem find_none{d a:Addr}{h:Int}{es:Array DictEntry}{ep:Nat}(hL:es.size<=L)(rn_rule:∀t,Rn p w n₀ an c F 1 (rule t) ps s () ps s)
 (hd:Rn p w n₀ an c F 1 (dictEntries d none) ps s es ps s) (he:Rn p w n₀ an c F 1 (dictEpoch d none) ps s ep ps s)
 (hq:Rn p w n₀ an c F m (eqIsQuiet 8 (.ref a)) ps s true ps s)
 (hk:∀e∈es.toList,(∃b:Addr,e.key= .ref b/\b≠a)/\Rn p w n₀ an c F m (eqIsQuiet 8 e.key) ps s true ps s/\Rn p w n₀ an c F m (eqBool e.key (.ref a)) ps s false ps s):
 Rn p w n₀ an c F (1+((m+m*L)+(m+3)*L)) (dictFind d (.ref a) h) ps s none ps s:=by
 unfold dictFind;refine rY ?_;dsimp only[keyPart];refine b9 hd ?_;have hp:∀i∈placesWithHash es.size (λi=>Option.map (λx=>x.hash) es[i]?) h,i<es.size:=λi hi=>by
  unfold placesWithHash at hi;exact qP.mp (List.mem_filter.mp hi).1
 have hpl:(placesWithHash es.size (λi=>Option.map (λx=>x.hash) es[i]?) h).length<=L:=by
  unfold placesWithHash;refine c6 (List.length_filter_le _ _) ?_;rw[xH];exact hL
 generalize placesWithHash es.size (λi=>Option.map (λx=>x.hash) es[i]?) h=places at hp hpl ⊢
 have hst:∀v∈List.filterMap (λi=>Option.map (λx=>x.key) es[i]?) places,∃e∈es.toList,v=e.key:=λv hv=>by
  obtain⟨i,hi,e⟩:=List.mem_filterMap.mp hv;obtain⟨x,hx,rfl⟩:=Option.map_eq_some_iff.mp e;exact⟨x,Array.mem_toList_iff.mpr (Array.mem_of_getElem? hx),rfl⟩
 have hsl:(List.filterMap (λi=>Option.map (λx=>x.key) es[i]?) places).length<=L:=c6 (List.length_filterMap_le _ _) hpl
 generalize List.filterMap (λi=>Option.map (λx=>x.key) es[i]?) places=stored at hst hsl ⊢
 have hno:∀e∈es.toList,(e.key==Value.ref a)=false:=λe h1=>by
  obtain⟨⟨b,h2,h3⟩,_⟩:=hk e h1;rw[h2];exact mW.mpr λq=>h3 (Value.ref.inj q)
 rw[aj (by simp[carriedByValue])]
 rw[aj (by
  rw[<-Array.any_toList,Bool.not_eq_true,List.any_eq_false];intro e h1;rw[hno e h1];simp)]
 rw[aj (by
  intro q;have q:=gm q;obtain⟨e,h1,h2⟩:=hst (.ref a) (by rw[q];exact iB ..)
  have:=hno e h1;rw[<-h2]at this;simp at this)]
 refine b9 (OW hsl hq λv hv=>?_) ?_
 . obtain⟨e,h1,rfl⟩:=hst v hv
   exact(hk e h1).2.1
 rw[aj (by simp)]
 refine Rn.more (b9 (m2:=0) (zc (m:=m+3) λi hi=>?_) ?_) (Nat.mul_le_mul_left _ hpl)
 . have hi':=hp i hi
   have hg:es[i]? =some es[i]:=Array.getElem?_eq_getElem hi';rw[hg];dsimp only;split
   . obtain⟨_,_,hb⟩:=hk es[i] (Array.mem_toList_iff.mpr (Array.getElem_mem hi'))
     refine Rn.more (b9 he (b9 (m2:=2) hb (b9 (m2:=1) he ?_))) ∅
     rw[aj (by simp),aj ⋯]
     refine Rn.more (b9 (m2:=0) (rn_rule _) ?_) (ba _);rw[aj (by simp)]
     exact fI
   . exact fI
 . exact fI
end
section
variable {α β:Type}{p:Program}{w:World}{n₀:Nat}{an:bU}{c:Code}{F:List Frame}{ps ps1 ps2:Pos}{s s1 s2:SharedT}{m m1 m2 m3 mf mu:Nat}
theorem QE{i:Int}(hr:∀t,Rn p w n₀ an c F 1 (rule t) ps s () ps s):Rn p w n₀ an c F 1 (pyHashByItsType.reduced i) ps s (reduceHash i) ps s:=by
 unfold pyHashByItsType.reduced reduceHash;split
 . exact fI
 . exact Rn.more (b9 (m2:=0) (hr _) fI) (ba _)
theorem QD{a:Addr}{i:Int}{t:Tok}(hr:∀x,Rn p w n₀ an c F 1 (rule x) ps s1 () ps s1)(h1:Rn p w n₀ an c F m1 (cRoomFor "hash" [.ref a]) ps s () ps s)
 (h2:Rn p w n₀ an c F m2 (specialOf (.ref a) "__hash__") ps s (some (.builtin "tuple.__hash__")) ps s)
 (h3:∀E,Rn p w n₀ an c F m3 (callSpecialIfBoundUnlessNone? (.ref a) "__hash__" E) ps s (some (.int i t)) ps s1):Rn p w n₀ an c F (m1+(m2+(m2+(m3+1)))) (pyHash (.ref a)) ps s (reduceHash i) ps s1:=by
 unfold pyHash;dsimp only;unfold pyHashByItsType;refine b9 h1 (b9 h2 ?_);rw[aj ⋯]
 refine b9 h2 ?_;rw[aj ⋯]
 refine b9 (h3 _) ?_;exact QE hr
theorem RA{d a:Addr}{h:Int}{v:Value}(hr:∀x,Rn p w n₀ an c F 1 (rule x) ps s1 () ps s1)(hh:Rn p w n₀ an c F m1 (pyHash (.ref a)) ps s h ps s1)(hf:Rn p w n₀ an c F mf (dictFind d (.ref a) h) ps s1 none ps s1)
 (hu:Rn p w n₀ an c F mu (updateDictKeys d (λx=>x.push ⟨h,.ref a,v⟩) none) ps s1 () ps s2):Rn p w n₀ an c F (m1+(mf+(1+mu))) (dictSet d (.ref a) v) ps s () ps s2:=by
 unfold dictSet;refine rY (b9 hh ?_);unfold dictSetHashed;refine rY (b9 hf ?_);exact b9 (hr _) hu
theorem RJ{x:α}{xs:List α}{b:β}{f:α->β->Sem (ForInStep β)}(h1:Rn p w n₀ an c F m1 (f x b) ps s (.yield b) ps1 s1)(h2:Rn p w n₀ an c F m2 (forIn xs b f) ps1 s1 b ps2 s2):Rn p w n₀ an c F (m1+m2) (forIn (x::xs) b f) ps s b ps2 s2:=by
 rw[tX];exact b9 h1 h2
theorem RK{b:β}{f:α->β->Sem (ForInStep β)}:Rn p w n₀ an c F 0 (forIn [] b f) ps s b ps s:=by
 rw[List.forIn_nil];exact fI
theorem Wn{x y:Sem α}{a:α}(e:x=y)(h:Rn p w n₀ an c F m y ps s a ps1 s1):Rn p w n₀ an c F m x ps s a ps1 s1:=e ▸ h
end
section
theorem Sv{q:Program}{loose mods:ay}{Xt:Shared->Bool}{h:Heap}{d:Drawn}{k:Nat}{os:OsState}
 (a:PyProof.Rows.seen (List.map (λx=>x.name) (recsOf q)) (ownsOf q) [] ⟨h,#[],d,k,os⟩=expectedOf q) (b:h.bltView=bltViewBooted)
 (c:h.keysOk (looseW q loose) (List.map (λx=>x.name) (recsOf q)) (List.map (λx=>x.fst) (litsOf q)) (List.map (λx=>x.name) (clssOf q (looseW q loose)))=true)
 (c2:h.accountedOkI mods=true) (c3:(h.isNs mainGlobals&&h.isNs builtinsNs)=true) (c4:tablesOk q h=true) (c5:Xt ⟨h,#[],d,k,os⟩=true)
 (e:tabsOk q ⟨h,#[],d,k,os⟩=true) (f:pinSeenD q (drecsOf q) ⟨h,#[],d,k,os⟩=pinGoodD (drecsOf q)) (g:plainSeenE q (looseW q loose) ⟨h,#[],d,k,os⟩=plainGoodE q (looseW q loose)) (g2:plainSeenD q loose ⟨h,#[],d,k,os⟩=plainGoodD q loose)
 (g3:wideSeen q ⟨h,#[],d,k,os⟩=wideGood q) (g4:clsSeenW q loose ⟨h,#[],d,k,os⟩=clsGoodW q loose):openSeen q loose mods Xt true ⟨h,#[],d,k,os⟩=openGood q loose:=by
 rw[bh]at c3;unfold openSeen openGood;dsimp only;rw[a,b,c,c2,c3.1,c3.2,c4,c5,e,f,g,g2,g3,g4];rfl
end
end HD
namespace R
open PySem PySem.Spec PyProof.Rows L2
noncomputable def zK:Stmt->Bool
 | .FunctionDef ..=>true
 |_=>false
structure FA where
 n:String
 q:String
 s:Stmt
 g:Addr
 c:Addr
 pm:Value
noncomputable def FA.fn (D:FA):Obj:=HD.ib D.n D.q D.s D.pm (.ref D.c)
noncomputable def fdOf (D:FA):FuncData:=PySem.W.fnOf D.n D.q (Eh D.s) (fh D.s) (bK D.s) .none .none .none D.pm none (.ref D.c) .none
theorem W0{D:FA}(h:zK D.s=true):D.fn=⟨.type "function",none,.func (fdOf D),#[]⟩:=by
 unfold FA.fn fdOf;cases e:D.s<;>rw[e]at h<;>first|rfl|cases h
theorem Ep{K:ag}{D:FA}(h:zK D.s=true)(l:K.lookup D.g=some D.fn)(c:PySem.W.codeIn K (.ref D.c) D.q=true)(k:PySem.W.keepIn K (.ref D.g)=true):m7 K D.n D.q D.s D.g (fdOf D):=
 ⟨⟨_,_,_,_,_,_,_,_,_,rfl,by rw[l,W0 h],c⟩,k⟩
noncomputable def zV (o:Option NameKind):Bool:=match o with
 |some .local=>true
 |some .cell=>true
 |_=>false
theorem SG{o:Option NameKind}(h:zV o=true):o=some .local∨o=some .cell:=by
 unfold zV at h;split at h
 . exact .inl rfl
 . exact .inr rfl
 . cases h
noncomputable def WY:NameKind->Bool
 | .free=>false
 |_=>true
noncomputable def zk (N ps:ay)(sc:Scope):Bool:=(match sc.kind with| .function=>true|_=>false)&& !sc.isCoroutine&& !sc.isGenerator&&decide N.Nodup&&decide (N.take ps.length=ps)&&sc.names.all (λy=>WY y.2)&&N.all (λx=>zV (sc.names.lookup x)&& !(x==("__debug__":Str))&& !(x==("__classdict__":Str)))
theorem Dg{N ps:ay}{sc:Scope}(h:zk N ps sc=true):kN N ps sc/\v9 N sc:=by
 unfold zk at h;simp only[bh,qN,jk,gk]at h;obtain⟨⟨⟨⟨⟨⟨h1,h2⟩,h3⟩,h4⟩,h5⟩,h6⟩,h7⟩:=h;have l:∀x∈N,sc.names.lookup x=some .local∨sc.names.lookup x=some .cell:=λx hx=>SG (h7 x hx).1.1
 refine⟨⟨?_,h2,h3,h4,h5,λx hx=>l x ?_,λy hy=>?_⟩,⟨h4,l,λx hx=>⟨(h7 x hx).1.2,(h7 x hx).2⟩⟩⟩
 . revert h1;cases sc.kind<;>simp
 . rw[<-h5]at hx;exact List.mem_of_mem_take hx
 . have:=h6 y hy
   intro z;rw[z]at this;cases this
noncomputable def qy:Option (bU)->Bool
 |some none=>true
 |_=>false
theorem DV{o:Option (bU)}(h:qy o=true):o=some none:=by
 unfold qy at h;split at h
 . rfl
 . cases h
noncomputable def xj (i:Int):Option (bU)->Bool
 |some (some (.int j _))=>j==i
 |_=>false
theorem Si{i:Int}{o:Option (bU)}(h:xj i o=true):∃t,o=some (some (.int i t)):=by
 unfold xj at h;split at h
 . rename_i j t;exact⟨t,by rw[gm h]⟩
 . cases h
noncomputable def mE (a:Addr):Option (bU)->Bool
 |some (some (.ref b))=>b==a
 |_=>false
theorem mm{a:Addr}{o:Option (bU)}(h:mE a o=true):o=some (some (.ref a)):=by
 unfold mE at h;split at h
 . rw[gm h]
 . cases h
noncomputable def Ay:Option (bU)->Bool
 |some (some (.builtin "object.__setattr__"))=>true
 |_=>false
theorem Sj{o:Option (bU)}(h:Ay o=true):o=some (some (.builtin "object.__setattr__")):=by
 unfold Ay at h;split at h
 . rfl
 . cases h
noncomputable def wy:ay->ao->Bool
 | [],[]=>true
 |x::xs,.str y _::ys=>(x==y)&&wy xs ys
 |_,_=>false
theorem DJ:∀{ss:ay} {vs:ao},wy ss vs=true->Vals (ss.map V.str) vs
 | [],[],_=>.nil
 |x::xs,.str y t::ys,h=>by
  unfold wy at h;rw[bh]at h;cases gm h.1;exact .cons ⟨t,rfl⟩ (DJ h.2)
noncomputable def xa (K:ag)(ss:ay):Option (bU)->Bool
 |some (some (.ref a))=>match K.lookup a with
  |some ⟨.type "tuple",_,.seq its _,_⟩=>decide (its.size<=100)&&wy ss its.toList
  |_=>false
 |_=>false
theorem S4{K:ag}{h:Heap}{mg:aU}{x:Str}{ss:ay}(X:K.In h)(G:h.Ns mainGlobals mg)(e:xa K ss (PySem.W.nsIn K mainGlobals x)=true):pH K mg x ss:=by
 unfold xa at e;split at e
 . rename_i a ea
   split at e
   . rename_i its n d sl el
     rw[bh,jk]at e;exact R4 (fX X G ea) el (c6 e.1 ⋯) (DJ e.2)
   . cases e
 . cases e
noncomputable def pE (K:ag)(C:Addr):Bool:=t9 K C Str.empty&&xF K C&&PySem.W.plainOver K C&&Ay (PySem.W.findIn K (.ref C) "__setattr__")
theorem vV{K:ag}{C:Addr}(h:pE K C=true):bN K C:=by
 unfold pE at h;simp only[bh]at h;exact⟨h.1.1.1,h.1.1.2,h.1.2,Sj h.2⟩
noncomputable def y1 (K:ag)(c P:Addr):Bool:=match K.lookup c with
 |some ⟨.type "code",_,.fields (vs:Array Value),_⟩=>(match(vs[11]?:bU)with|some (.ref b)=>b==P|_=>false)&&(match vs.getD 18 .none with| .str _ _=>true|_=>false)&&(match vs.getD 7 .none with| .int _ _=>true|_=>false)&&(match vs.getD 9 .none with| .bool _=>true|_=>false)&&(match vs.getD 10 .none with| .int _ _=>true|_=>false)&& !(c==P)
 |_=>false
theorem Qc{K:ag}{c P:Addr}(e:y1 K c P=true){h:Heap}(X:K.In h):PySem.W.CodeHd h c P:=by
 unfold y1 at e;split at e
 . rename_i d vs sl el
   simp only[bh]at e;obtain⟨⟨⟨⟨⟨e1,e2⟩,e3⟩,e4⟩,e5⟩,e6⟩:=e;have ne:c≠P:=by simpa using e6
   split at e1
   . rename_i b eb
     have ebP:b=P:=gm e1;subst ebP;have eg:vs.getD 11 .none= .ref b:=by simp only[Array.getD_eq_getD_getElem?];rw[eb];rfl
     split at e2
     . rename_i a2 t2 h2
       split at e3
       . rename_i a3 t3 h3
         split at e4
         . rename_i a4 h4
           split at e5
           . rename_i a5 t5 h5
             exact⟨_,vs,a2,t2,a3,t3,a4,a5,t5,X _ _ el,rfl,rfl,eb,eg,h2,h3,h4,h5,ne⟩
           . cases e5
         . cases e4
       . cases e3
     . cases e2
   . cases e1
 . cases e
noncomputable def iE (K:ag)(lP:Addr):Bool:=match PySem.W.nsIn K mainGlobals "__builtins__" with
 |some (some (.ref bm))=>!(bm==builtinsNs)&& !(bm==mainGlobals)&& !(bm==lP)&&(match K.lookup bm with
  |some ⟨.type "module",some n,.plain,_⟩=>n==builtinsNs
  |_=>false)
 |_=>false
noncomputable def JL (K:ag)(S:SI)(lP:Addr)(d:FD)(D:FA):Bool:=!(decide (d.N=S.ln))||(decide ((D.q:Str)++(".<locals>.":Str)++("<lambda>":Str)=S.lq)&&y1 K D.c lP)
noncomputable def mJ (K:ag)(S:SI)(C:Nat->Addr)(lP:Addr)(d:FD)(D:FA):Bool:=JL K S lP d D&&zK D.s&&PySem.W.codeIn K (.ref D.c) D.q&&PySem.W.keepIn K (.ref D.g)&&zk d.N d.ps (bK D.s)&&decide (d.name=(D.n:Str))&&
 (match d.kind with
  |0=>mE D.g (PySem.W.nsIn K mainGlobals d.name)
  |1=>pE K (C d.cls)&&mE D.g (PySem.W.findIn K (.ref (C d.cls)) d.name)&&PySem.W.isFn K (.ref D.g)
  |2=>PySem.W.makesIn K (C d.cls)&&mE D.g (PySem.W.findIn K (.ref (C d.cls)) "__init__")&&PySem.W.isFn K (.ref D.g)&&PySem.W.keepIn K (.ref (C d.cls))
  |_=>false)
theorem Up{K:ag}{h:Heap}{mg:aU}{S:SI}{C:Nat->Addr}{lP:Addr}{d:FD}{D:FA}(X:K.In h)(G:h.Ns mainGlobals mg)(b:mJ K S C lP d D=true)(l:K.lookup D.g=some D.fn)(m:mt S true d.N (bK D.s) d.body (.b (fh D.s))=true)
 (hb:∀us:ao,us.length=d.ps.length->bindArgs (fdOf D) ⟨us,[]⟩=pure (d.ps.zip us)):jn K mg S C lP d D.g (fdOf D):=by
 unfold mJ at b;simp only[bh,jk]at b;obtain⟨⟨⟨⟨⟨⟨b0,b1⟩,b2⟩,b3⟩,b4⟩,b5⟩,b6⟩:=b;obtain⟨s1,s2⟩:=Dg b4;have lm:d.N=S.ln->(D.q:Str)++(".<locals>.":Str)++("<lambda>":Str)=S.lq/\∃cc,(fdOf D).code= .ref cc/\∀h:Heap,K.In h->PySem.W.CodeHd h cc lP:=λz=>by
  unfold JL at b0;rw[z]at b0;simp only[decide_true,Bool.not_true,Bool.false_or,bh,jk]at b0;exact⟨b0.1,D.c,rfl,λh X=>Qc b0.2 X⟩
 refine⟨⟨D.q,D.s,lm,b5 ▸ Ep b1 l b2 b3,s1,s2,m⟩,.all hb,λk=>?_,λk=>?_,λk=>?_⟩
 . rw[k]at b6;exact fX X G (mm b6)
 . rw[k]at b6
   simp only[bh]at b6;exact⟨vV b6.1.1,⟨mm b6.1.2,b6.2,b3⟩⟩
 . rw[k]at b6
   simp only[bh]at b6;exact⟨b6.1.1.1,mm b6.1.1.2,b6.1.2,b6.2⟩
theorem mv{α:Type}{f:α->Bool}{l:List α}(h:l.all f=true){x:α}(hx:x∈l):f x=true:=gk.mp h x hx
theorem sR{α β:Type}{f g:α->β}:∀{l:List α},l.map f=l.map g->∀{x:α},x∈l->f x=g x
 |y::l,h,x,hx=>by
  rw[cK,cK]at h;injection h with h1 h2
  rcases cM.mp hx with rfl|hx
  . exact h1
  . exact sR h2 hx
theorem lookup_mem{β:Type}{x:Str}{y:β}:∀{l:List (Str×β)},l.lookup x=some y->(x,y)∈l
 |(k,z)::l,h=>by
  unfold List.lookup at h;split at h
  . rename_i e
    cases h;rw[gm e];exact .head _
  . exact .tail _ (lookup_mem h)
noncomputable def uA (l:List (Str×Addr)):bO:=l.map λp=>(.inr p.1,.ref p.2)
noncomputable def AF (l:List (Str×Addr)):List (Key×V):=l.map λp=>(.inr p.1,.ref p.2)
theorem JM:∀l:List (Str×Addr),KV (AF l) ((l.map λp=>(p.1,Value.ref p.2)).map λp=>((Sum.inr p.1:Key),p.2))
 | []=>.nil
 |(x,a)::r=>.cons ⟨rfl,rfl⟩ (JM r)
theorem E3{K:ag}{H:Hp}:∀l:List (Str×Addr),aJ K H (uA l) (AF l)
 | []=>rfl
 |p::r=>⟨V.ref p.2,AF r,rfl,by simp only[Rep],E3 r⟩
theorem Qy{P:Program}{w:World}{K:ag}{mg:aU}{x:Str}{a:Addr}{es:Array DictEntry}{ep:Nat}{l:List (Str×Addr)}
 (hm:mg x=some (.ref a)) (lk:K.lookup a=some ⟨.type "dict",none,.dict es ep,#[]⟩) (ha:(a==sysModules)=false) (hr:tq w es.toList (l.map λp=>(p.1,Value.ref p.2))) (hn:(l.map Prod.fst).Nodup):KTab P w K mg x (uA l):=
 DQ hm lk ha hr (by rw[iA];exact hn) ⟨rfl,rfl,rfl⟩ (JM l) λH=>E3 l
theorem WW{P:Program}{w:World}{K:ag}{h:Heap}{mg:aU}{p:m9}(X:K.In h)(G:h.Ns mainGlobals mg)
 (bl:(p.S.bl.all λx=>qy (PySem.W.nsIn K mainGlobals x))=true) (gi:(p.S.gi.all λx=>xj x.2 (PySem.W.nsIn K mainGlobals x.1))=true) (gt:(p.S.gt.all λx=>xa K x.2 (PySem.W.nsIn K mainGlobals x.1))=true)
 (cl:(p.S.cl.zipIdx.all λx=>pE K (p.C x.2)&&mE (p.C x.2) (PySem.W.nsIn K mainGlobals x.1))=true) (fs:(p.S.fs.all λx=>pE K (p.C x.1)&&qy (PySem.W.findIn K (.ref (p.C x.1)) x.2))=true)
 (tb:∀x∈p.S.tb,KTab P w K mg x (p.tb x)) (tt:∀x l,p.S.tt.lookup x=some l->mz P w K mg x l) (fn:∀d∈p.S.fd,∃g fd,jn K mg p.S p.C p.lP d g fd) (lm:∀(i:Nat) d,p.S.fd[i]? =some d->d.N=p.S.ln->mainGlobals≠p.lP/\∀h:Heap,K.In h->h.BuiltinsAt mg p.lP)
 (cv:∀q∈p.cv,∃d,p.S.fd[q.2]? =some d/\d.kind=0/\mE q.1 (PySem.W.nsIn K mainGlobals d.name)=true):Hd P w K mg p where
 bl:=λx hx=>PySem.W.mg_none_of X G (DV (mv bl hx))
 gi:=λx i hx=>by
  obtain⟨t,e⟩:=Si (mv gi (lookup_mem hx));exact⟨t,fX X G e⟩
 gt:=λx l hx=>S4 X G (mv gt (lookup_mem hx))
 tb:=tb
 tt:=tt
 cl:=λi c hi=>by
  have:=mv cl (x:=(c,i)) (List.mk_mem_zipIdx_iff_getElem?.mpr hi);rw[bh]at this;exact⟨vV this.1,fX X G (mm this.2)⟩
 fs:=λc f hx=>by
  have:=mv fs hx;rw[bh]at this;exact⟨vV this.1,DV this.2⟩
 fns:=λi d hi=>fn d (hW hi)
 lm:=lm
 cv:=λq hq=>by
  obtain⟨d,a,b,c⟩:=cv q hq;exact⟨d,a,b,fX X G (mm c)⟩
noncomputable def i8 (K:ag)(S:SI)(C:Nat->Addr)(lP:Addr)(n:Nat)(l:List (FD×FA)):Bool:=l.all λx=>mJ K S C lP x.1 x.2&&decide (x.1.ps.length=n)&&mt S true x.1.N (bK x.2.s) x.1.body (.b (fh x.2.s))
def Jo:Nat->(ao->Prop)->Prop
 |0,p=>p []
 |n+1,p=>∀v,Jo n λl=>p (v::l)
theorem jr:∀{n:Nat} {p:ao->Prop},Jo n p->∀us,us.length=n->p us
 |0,_,h,[],_=>h
 |_+1,_,h,v::us,e=>jr (h v) us (Nat.succ.inj e)
abbrev uT(l:List (FD×FA))(n:Nat):Prop:=∀us:ao,us.length=n->l.map (λx=>bindArgs (fdOf x.2) ⟨us,[]⟩)=l.map λx=>pure (x.1.ps.zip us)
abbrev iT(K:ag)(l:List (FD×FA)):Prop:=l.map (λx=>K.lookup x.2.g)=l.map λx=>some x.2.fn
noncomputable def fD (d:HD.DF):FA:=⟨d.n,d.q,d.s,d.a+6,d.a+5,d.pm⟩
theorem kF{K:ag}{h:Heap}{mg:aU}{S:SI}{C:Nat->Addr}{lP:Addr}{n:Nat}{l:List (FD×FA)}(X:K.In h)(G:h.Ns mainGlobals mg)(b:i8 K S C lP n l=true)(k:iT K l)(u:uT l n):∀x∈l,jn K mg S C lP x.1 x.2.g (fdOf x.2):=λx hx=>by
 have:=mv b hx;simp only[bh,jk]at this;exact Up X G this.1.1 (sR k hx) this.2 λus hu=>sR (u us (hu.trans this.1.2)) hx
theorem Ut{K:ag}{mg:aU}{S:SI}{C:Nat->Addr}{lP:Addr}{l:List (FD×FA)}(e:S.fd=l.map (·.1))(h:∀x∈l,jn K mg S C lP x.1 x.2.g (fdOf x.2)):∀d∈S.fd,∃g fd,jn K mg S C lP d g fd:=λd hd=>by
 rw[e]at hd;obtain⟨x,hx,rfl⟩:=dH.mp hd;exact⟨_,_,h x hx⟩
theorem mh{α:Type}{P:α->Prop}{a b:List α}(h1:∀x∈a,P x)(h2:∀x∈b,P x):∀x∈a++b,P x:=λx hx=>(jH.mp hx).elim (h1 x) (h2 x)
section
variable {P:Program}{w:World}{K:ag}{mg:aU}
noncomputable def ye:TK->ao->Bool
 | [],[]=>true
 |k::ks,v::vs=>xh k v&&ye ks vs
 |_,_=>false
theorem Dz:∀{k:TK} {l:ao},ye k l=true->ItemsAre (optKind P w) k l
 | [],[],_=>.nil
 |_::_,_::_,h=>.cons (iY h).1 (Dz (iY h).2)
 | [],_::_,h=>by cases h
 |_::_,[],h=>by cases h
noncomputable def JO (y:Str):Value->Bool
 | .str z _=>y==z
 |_=>false
noncomputable def zU:List (TK×Str)->List (TK×Addr×Value)->Bool
 | [],[]=>true
 |(k,y)::r,(k',_,v)::r'=>decide (k=k')&&JO y v&&zU r r'
 |_,_=>false
theorem EU:∀{l:List (TK×Str)} {xs:List (TK×Addr×Value)},zU l xs=true->tM l xs
 | [],[],_=>trivial
 |(k,y)::r,(k',_,v)::r',h=>by
  obtain⟨h1,h2⟩:=iY h;obtain⟨h3,h4⟩:=iY h1;refine⟨of_decide_eq_true h3,?_,EU h2⟩;cases v<;>first|(cases h4;done)|skip
  rename_i z t;exact⟨t,by rw[show y=z by simpa[JO]using h4]⟩
 | [],_::_,h=>by cases h
 |_::_,[],h=>by cases h
noncomputable def xB (ks:List (Option Str)):TK:=ks.map (Option.map Sum.inr)
noncomputable def w5 (kt:List (List (Option Str)))(vt:ao)(a:Addr):List (TK×Addr×Value):=(List.range kt.length).map λk=>(xB (kt.getD k []),a+1+k,vt.getD k .none)
theorem Qv{x:Str}{a:Addr}{kt:List (List (Option Str))}{vt:ao}{tk:List (ao)}{kvs:List (TK×Str)}{D:Obj}{hx:Option Str->Int}(hm:mg x=some (.ref a))(l:K.lookup a=some D)(ha:(a==sysModules)=false)
 (hD:D=⟨.type "dict",none,.dict ((List.range kt.length).map λk=>(⟨reduceHash (Builtin.Tuple.tupleHashOf ((kt.getD k []).map hx)),.ref (a+1+k),vt.getD k .none⟩:DictEntry)).toArray kt.length,#[]⟩) (hh:∀o:Option Str,hx o=uD w (o.map Sum.inr))
 (ht:((List.range kt.length).map λk=>K.lookup (a+1+k))=(List.range kt.length).map λk=>some (HD.tup (tk.getD k [])))
 (hb:((List.range kt.length).all λk=>ye (xB (kt.getD k [])) (tk.getD k []))=true) (hn:((w5 kt vt a).map (·.1)).Nodup) (hv:zU kvs (w5 kt vt a)=true):mz P w K mg x kvs:=by
 subst hD;refine Qw (xs:=w5 kt vt a) hm l ha ⟨rfl,rfl,rfl⟩ ?_ (λy hy=>?_) hn (EU hv)
 . unfold w5
   rw[iA];refine xM λk _=>?_
   have e:(kt.getD k []).map hx=(xB (kt.getD k [])).map (uD w):=by unfold xB;rw[iA];exact xM λo _=>hh o
   show(⟨reduceHash (Builtin.Tuple.tupleHashOf ((kt.getD k []).map hx)),_,_⟩:DictEntry)=_;rw[e];rfl
 . obtain⟨k,hk,rfl⟩:=dH.mp hy
   exact⟨_,_,_,List.map_inj_left.mp ht k hk,rfl,rfl,Dz (gk.mp hb k hk)⟩
end
theorem Q9{α:Type}{x y:Str}{t l:α}(h:List.lookup x [(y,t)]=some l):x=y/\l=t:=by
 rw[lK]at h
 by_cases z:x=y
 . subst z;rw[beq_self_eq_true]at h;cases h;exact⟨rfl,rfl⟩
 . rw[show(x==y)=false by simpa using z]at h;cases h
end R
namespace L2
open PySem PySem.Spec PyProof.Rows
noncomputable def wipe (h:Heap):List Addr->Heap
 | []=>h
 |a::r=>(wipe h r).hide a
theorem kL{h:Heap}{b:Addr}:∀{l:List Addr},b∈l->(wipe h l).get? b=none
 |a::r,m=>by
  by_cases e:b=a
  . subst e;exact Heap.hide_self _ _
  . show((wipe h r).hide a).get? b=none
    rw[Heap.hide_ne _ e];exact kL ((cM.mp m).resolve_left e)
theorem mn{h:Heap}{b:Addr}:∀{l:List Addr},b∉l->(wipe h l).get? b=h.get? b
 | [],_=>rfl
 |a::r,m=>by
  show((wipe h r).hide a).get? b=_;rw[Heap.hide_ne _ λe=>m (by simp[e])]
  exact mn λe=>m (fM _ e)
theorem yC{h:Heap}{l:List Addr}:(wipe h l).StaysIn h:=λb o e=>by
 by_cases m:b∈l
 . rw[kL m]at e;cases e
 . rw[mn m]at e;exact e
theorem uI{h base base':Heap}:∀{l:List Env},h.FunFrames base l->(∀b∈br l,base'.get? b=none)->h.FunFrames base' l
 | [],_,_=>trivial
 |env::r,⟨hk,⟨L,o,hf,hn,ho,hd⟩,hr⟩,hb=>by
  have hL:∀b∈br r,b∈br (env::r):=λb hb=>by unfold br at hb ⊢;rw[qJ,hf];exact fM _ hb
  exact⟨hk,⟨L,o,hf,hb L (by unfold br;rw[qJ,hf];exact iB ..),ho,hd⟩,uI hr λb z=>hb b (hL b z)⟩
section
variable {P:Program}{w:World}{H:Hp}{h:Heap}{a:Addr}{o:HO}
theorem aH.there(x:aH P w H h a o):∃u,h.get? a=some u:=by
 cases o with
 |lst xs=>obtain⟨_,_,_,_,e⟩:=x;exact⟨_,e⟩
 |tup xs=>obtain⟨_,_,_,_,e,_⟩:=x;exact⟨_,e⟩
 |dK kvs=>obtain⟨_,_,_,_,o,_,_,e,_⟩:=x;exact⟨_,e⟩
 |dT kvs=>obtain⟨_,_,_,_,o,_,_,e,_⟩:=x;exact⟨_,e⟩
 |set S n=>obtain⟨o,_,_,_,e,_⟩:=x;exact⟨_,e⟩
 |ins C dx fs=>obtain⟨_,_,_,e,_⟩:=x;exact⟨_,e⟩
 |own y=>obtain⟨_,e⟩:=x;exact⟨_,e⟩
 |xd fs=>obtain⟨_,⟨_,_,_,e,_⟩,_⟩:=x;exact⟨_,e⟩
 |tS lo hi=>obtain⟨_,_,_,e⟩:=x;exact⟨_,e⟩
 |aZ ob u=>obtain⟨e,_⟩:=x;exact⟨_,e⟩
 |jD ps=>exact⟨_,(show h.get? a=some _ from x)⟩
 |met f y=>exact⟨_,(show h.get? a=some _ from x)⟩
 |ext φ=>obtain⟨_,⟨_,e⟩,_⟩:=x;exact⟨_,e⟩
end
structure fz(g h:Heap)(H:Hp)(a:Addr)(cls:Value):Prop where
 ex:∃oe vs T oT ts a0,h.get? a=some oe/\oe.cls=cls/\vs[0]? =some a0/\oe.data= .fields vs/\vs[1]? =some (.ref T)/\T≠a/\h.get? T=some oT/\oT.data= .fields ts/\ts[3]? =some .none/\H T=none/\g.get? T=none
 un:H a=none
 new:g.get? a=none
theorem fz.rB{g g' h:Heap}{H:Hp}{a:Addr}{cls:Value}(f:fz g h H a cls)(k:∀b o,g'.get? b=some o->∃u,g.get? b=some u):fz g' h H a cls:=by
 have z:∀b,g.get? b=none->g'.get? b=none:=λb e=>by
  cases q:g'.get? b with
  |none=>rfl
  |some o=>obtain⟨u,e2⟩:=k b o q;rw[e]at e2;cases e2
 obtain⟨oe,vs,T,oT,ts,a0,h1,h2,h3,h4,h5,h6,h7,h8,h9,h10,h11⟩:=f.ex;exact⟨⟨oe,vs,T,oT,ts,a0,h1,h2,h3,h4,h5,h6,h7,h8,h9,h10,z T h11⟩,f.un,z a f.new⟩
noncomputable def fN (P:Program)(w:World):gC:=λouter H s E e s'=>∃a cls H',e= .ref a/\s'.os=s.os/\AllBare s'.gens/\Un (br outer) [] H H' s.heap s'.heap/\bL P w H' s'.heap/\fz s.heap s'.heap H' a cls/\E cls none H'
section
variable {X:Cx}{pins:aF}{σ:St}{H:Hp}{s:Shared}{a:Addr}{cls:Value}
theorem Inv.there{b:Addr}{o:HO}(I:Inv X pins σ H s)(e:H b=some o):∃u,s.heap.get? b=some u:=(I.ar b o e).there
theorem Inv.over(I:Inv X pins σ H s)(hex:X.ex= []){l:List Addr}{h':Heap}(hl:∀b∈l,b∈br X.stack∨(H b=none/\X.s₀.heap.get? b=none))(k:(wipe s.heap l).StaysIn h')(u:∀b∈br X.stack,∀o,s.heap.get? b=some o->∃sl,h'.get? b=some { o with slots:=sl }):
 Un X.fs [] X.H₀ H X.s₀.heap h'/\bL X.prog X.w H h':=by
 have L0:X.s₀.heap.get? X.env.locals=none:=Heap.get?_none_of_le I.ok.above;have kk:∀b o,s.heap.get? b=some o->b∉l->h'.get? b=some o:=λb o e m=>k b o (by rw[mn m];exact e)
 have nex:∀b:Addr,b∉X.ex:=λb z=>by rw[hex]at z;cases z
 have old:∀b o,X.s₀.heap.get? b=some o->b∉X.fs->b∉l:=λb o e hb m=>by
  rcases hl b m with z|⟨_,z⟩
  . rcases cM.mp (I.cZ b z)with z|z
    . rw[z,L0]at e;cases e
    . exact hb z
  . rw[z]at e;cases e
 have fs_in:∀b∈X.fs,b∈br X.stack:=λb hb=>by
  rcases I.ok.mS with e|⟨e,hf⟩
  . rw[e];exact hb
  . rw[e];unfold br;rw[qJ,hf];exact fM _ hb
 refine⟨⟨λb o e n hb _=>kk b o (I.base.keep b o e n hb (nex b)) (old b o e hb),λb o e n hb _=>?_,λb o e n _=>I.base.free b o e n (nex b),λb o e _=>?_,I.base.aV,I.base.aE,I.base.bR⟩,λb o e=>?_⟩
 . obtain⟨sl,e1⟩:=I.base.slot b o e n hb (nex b)
   obtain⟨sl',e2⟩:=u b (fs_in b hb) _ e1;exact⟨sl',e2⟩
 . obtain⟨o',e1⟩:=I.base.there b o e (nex b)
   by_cases hb:b∈X.fs
   . obtain⟨sl',e2⟩:=u b (fs_in b hb) _ e1;exact⟨_,e2⟩
   . exact⟨o',kk b o' e1 (old b o e hb)⟩
 . refine(I.ar b o e).cY (λc v hc q=>kk c v q λm=>?_) (λ_ q=>q) λ_ _ q=>q
   have hn:H c=none:=(hl c m).elim (I.cI c) λz=>z.1
   rcases hc with z|z
   . rw[z,e]at hn;cases hn
   . rw[z]at hn;cases hn
theorem Inv.lY(I:Inv X pins σ H s)(hex:X.ex= []){b:Addr}(e:s.heap.get? b=none):X.s₀.heap.get? b=none:=by
 cases q:X.s₀.heap.get? b with
 |none=>rfl
 |some o=>obtain⟨o',e1⟩:=I.base.there b o q (by rw[hex];exact lA);rw[e]at e1;cases e1
theorem P1{M:Model}{Q:Unit->Shared->Prop}{E:aP}(I:Inv X pins σ H s)(hex:X.ex= [])(hst:X.stack=X.env::X.outer)(hf:X.env.frame=some X.env.locals)(fl:fz X.s₀.heap s.heap H a cls)
 (hQ:∀h',Un X.fs [] X.H₀ H X.s₀.heap h'->bL X.prog X.w H h'->fz X.s₀.heap h' H a cls->Q () { s with heap:=h' }):wpAny M X.A (leaving X.env (.ref a)) Q E s:=by
 obtain⟨oe,vs,T,oT,ts,a0,h1,h2,h3,h4,h5,h6,h7,h8,h9,h10,h11⟩:=fl.ex;have hl:∀b∈a::T::br X.stack,b∈br X.stack∨(H b=none/\X.s₀.heap.get? b=none):=λb hb=>by
  rcases cM.mp hb with z|hb
  . subst z;exact .inr ⟨fl.un,fl.new⟩
  . rcases cM.mp hb with z|hb
    . subst z;exact .inr ⟨h10,h11⟩
    . exact .inl hb
 have ff:s.heap.FunFrames (wipe s.heap (a::T::br X.stack)) (X.env::X.outer):=by
  have z:=I.stack;rw[hst]at z;exact uI z λb hb=>kL (by rw[<-hst]at hb;simp[hb])
 refine wpAny_leaves_onW (base:=wipe s.heap (a::T::br X.stack)) (cls:=cls) (a0:=a0) (by rw[<-hst];exact I.ok.frames) hf ⟨yC,kL (by simp),ff,oe,vs,T,oT,ts,h1,⟨h2,h3⟩,h4,h5,kL (by simp),h6,h7,h8,h9⟩ λh' fl' us=>?_
 obtain⟨k1,k2,k3,oe',vs',T',oT',ts',g1,⟨g2,g3⟩,g4,g5,g6,g7,g8,g9,g10⟩:=fl';obtain⟨u1,u2⟩:=I.over hex hl k1 λb hb o e=>us b o e (by
  obtain⟨_,o',e',nf⟩:=I.stack.mem hb;rw[e]at e';cases e';exact nf)
 have inB:∀u,s.heap.get? T'=some u->T'∈a::T::br X.stack:=λu e=>by
  by_cases m:T'∈a::T::br X.stack
  . exact m
  . rw[mn m,e]at g6;cases g6
 refine hQ h' u1 u2 ⟨⟨oe',vs',T',oT',ts',a0,g1,g2,g3,g4,g5,g7,g8,g9,g10,?_,?_⟩,fl.un,fl.new⟩
 . cases q:H T' with
   |none=>rfl
   |some o=>
    obtain⟨u,e⟩:=I.there q;rcases hl T' (inB u e)with z|⟨z,_⟩
    . rw[I.cI _ z]at q;cases q
    . rw[z]at q;cases q
 . cases q:X.s₀.heap.get? T' with
   |none=>rfl
   |some o=>
    obtain⟨u,e⟩:=I.base.there T' o q (by rw[hex];exact lA)
    rcases hl T' (inB u e)with z|⟨_,z⟩
    . obtain⟨_,o',e',nf⟩:=I.stack.mem z
      obtain⟨sl,e2⟩:=us T' o' e' nf;rw[g8]at e2;cases e2;exact bp g9 (nf _)
    . rw[z]at q;cases q
theorem OC{M:Model}{Q:Unit->Shared->Prop}{E:aP}{h1:Heap}{args:ao}(I:Inv X pins σ H s)(hex:X.ex= [])(hst:X.stack=X.env::X.outer)(hf:X.env.frame=some X.env.locals)(hx:Heap.MadeExcOf s.heap h1 a cls args)
 (hQ:∀h',Un X.fs [] X.H₀ H X.s₀.heap h'->bL X.prog X.w H h'->fz X.s₀.heap h' H a cls->Q () { s with heap:=h' }):wpAny M X.A (leaving X.env (.ref a)) Q E { s with heap:=h1 }:=by
 have hl:∀b∈br X.stack,b∈br X.stack∨(H b=none/\X.s₀.heap.get? b=none):=λb hb=>.inl hb
 have ff:s.heap.FunFrames (wipe s.heap (br X.stack)) (X.env::X.outer):=by
  have z:=I.stack;rw[hst]at z;exact uI z λb hb=>kL (by rw[<-hst]at hb;exact hb)
 refine wpAny_leaves_madeW (base:=wipe s.heap (br X.stack)) (h:=s.heap) (cls:=cls) (args:=args) (by rw[<-hst];exact I.ok.frames) hf yC ff hx λh' t fl' _ _ us=>?_
 obtain⟨k1,k2,k3,oe',vs',T',oT',ts',g1,⟨g2,g3⟩,g4,g5,g6,g7,g8,g9,g10⟩:=fl';have slot:∀b∈br X.stack,∀o,s.heap.get? b=some o->∃sl,h'.get? b=some { o with slots:=sl }:=λb hb o e=>by
  obtain⟨_,o',e',nf⟩:=I.stack.mem hb;rw[e]at e';cases e';exact us b o (hx.keeps b o e) nf
 obtain⟨u1,u2⟩:=I.over hex hl k1 slot;have inB:∀u,s.heap.get? T'=some u->T'∈br X.stack:=λu e=>by
  by_cases m:T'∈br X.stack
  . exact m
  . rw[mn m,e]at g6;cases g6
 have noF:T'∉br X.stack:=λz=>by
  obtain⟨_,o',e',nf⟩:=I.stack.mem z;obtain⟨sl,e2⟩:=slot T' z o' e';rw[g8]at e2;cases e2;exact bp g9 (nf _)
 have hT:s.heap.get? T'=none:=by
  cases q:s.heap.get? T' with
  |none=>rfl
  |some u=>exact bp (inB u q) noF
 have un:∀b,s.heap.get? b=none->H b=none:=λb e=>by
  cases q:H b with
  |none=>rfl
  |some o=>obtain⟨u,e2⟩:=I.there q;rw[e]at e2;cases e2
 exact hQ h' u1 u2 ⟨⟨oe',vs',T',oT',ts',_,g1,g2,g3,g4,g5,g7,g8,g9,g10,un T' hT,I.lY hex hT⟩,un a hx.new,I.lY hex hx.new⟩
end
theorem Wa{P:Program}{w:World}{K:ag}{mg:aU}{base:Heap}{N:ay}{qual:Str}{scope:Scope}{f:Addr}{cd:Value}{A:Around}{outer:List Env}{s₀:Shared}{H₀:Hp}{E E':XK}(hE:∀c o H,E' c o H->E c o H):
 Passes (fN P w) (gh (fN P w) P w K mg base N qual scope f cd A outer s₀ H₀ E) E':=by
 intro pins σ H s e s' I h;obtain⟨a,cls,H',rfl,os,bare,un,ar,fl,q⟩:=h;have I':=I.iF (ch:=[]) os un ar bare λb z=>bp z (by simp)
 refine P1 I' rfl rfl rfl (fl.rB λb o e=>I.base.there b o e lA) λh' u1 u2 f'=>?_
 exact⟨a,cls,H',rfl,I'.os,I'.bare,u1,u2,f',hE _ _ _ q⟩
theorem R7{P:Program}{w:World}{K:ag}{mg:aU}{base:Heap}{N:ay}{qual:Str}{scope:Scope}{f:Addr}{cd:Value}{A:Around}{outer:List Env}{s₀:Shared}{H₀:Hp}{E:XK}{pins:aF}{σ:St}{H:Hp}{s:Shared}{a:Addr}{cls:Value}{h1:Heap}{args:ao}
 (I:Inv (gh (fN P w) P w K mg base N qual scope f cd A outer s₀ H₀ E) pins σ H s) (hx:Heap.MadeExcOf s.heap h1 a cls args) (q:E cls none H):(gh (fN P w) P w K mg base N qual scope f cd A outer s₀ H₀ E).xe (.ref a) { s with heap:=h1 }:=
 OC I rfl rfl rfl hx λh' u1 u2 f'=>⟨a,cls,H,rfl,I.os,I.bare,u1,u2,f',q⟩
theorem Sd{K:ag}{h:Heap}{C:Addr}{iE:ao}{newId:String}(X:K.In h)(q:PySem.W.excIn K C iE newId=true):
 ∃(bm:ao) (N:Addr) (nm qn:Str) (bs:ao) (hd:Bool) (sn:ay) (sub:ao) (ab:Bool) (col:Option Bool) (dd:Option Addr) (k0 k1 k2 k3 k5:bU) (mN:aU),
  h.get? C=some (excClassObj nm qn C N bs bm hd sn sub ab col dd k0 k1 k2 k3 k5 newId)/\h.Ns N mN/\mN "__init__" =none/\OwnTail h iE bm:=by
 unfold PySem.W.excIn at q;split at q
 . rename_i dd cd sl ho
   split at q
   . rename_i C' bm k0 k1 k2 k3 n k5 hm hs
     simp only[bh,eW,qN]at q;obtain⟨⟨⟨⟨⟨rfl,rfl⟩,hdel⟩,ht⟩,ar⟩,hni⟩:=q;obtain⟨nm,bs,mro,ns,qn,hd,sn,sub,ab,col,del⟩:=cd;dsimp only at hm hdel ar hni;subst hm hdel;have hsl:sl= #[k0,k1,k2,k3,some (.builtin n),k5]:=by
      obtain⟨l⟩:=sl;simp only at hs;rw[hs]
     subst hsl;exact⟨bm,ns,nm,qn,bs,hd,sn,sub,ab,col,dd,k0,k1,k2,k3,k5,_,X _ _ ho,.of_isNs (PySem.W.isNs_of_in X ar),PySem.W.nsMap_none_of_in X ar hni,PySem.W.tail_of_in X ht⟩
   . cases q
 . cases q
def Throws(X:Cx)(E:XK):Prop:=∀(pins:aF) (σ:St) (H:Hp) (s:Shared) (a:Addr) (cls:Value) (h1:Heap) (args:ao),Inv X pins σ H s->Heap.MadeExcOf s.heap h1 a cls args->E cls none H->X.xe (.ref a) { s with heap:=h1 }
def SK(E:XK)(cls:Value)(t:TA):TS:=λ_ σ H=>t σ H λvs H1=>vs.length<=sizeLine/\E cls none H1
theorem QV{X:Cx}{E:XK}{C:Addr}{B Bn newId nid initId inN:String}{iE bmN:ao}{x:Str}{np cpos pos:Pos}{e:Expr}{es:aT}{t:TA}(Fn:ExcBaseFacts Bn newId inN bmN)(hBn:iE.contains (.type Bn)=true)(F:ExcBaseFacts B nid initId iE)
 (q:PySem.W.excIn X.K C iE newId=true) (hc:X.calm=true) (thr:Throws X E) (hm:X.mg x=some (.ref C)) (ha:PA X (e::es) t) (hg:Gl X x) (hdb:(x==("__debug__":Str))=false)
 (he:starEach (e::es) X.env=(false,eval e X.env)::starEach es X.env) (hpl:(backTo cpos (starEach es X.env)).any (·.1)=false):
 PS X (.Raise (some (.Call (.Name x np) (e::es) [] cpos)) none pos) (SK E (.ref C) t):=by
 intro pins s σ H D I h;obtain⟨bm,N,nm,qn,bs,hd,sn,sub,ab,col,dd,k0,k1,k2,k3,k5,mN,hC,hN,hni,T⟩:=Sd I.mod.kJ q;refine wpAny_Raise_call_subU (C:=C) (nm:=nm) (q:=qn) (N:=N) (bs:=bs) (bm:=bm) (hdct:=hd) (sn:=sn) (sub:=sub) (ab:=ab) (col:=col) (dd:=dd) (k0:=k0) (k1:=k1) (k2:=k2) (k3:=k3) (k5:=k5)
  Fn hBn F (mN:=mN) (T.hasType F.hasBase) (I.ok.hd hc) (by rw[he];show(false||(backTo cpos (starEach es X.env)).any (·.1))=false;rw[hpl];rfl) hni (js I hg hm ⟨rfl,?_⟩ hdb)
 have hap:=ha cpos pins s σ H _ I h;rw[he]at hap ⊢;exact Calls.evalArgs_plain (aB hap λus s1 ⟨vs,H1,I1,r,z,qE⟩=>⟨rfl,by rw[<-r.length];exact z,I1.bk _ _ hC,hN.keeps I1.bk,T.keeps I1.bk,λh' a hx=>thr pins σ H1 s1 a (.ref C) h' us I1 hx qE⟩)
theorem R6{P:Program}{w:World}{K:ag}{mg:aU}{base:Heap}{N:ay}{qual:Str}{scope:Scope}{f:Addr}{cd:Value}{A:Around}{outer:List Env}{s₀:Shared}{H₀:Hp}{E:XK}:Throws (gh (fN P w) P w K mg base N qual scope f cd A outer s₀ H₀ E) E:=
 λpins σ H s a cls h1 args I hx q=>R7 I hx q
end L2
namespace R
open PySem PySem.Spec PyProof.Rows L2
abbrev fA:=Value->RM->Prop
def lU(K:ag)(H:Hp)(E:fA)(E0:XK):Prop:=∀c M' H',E c M'->Ext H H'->View K H' M'->E0 c none H'
theorem lU.ext{K:ag}{H H':Hp}{E:fA}{E0:XK}(h:lU K H E E0)(e:Ext H H'):lU K H' E E0:=λc M' H2 q e2 v=>h c M' H2 q (e.trans e2) v
theorem Un.q9{fs ex:List Addr}{H H':Hp}{h h':Heap}(u:Un fs ex H H' h h'):Ext H H':=⟨u.aV,u.aE⟩
abbrev dm:=LR->RM->aq->fA->Prop
def kY(K:ag)(sp:dm):Sp:=λvs H Q0 E0=>∃rs M Q E,ae K H rs vs/\View K H M/\sp rs M Q E/\gH K H Q Q0/\lU K H E E0
structure Wx(X:Cx)(E:fA)(E0:XK):Prop where
 up:lU X.K X.H₀ E E0
 pass:Passes (fN X.prog X.w) X E0
def wk(E:fA)(C:Addr)(t:bx):bY:=λ_ σ M=>t σ M λrs M1=>rs.length<=sizeLine/\E (.ref C) M1
section
variable {X:Cx}{E:fA}{E0:XK}{C:Addr}{B Bn newId nid initId inN:String}{iE bmN:ao}{x:Str}{np p cpos pos:Pos}{e:Expr}{es:aT}{t:bx}{k:Nat}{ps:ay}{sp:dm}
theorem SQ(W:Wx X E E0)(thr:Throws X E0)(Fn:ExcBaseFacts Bn newId inN bmN)(hBn:iE.contains (.type Bn)=true)(F:ExcBaseFacts B nid initId iE)
 (q:PySem.W.excIn X.K C iE newId=true) (hc:X.calm=true) (hm:X.mg x=some (.ref C)) (ha:cw X (e::es) t) (hg:Gl X x:=by rfl) (hdb:(x==("__debug__":Str))=false:=by decide)
 (he:starEach (e::es) X.env=(false,eval e X.env)::starEach es X.env:=by rfl) (hpl:(backTo cpos (starEach es X.env)).any (·.1)=false:=by rfl):
 c8 X (.Raise (some (.Call (.Name x np) (e::es) [] cpos)) none pos) (wk E C t):=by
 intro pins s σ0 H D0 I h;obtain⟨σ,M,D,hs,hv,ht,hd⟩:=h;refine QV (E:=E0) Fn hBn F q hc thr hm ha hg hdb he hpl pins s σ0 H D0 I ⟨σ,M,_,hs,hv,ht,λrs M1 vs H1 q1 e1 v1 r1=>⟨by rw[<-r1.length];exact q1.1,W.up _ M1 H1 q1.2 ((Un.q9 I.base).trans e1) v1⟩⟩
structure KP(P:Program)(w:World)(K:ag)(mg:aU)(base:Heap)(k:Nat)(x:Str)(ps:ay)(sp:dm):Prop where
 ex:∃(f:Addr) (fd:FuncData),mg x=some (.ref f)/\PySem.W.keepIn K (.ref f)=true/\Binds K fd ps []/\bQ P w K mg base (fN P w) k f fd ps (kY K sp)
structure KQ(P:Program)(w:World)(K:ag)(mg:aU)(base:Heap)(C:Addr)(k:Nat)(ps:ay)(sp:dm):Prop where
 ex:∃(g:Addr) (fd:FuncData),Mk K C g/\Binds K fd ps []/\bQ P w K mg base (fN P w) k g fd ps (kY K sp)
end
theorem XR{P:Program}{w:World}{K:ag}{mg:aU}{base:Heap}{N:ay}{qual:Str}{scope:Scope}{f:Addr}{cd:Value}{A:Around}{outer:List Env}{s₀:Shared}{H₀:Hp}{E:fA}{E0:XK}(u:lU K H₀ E E0):Wx (gh (fN P w) P w K mg base N qual scope f cd A outer s₀ H₀ E0) E E0:=
 ⟨u,Wa λ_ _ _ h=>h⟩
theorem Ua{P:Program}{w:World}{K:ag}{mg:aU}{base:Heap}{x qual:Str}{st:Stmt}{f:Addr}{fd:FuncData}{N ps:ay}{k:Nat}{sp:dm}{t:fA->bY}(F:m7 K x qual st f fd)(S:kN N ps (bK st))
 (len:∀rs M Q E,sp rs M Q E->rs.length=ps.length)
 (term:∀(cdv:Value) (A:Around) (outer:List Env) (s:Shared) (H:Hp) (E0:XK) (E:fA),lU K H E E0->aI k (A.deeper (envOfC qual (bK st) s.heap.objs.size f cdv))->gU (gh (fN P w) P w K mg base N qual (bK st) f cdv A outer s H E0) (fh st) (t E))
 (body:∀rs M Q E,sp rs M Q E->t E { nx:=λ_ M'=>Q .au M',rt:=Q } (fQ N rs) M):bQ P w K mg base (fN P w) (k+1) f fd ps (kY K sp):=by
 obtain⟨oc,od,kV,doc,pm,an,cdv,ct,osl,rfl,lk,hcd⟩:=F.ex;refine FL lk hcd S (λvs H Q0 E0 h=>?_) λA outer s H vs Q0 E0 hr h=>?_
 . obtain⟨rs,M,Q,E,rr,hv,hq,hk,hE⟩:=h
   rw[<-rr.length];exact len rs M Q E hq
 . obtain⟨rs,M,Q,E,rr,hv,hq,hk,hE⟩:=h
   refine⟨_,term cdv A outer s H E0 E hE hr,fQ N rs,M,{ nx:=λ_ M'=>Q .au M',rt:=Q },CF rr,hv,body rs M Q E hq,⟨λσ M' σ0 H' q e w r=>hk .au M' .au H' q e w (by simp only[Rep]),hk,λ_ _ _ _ z=>z.elim,λ_ _ _ _ z=>z.elim⟩⟩
theorem c8.cg{X:Cx}{st:Stmt}{t:bY}(h:c8 X.cg st t):c8 X st t:=λpins s σ H D I hw=>
 eM (h pins s σ H D (I.wish _) hw) (λ_ _ q=>q.bu) λ_ _ z=>False.elim z
end R
namespace PySem.W
open PySem PySem.Spec PySem.Calls PyProof.Rows Builtin Builtin.ObjectAttr Builtin.Getset_descriptor
structure eO(h:Heap)(x:Addr)(D:Addr):Prop where
 ex:∃ox:Obj,h.get? x=some ox/\ox.cls= .ref D
theorem eO.type{M:Model}{h:Heap}{x D:Addr}(I:eO h x D):Looks M h (typeOf (.ref x)) (.ref D):=by
 obtain⟨o,h1,h2⟩:=I.ex;exact h2 ▸ (Looks.ld h1).andThen .now
section
variable {prog:Program}{w:World}{A:Around}{E:aP}{h:Heap}{g:Array GenState}{d:Drawn}{t:Nat}{os:OsState}{K:Frag}{x D:Addr}
theorem SS{R:Result->Shared->Prop}{tp:Value}{s:Shared}(X:K.In s.heap)(I:eO s.heap x D)(hm:mroIn K D (.type "object")=some true)
 (h:R (.ok (.ret (.ref D))) s):codeAny (model prog w) A (.call (.builtin "getset_descriptor.__get__") ⟨[.builtin "object.__class__",.ref x,tp],[]⟩) R s:=by
 obtain⟨hh,g,dr,t,os⟩:=s;have L0:=I.type (M:=model prog w);have L1:=looks_mroIn (M:=model prog w) X hm;refine codeAny_call_builtin KF.slot_gs.plain KF.entry_gs (KF.slot_gs.check _ _ _ _ _ _ _ _ KF.type_class (KF.args_gs _ _ _) ?_);unfold Builtin.«getset_descriptor.__get__» descrGet;rw[dga_obj];refine ak (aR ?_);unfold descrGetter descrCheckInstance descrNameAndClass isInstance;simp only[KF.owner_class]
 repeat lk
 refine⟨Code.quiet_builtin _ (by decide+kernel),codeAny_builtin KF.entry_class ?_⟩
 unfold Builtin.«object.__class__» shownTypeOf
 repeat lk
 exact h
theorem PV{tk:Tok}{Q:Fin->Shared->Prop}(X:K.In h)(I:eO h x D)(ha:findIn K (.ref D) "__class__" =some (some (.builtin "object.__class__")))(hm:mroIn K D (.type "object")=some true)(hq:Q (.done (.ret (.ref D))) ⟨h,g,d,t,os⟩):
 wpAny (model prog w) A (Builtin.«object.__getattribute__» ⟨[.ref x,.str "__class__" tk],[]⟩) Q E ⟨h,g,d,t,os⟩:=by
 have hT5:(⟨h,g,d,t,os⟩:Shared).TypeIs (.builtin "object.__class__") "getset_descriptor":=F.typeOf_object_class;have f5:=F.typeOf_object_class;have f6:=F.slot_gs_get.lookup;have f7:=F.slot_gs_set.lookup;have L1:=looks_findIn (M:=model prog w) X ha;obtain⟨ox,hx,hc⟩:=id I.ex
 repeat (any_goals (first|assumption|(with_reducible refine wpAny_loadPart_at hx ?_;rw[hc])|with_reducible refine ak (L1.at ?_)|with_reducible refine L1.at ?_|wp_step))
 refine SS X I hm ?_
 repeat (any_goals (first|assumption|wp_step))
theorem PX{M:Model}{nameV:Value}{Q:Unit->Shared->Prop}(X:K.In h)(I:eO h x D)(hb:mroIn K D (.type "BaseException")=some true)(hq:Q () ⟨h,g,d,t,os⟩):wpAny M A (checkBuiltinCall "BaseException.__getattribute__" ⟨[.ref x,nameV],[]⟩) Q E ⟨h,g,d,t,os⟩:=by
 have hk:builtinKind "BaseException.__getattribute__" =some .slot:=by decide+kernel
 have hsplit:splitId "BaseException.__getattribute__" =some ("BaseException","__getattribute__"):=by decide+kernel
 have ha:=F.args_bexc_ga (.ref x) nameV;have L0:=I.type (M:=M);have L1:=looks_mroIn (M:=M) X hb;simp only[checkBuiltinCall,hk,hsplit];refine ak ?_;unfold isInstance
 repeat (first|with_reducible refine ak (L0.at ?_)|with_reducible refine ak (L1.at ?_)|with_reducible refine L1.at ?_|wp_step)
 exact hq
theorem VP{tk:Tok}{Q:aP}(X:K.In h)(I:eO h x D)(hga:findIn K (.ref D) "__getattribute__" =some (some (.builtin "BaseException.__getattribute__")))(hgn:findIn K (.ref D) "__getattr__" =some none)(ha:findIn K (.ref D) "__class__" =some (some (.builtin "object.__class__")))
 (hb:mroIn K D (.type "BaseException")=some true) (hm:mroIn K D (.type "object")=some true) (hq:Q (.ref D) ⟨h,g,d,t,os⟩):wpAny (model prog w) A (getAttrBy (.ref x) (.str "__class__" tk) false false) Q E ⟨h,g,d,t,os⟩:=by
 have f3:=F.attr_ValueError.ga.bind (.ref x);have hx2:(Value.builtin "BaseException.__getattribute__" ==Value.builtin "object.__getattribute__")=false:=by decide+kernel
 have hx1:(onTheHeap (Value.ref D)&&Value.builtin "BaseException.__getattribute__" ==Value.builtin "object.__getattribute__")=false:=by rw[hx2];rfl
 have L1:=looks_findIn (M:=model prog w) X hga;have L2:=looks_findIn (M:=model prog w) X hgn;obtain⟨ox,hx,hc⟩:=id I.ex
 repeat (any_goals (first|assumption|(with_reducible refine wpAny_loadPart_at hx ?_;rw[hc])|with_reducible refine ak (L1.at ?_)|with_reducible refine ak (L2.at ?_)|with_reducible refine L2.at ?_|with_reducible refine L1.at ?_|wp_step))
 refine codeAny_call_builtin F.attr_ValueError.ga.plain F.entry_bexc_ga (PX X I hb (PV X I ha hm ?_))
 repeat (any_goals (first|assumption|wp_step))
theorem RZ{Q:bU->Shared->Prop}(X:K.In h)(I:eO h x D)(hga:findIn K (.ref D) "__getattribute__" =some (some (.builtin "BaseException.__getattribute__")))(hgn:findIn K (.ref D) "__getattr__" =some none)(ha:findIn K (.ref D) "__class__" =some (some (.builtin "object.__class__")))
 (hb:mroIn K D (.type "BaseException")=some true) (hm:mroIn K D (.type "object")=some true) (hq:Q (some (.ref D)) ⟨h,g,d,t+1,os⟩):wpAny (model prog w) A (getAttr? (.ref x) "__class__") Q E ⟨h,g,d,t,os⟩:=by
 unfold getAttr? getAttrBy?
 repeat (any_goals (first|assumption|with_reducible apply VP X I hga hgn ha hb hm|wp_step))
end
noncomputable def hZ (K:Frag)(D:Addr):Bool:=findIn K (.ref D) "__getattribute__" ==some (some (.builtin "BaseException.__getattribute__"))&&findIn K (.ref D) "__getattr__" ==some none&&findIn K (.ref D) "__class__" ==some (some (.builtin "object.__class__"))&&mroIn K D (.type "BaseException")==some true&&mroIn K D (.type "object")==some true&&(clsIn K D).isSome
theorem dM{K:Frag}{x D:Addr}(e:hZ K D=true):KitX K (.ref x) (.ref D) (λh=>eO h x D):=by
 unfold hZ at e;simp only[bh,eW]at e;obtain⟨⟨⟨⟨⟨hga,hgn⟩,ha⟩,hb⟩,hm⟩,hcs⟩:=e;obtain⟨cdD,hcD⟩:=tW.mp hcs;refine⟨λ_ _ _ I=>I.type,λ_ _ X _=>?_,λh tp dd its n sl X htp=>?_,λ{_ _ _ _ _ s} X I k=>?_⟩
 . unfold clsIn at hcD
   split at hcD
   . rename_i c' d' cd' sl' ho
     intro A' Q' E' s' k q;unfold isType loadHead;exact ak (wpAny_loadPart (k _ _ (X _ _ ho)) (aR q))
   . cases hcD
 . refine Bool.eq_false_iff.mpr λq=>?_
   have e:D=tp:=Value.ref.inj (eW.mp q);subst e;unfold clsIn at hcD;split at hcD
   . rename_i c' d' cd' sl' ho
     have z:=(X _ _ ho).symm.trans htp;cases z
   . cases hcD
 . obtain⟨h,g,d,t,os⟩:=s
   exact RZ X I hga hgn ha hb hm k
end PySem.W
namespace L2
open PySem PySem.Spec PyProof.Rows
section
variable {X:Cx}{pins:aF}{σ:St}{H:Hp}{s:Shared}{a:Addr}{cls:Value}{g:Heap}
theorem Inv.lax(I:Inv X pins σ H s)(hex:X.ex= []){l:List Addr}{h':Heap}(hl:∀b∈l,b∈br X.stack∨(H b=none/\X.s₀.heap.get? b=none/\(∀p∈X.pn++pins,p.1≠b)/\(∀x c,X.env.cells.lookup x=some c->c≠b)/\X.env.locals≠b))
 (k:(wipe s.heap l).StaysIn h') (u:∀b∈br X.stack,∀o,s.heap.get? b=some o->∃sl,h'.get? b=some { o with slots:=sl }):Inv X pins σ H { s with heap:=h' }:=by
 obtain⟨u1,u2⟩:=I.over hex (λb hb=>(hl b hb).imp id λz=>⟨z.1,z.2.1⟩) k u
 have kk:∀b o,s.heap.get? b=some o->b∉l->h'.get? b=some o:=λb o e m=>k b o (by rw[mn m];exact e)
 have up:∀b o,s.heap.get? b=some o->(b∉l∨b∈br X.stack)->∃sl,h'.get? b=some { o with slots:=sl }:=λb o e z=>by
  rcases z with z|z
  . exact⟨o.slots,kk b o e z⟩
  . exact u b z o e
 have cellk:∀x c v,X.env.cells.lookup x=some c->s.heap.IsCell c v->h'.IsCell c v:=λx c v e ⟨o,ho,hd⟩=>by
  have z:c∉l∨c∈br X.stack:=by
   by_cases m:c∈l
   . rcases hl c m with z|z
     . exact .inr z
     . exact bp rfl (z.2.2.2.1 x c e)
   . exact .inl m
  obtain⟨sl,e2⟩:=up c o ho z;exact⟨_,e2,hd⟩
 obtain⟨m,⟨o,es,ep,ho,r⟩,hloc⟩:=I.loc;have zL:X.env.locals∉l∨X.env.locals∈br X.stack:=by
  by_cases m:X.env.locals∈l
  . rcases hl _ m with z|z
    . exact .inr z
    . exact bp rfl z.2.2.2.2
  . exact .inl m
 obtain⟨sl,hL⟩:=up _ o ho zL;refine⟨I.ok,I.os,I.bare,by rw[hex];exact u1,⟨m,⟨_,es,ep,hL,r⟩,λi x v h1 h2 h3=>?_⟩,λx c e=>?_,I.free,I.bo,λp hp=>?_,u2,I.len⟩
 . obtain⟨u,rv,lk⟩:=hloc i x v h1 h2 h3
   refine⟨u,rv,?_⟩;rcases lk with lk|⟨q1,c,e,hc⟩
   . exact .inl lk
   . exact .inr ⟨q1,c,e,cellk x c _ e hc⟩
 . obtain⟨v,hc⟩:=I.cell x c e
   exact⟨v,cellk x c v e hc⟩
 . obtain⟨p1,p2,p3,p4,p5⟩:=I.pin p hp
   refine⟨kk _ _ p1 λm=>?_,p2,p3,p4,p5⟩
   rcases hl _ m with z|z
   . rcases cM.mp (I.cZ _ z)with z|z
     . exact p3 z
     . exact p4 z
   . exact z.2.2.1 p hp rfl
structure c7(X:Cx)(pins:aF)(g:Heap):Prop where
 old:∀b o,X.s₀.heap.get? b=some o->∃u,g.get? b=some u
 pin:∀p∈X.pn++pins,∃u,g.get? p.1=some u
 cell:∀x c,X.env.cells.lookup x=some c->∃u,g.get? c=some u
 loc:∃u,g.get? X.env.locals=some u
theorem Inv.ahead(I:Inv X pins σ H s)(hex:X.ex= []):c7 X pins s.heap where
 old:=λb o e=>I.base.there b o e (by rw[hex];exact lA)
 pin:=λp hp=>⟨_,(I.pin p hp).1⟩
 cell:=λx c e=>by obtain⟨v,o,ho,_⟩:=I.cell x c e;exact⟨o,ho⟩
 loc:=by obtain⟨m,⟨o,es,ep,ho,r⟩,_⟩:=I.loc;exact⟨o,ho⟩
theorem c7.ne(h:c7 X pins g){b:Addr}(e:g.get? b=none):X.s₀.heap.get? b=none/\(∀p∈X.pn++pins,p.1≠b)/\(∀x c,X.env.cells.lookup x=some c->c≠b)/\X.env.locals≠b:=by
 have z:∀c,(∃u,g.get? c=some u)->c≠b:=λc ⟨u,hu⟩ q=>by rw[q,e]at hu;cases hu
 refine⟨?_,λp hp=>z _ (h.pin p hp),λx c q=>z _ (h.cell x c q),z _ h.loc⟩
 cases q:X.s₀.heap.get? b with
 |none=>rfl
 |some o=>exact bp rfl (z b (h.old b o q))
theorem W7(fl:fz g s.heap H a cls)(ah:c7 X pins g){T:Addr}(hT:H T=none)(gT:g.get? T=none):∀b∈a::T::br X.stack,b∈br X.stack∨(H b=none/\X.s₀.heap.get? b=none/\(∀p∈X.pn++pins,p.1≠b)/\(∀x c,X.env.cells.lookup x=some c->c≠b)/\X.env.locals≠b):=λb hb=>by
 rcases cM.mp hb with z|hb
 . subst z;exact .inr ⟨fl.un,ah.ne fl.new⟩
 . rcases cM.mp hb with z|hb
   . subst z;exact .inr ⟨hT,ah.ne gT⟩
   . exact .inl hb
theorem CP(I:Inv X pins σ H s)(hex:X.ex= [])(ah:c7 X pins g)(fl:fz g s.heap H a cls)(hgs:∀b o,g.get? b=some o->∃u,s.heap.get? b=some u){T:Addr}(hT:H T=none)(gT:g.get? T=none){a0:Value}{h':Heap}{envs:List Env}
 (fl':Heap.FlyingW (wipe s.heap (a::T::br X.stack)) envs a cls a0 h') (us:s.heap.UpToSlots h'):Inv X pins σ H { s with heap:=h' }/\fz g h' H a cls/\∀b o,g.get? b=some o->∃u,h'.get? b=some u:=by
 obtain⟨k1,k2,k3,oe',vs',T',oT',ts',g1,⟨g2,g3⟩,g4,g5,g6,g7,g8,g9,g10⟩:=fl';have slot:∀b∈br X.stack,∀o,s.heap.get? b=some o->∃sl,h'.get? b=some { o with slots:=sl }:=λb hb o e=>us b o e (by
  obtain⟨_,o',e',nf⟩:=I.stack.mem hb;rw[e]at e';cases e';exact nf)
 have hl:=W7 (X:=X) (pins:=pins) fl ah hT gT;have inB:∀u,s.heap.get? T'=some u->T'∈a::T::br X.stack:=λu e=>by
  by_cases m:T'∈a::T::br X.stack
  . exact m
  . rw[mn m,e]at g6;cases g6
 have noF:T'∉br X.stack:=λz=>by
  obtain⟨_,o',e',nf⟩:=I.stack.mem z;obtain⟨sl,e2⟩:=slot T' z o' e';rw[g8]at e2;cases e2;exact bp g9 (nf _)
 refine⟨I.lax hex hl k1 slot,⟨⟨oe',vs',T',oT',ts',a0,g1,g2,g3,g4,g5,g7,g8,g9,g10,?_,?_⟩,fl.un,fl.new⟩,λb o e=>?_⟩
 . cases q:H T' with
   |none=>rfl
   |some o=>
    obtain⟨u,e⟩:=I.there q;rcases hl T' (inB u e)with z|z
    . exact bp z noF
    . rw[z.1]at q;cases q
 . cases q:g.get? T' with
   |none=>rfl
   |some o=>
    obtain⟨u,e⟩:=hgs T' o q;rcases cM.mp (inB u e)with z|z
    . exact bp z g7
    . rcases cM.mp z with z|z
      . rw[z,gT]at q;cases q
      . exact bp z noF
 . obtain⟨u,e1⟩:=hgs b o e
   by_cases m:b∈br X.stack
   . obtain⟨sl,e2⟩:=slot b m u e1;exact⟨_,e2⟩
   . have nin:b∉a::T::br X.stack:=λz=>by
      rcases cM.mp z with z|z
      . rw[z,fl.new]at e;cases e
      . rcases cM.mp z with z|z
        . rw[z,gT]at e;cases e
        . exact m z
     exact⟨u,k1 b u (by rw[mn nin];exact e1)⟩
theorem Cy(I:Inv X pins σ H s)(fl:fz g s.heap H a cls):∃T a0,H T=none/\g.get? T=none/\Heap.FlyingW (wipe s.heap (a::T::br X.stack)) X.stack a cls a0 s.heap:=by
 obtain⟨oe,vs,T,oT,ts,a0,h1,h2,h3,h4,h5,h6,h7,h8,h9,h10,h11⟩:=fl.ex;exact⟨T,a0,h10,h11,yC,kL (by simp),uI I.stack λb hb=>kL (by simp[hb]),oe,vs,T,oT,ts,h1,⟨h2,h3⟩,h4,h5,kL (by simp),h6,h7,h8,h9⟩
theorem QG{M:Model}{Q:Unit->Shared->Prop}{E:aP}(I:Inv X pins σ H s)(hex:X.ex= [])(hst:X.stack=X.env::X.outer)(hf:X.env.frame=some X.env.locals)(ah:c7 X pins g)(fl:fz g s.heap H a cls)(hgs:∀b o,g.get? b=some o->∃u,s.heap.get? b=some u)
 (hQ:∀h',Inv X pins σ H { s with heap:=h' }->fz g h' H a cls->(∀b o,g.get? b=some o->∃u,h'.get? b=some u)->Q () { s with heap:=h' }):
 wpAny M X.A (noteFrame (.ref a) X.env) (λ_ s2=>wpAny M X.A (setFlight (.ref a) none) Q E s2) E s:=by
 obtain⟨T,a0,hT,gT,fw⟩:=Cy I fl;have fw':=fw;rw[hst]at fw';refine wpAny_looks_onW (by rw[<-hst];exact I.ok.frames) hf fw' λh4 hh u4=>?_
 refine wpAny_landsW hh λh5 f5 u5=>?_
 obtain⟨i1,i2,i3⟩:=CP I hex ah fl hgs hT gT (by rw[hst];exact f5) (u4.trans u5)
 exact hQ h5 i1 i2 i3
theorem QH{M:Model}{A:Around}{Q:Unit->Shared->Prop}{E:aP}(I:Inv X pins σ H s)(hex:X.ex= [])(ah:c7 X pins g)(fl:fz g s.heap H a cls)(hgs:∀b o,g.get? b=some o->∃u,s.heap.get? b=some u)
 (hQ:∀h',Inv X pins σ H { s with heap:=h' }->fz g h' H a cls->(∀b o,g.get? b=some o->∃u,h'.get? b=some u)->Q () { s with heap:=h' }):wpAny M A (setFlight (.ref a) none) Q E s:=by
 obtain⟨T,a0,hT,gT,fw⟩:=Cy I fl;refine lands_againW fw λh5 f5 u5=>?_
 obtain⟨i1,i2,i3⟩:=CP I hex ah fl hgs hT gT f5 u5;exact hQ h5 i1 i2 i3
end
section
variable {X:Cx}{pins:aF}{σ:St}{H:Hp}{s:Shared}{a:Addr}
theorem name_goes{M:Model}{A:Around}{E:aP}{i:Nat}{x:Str}{pos:Pos}{Q:Unit->Shared->Prop}(I:Inv X pins σ H s)(hN:X.N.Nodup)(hi:X.N[i]? =some x)(hk:X.env.scope.names.lookup x=some .local)
 (h:∀s',Inv X pins (σ.set i none) H s'->Q () s'):wpAny M A (do bindName X.env x .none;unbindBehindTheSuite X.env x pos) Q E s:=by
 obtain⟨m,hn,hl⟩:=id I.loc;have hcls:(X.env.scope.kind== .class||(X.env.scope.kind== .module&&X.env.locals != X.env.globals))=false:=by rw[I.ok.kind];rfl
 have hiσ:i<σ.length:=by rw[I.len];exact(hU.mp hi).1
 have iH:=I.iH;have tracked:∀{a:Addr} {h':Heap},(∃o,s.heap.get? a=some o/\H a=none)->Heap.SameBut a s.heap h'->bL X.prog X.w H h':=λ{a h'} ha hs b ob e=>by
  obtain⟨_,_,hfree⟩:=ha;refine(I.ar b ob e).cY (λc w' hc q=>(hs.2 c ?_).trans q) (λ_ q=>q) λ_ _ q=>q
  rintro rfl;rcases hc with rfl|hc
  . rw[hfree]at e;cases e
  . rw[hfree]at hc;cases hc
 refine wpAny_nameGoes_keeps hk hn hcls λh' v hn' hs=>?_
 obtain⟨oL,_,_,hoL,_⟩:=id hn;refine h _ ⟨I.ok,I.os,I.bare,⟨λb o e n hb hx=>?_,λb o e n hb hx=>?_,I.base.free,λb o e hx=>?_,I.base.aV,I.base.aE,I.base.bR⟩,⟨_,hn',λj y v' e1 e2 e3=>?_⟩,λy c e=>?_,I.free,I.bo,λp hp=>?_,tracked ⟨oL,hoL,I.free⟩ hs,by simpa using I.len⟩
 . exact(hs.2 b (cx (dE (bB e) I.ok.above))).trans (I.base.keep b o e n hb hx)
 . obtain⟨sl,e1⟩:=I.base.slot b o e n hb hx
   exact⟨sl,(hs.2 b (cx (dE (bB e) I.ok.above))).trans e1⟩
 . obtain⟨o',e1⟩:=I.base.there b o e hx
   exact⟨o',(hs.2 b (cx (dE (bB e) I.ok.above))).trans e1⟩
 . by_cases hj:j=i
   . subst hj
     rw[List.getElem?_set_self hiσ]at e2;cases e2
   . rw[List.getElem?_set_ne (d9 hj)]at e2
     obtain⟨u',r',q⟩:=hl j y v' e1 e2 e3;refine⟨u',r',?_⟩;rcases q with⟨k,e⟩|⟨k,c,e,z⟩
     . refine .inl ⟨k,?_⟩
       have:y≠x:=λe=>hj (yX hN e1 (e ▸ hi))
       simp[this,e]
     . exact .inr ⟨k,c,e,z.sameBut hs (iH y c e)⟩
 . obtain⟨w',z⟩:=I.cell y c e
   exact⟨w',z.sameBut hs (iH y c e)⟩
 . obtain⟨e,n,ne,nf,d⟩:=I.pin p hp
   exact⟨(hs.2 p.1 ne).trans e,n,ne,nf,d⟩
end
noncomputable def eL (H₀ H:Hp):Hp:=λb=>match H b with
 |some (.tup xs)=>some (.tup xs)
 |some (.aZ o u)=>some (.aZ o u)
 |_=>H₀ b
theorem yy{H₀ H:Hp}{b:Addr}(h:H b=none):eL H₀ H b=H₀ b:=by unfold eL;rw[h]
theorem yY{H₀ H:Hp}{b:Addr}(h:eL H₀ H b=none):H₀ b=none:=by
 unfold eL at h;split at h
 . cases h
 . cases h
 . exact h
noncomputable abbrev lW (X:Cx) (H:Hp) (pn:aF) (xe:aP):Cx:={ X with H₀:=eL X.H₀ H,pn:=pn,xe:=xe }
noncomputable abbrev nj (X:Cx) (a:Addr) (oe:Obj) (pn:aF):Cx:={ X with A:=X.A.mark (some (.ref a)),calm:=false,pn:=pn++ [(a,oe)],xe:=λ_ _=>False }
section
variable {X:Cx}{pins:aF}{σ:St}{H:Hp}{s:Shared}{a:Addr}{xe:aP}
theorem Inv.XE(I:Inv X pins σ H s)(hex:X.ex= [])(xe:aP):Inv (lW X H (X.pn++pins) xe) [] σ H s:=by
 have ar:(lW X H (X.pn++pins) xe).Ok:=⟨I.ok.mod,I.ok.kind,I.ok.glob,I.ok.blt,I.ok.above,I.ok.inj,I.ok.has,I.ok.lV,I.ok.hd,I.ok.frames,I.ok.mS,I.ok.og,λb o e=>⟨(I.ok.bs b o e).1,by
  show eL X.H₀ H b=none;rw[yy (I.bs b o e).2];exact(I.ok.bs b o e).2⟩,I.ok.ia,I.ok.fH,I.ok.eP,I.ok.bP,λb hb=>by
  show eL X.H₀ H b=none;obtain⟨_,o,ho,_⟩:=I.ok.bP.mem hb;rw[yy (I.base.free b o ho (I.ok.iP b hb) λz=>I.ok.eP b z hb)];exact I.ok.iP b hb⟩
 refine⟨ar,I.os,I.bare,⟨λb o e n=>I.base.keep b o e (yY n),λb o e n=>I.base.slot b o e (yY n),λb o e n=>I.base.free b o e (yY n),I.base.there,λb xs e=>?_,λb o u e=>?_,λb ps e=>?_⟩,I.loc,I.cell,I.free,I.bo,λp hp=>I.pin p (by simpa using hp),I.ar,I.len⟩
 . have e':eL X.H₀ H b=some (.tup xs):=e
   unfold eL at e';split at e'
   . rename_i q;rw[q];exact e'
   . cases e'
   . exact I.base.aV b xs e'
 . have e':eL X.H₀ H b=some (.aZ o u):=e
   unfold eL at e';split at e'
   . cases e'
   . rename_i q;rw[q];exact e'
   . exact I.base.aE b o u e'
 . have e':eL X.H₀ H b=some (.jD ps):=e
   unfold eL at e';split at e'
   . cases e'
   . cases e'
   . exact I.base.bR b ps e'
theorem Inv.A7{pins':aF}{σs:St}{Hs:Hp}{ss:Shared}(I0:Inv X pins σs Hs ss)(hex:X.ex= [])(I:Inv (lW X Hs (X.pn++pins) xe) pins' σ H s):Inv X pins σ H s:=by
 have nex:∀b:Addr,b∉X.ex:=λb z=>by rw[hex]at z;cases z
 have lf:∀b o,X.s₀.heap.get? b=some o->X.H₀ b=none->eL X.H₀ Hs b=none:=λb o e n=>by
  rw[yy (I0.base.free b o e n (nex b))];exact n
 refine⟨I0.ok,I.os,I.bare,⟨λb o e n=>I.base.keep b o e (lf b o e n),λb o e n=>I.base.slot b o e (lf b o e n),λb o e n=>I.base.free b o e (lf b o e n),I.base.there,λb xs e=>?_,λb o u e=>?_,λb ps e=>?_⟩,I.loc,I.cell,I.free,I.bo,λp hp=>I.pin p (qI _ hp),I.ar,I.len⟩
 . refine I.base.aV b xs ?_
   show eL X.H₀ Hs b=_;unfold eL;rw[I0.base.aV b xs e]
 . refine I.base.aE b o u ?_
   show eL X.H₀ Hs b=_;unfold eL;rw[I0.base.aE b o u e]
 . refine I.base.bR b ps ?_
   show eL X.H₀ Hs b=_;obtain⟨m,em⟩:=I0.base.bR b ps e;unfold eL;rw[em];exact e
theorem Inv.XF{oe:Obj}(I:Inv X pins σ H s)(ha:s.heap.get? a=some oe)(hn:H a=none)(hL:a≠X.env.locals)(hf:a∉X.fs)(hc:∀v,oe.data≠.cell v):Inv (nj X a oe (X.pn++pins)) [] σ H s:=
 ⟨⟨I.ok.mod,I.ok.kind,I.ok.glob,I.ok.blt,I.ok.above,I.ok.inj,I.ok.has,I.ok.lV,λz=>(by cases z),I.ok.frames,I.ok.mS,I.ok.og,I.ok.bs,I.ok.ia,I.ok.fH,I.ok.eP,I.ok.bP,I.ok.iP⟩,
   I.os,I.bare,I.base,I.loc,I.cell,I.free,I.bo,λp hp=>by
    rw[jm]at hp;rcases jH.mp hp with z|z
    . exact I.pin p z
    . have e:p=(a,oe):=by simpa using z
      subst e;exact⟨ha,hn,hL,hf,hc⟩,I.ar,I.len⟩
theorem Inv.uC{oe:Obj}(ok:X.Ok)(I:Inv (nj X a oe (X.pn++pins)) [] σ H s):Inv X pins σ H s:=
 ⟨ok,I.os,I.bare,I.base,I.loc,I.cell,I.free,I.bo,λp hp=>I.pin p (by simp only[jm];exact qI _ hp),I.ar,I.len⟩
end
end L2
namespace R
open PySem PySem.Spec PyProof.Rows L2
noncomputable def zE (i:Nat)(D:RD):RD:={ nx:=λσ M=>D.nx (σ.set i none) M,rt:=D.rt,bk:=λσ M=>D.bk (σ.set i none) M,ct:=λσ M=>D.ct (σ.set i none) M }
theorem yu{K:ag}{H:Hp}{σ:bq}{σ0:L2.St}(h:aQ K H σ σ0)(i:Nat):aQ K H (σ.set i none) (σ0.set i none):=by
 refine⟨by simp[h.1],λj r' q=>?_⟩
 by_cases hj:i=j
 . subst hj
   rw[List.getElem?_set]at q;split at q
   . split at q
     . cases q
     . cases q
   . rename_i z;exact bp rfl z
 . rw[List.getElem?_set_ne hj]at q
   obtain⟨w,e1,h1⟩:=h.2 j r' q;exact⟨w,by rw[List.getElem?_set_ne hj];exact e1,h1⟩
noncomputable def refsOf:LR->Option (ao)
 | []=>some []
 | .ref a::r=>(refsOf r).map (.ref a:: ·)
 |_=>none
noncomputable def qx (K:ag)(C:Addr):RV->Option Bool
 | .ref D=>PySem.W.kitOne K (.ref C) (.ref D)
 | .ty T=>PySem.W.kitOne K (.ref C) (.type T)
 | .tup ds=>(refsOf ds).bind (PySem.W.kitAny K (.ref C))
 |_=>none
noncomputable def Ab (K:ag)(a C:Addr):LR->RM->aq->Prop:=λrs M Q=>match rs with
 | [.ref b,y]=>b=a/\(match qx K C y with|some v=>Q (.bl v) M|none=>False)
 |_=>False
theorem Ct{K:ag}{H:Hp}:∀{ds:LR} {vs:LV} {us ws:ao},refsOf ds=some ws->ae K H ds vs->Vals vs us->us=ws
 | [],vs,us,ws,e,r,v=>by
  cases e;simp only[ae]at r;subst r;cases v;rfl
 |d::ds,vs,us,ws,e,r,v=>by
  cases d with
  |ref a=>
   simp only[ae]at r;obtain⟨x,t,rfl,h1,h2⟩:=r;simp only[Rep]at h1;subst h1;cases v with
   |cons q1 q2=>
    unfold refsOf at e;cases eq:refsOf ds with
    |none=>rw[eq]at e;cases e
    |some w'=>
     rw[eq]at e;cases e;cases q1;rw[Ct eq h2 q2]
  |_=>cases e
section
variable {X:Cx}{a C:Addr}{oe:Obj}
theorem MR(hp:(a,oe)∈X.pn)(hc:oe.cls= .ref C)(hx:PySem.W.hZ X.K C=true):cV X (.builtin "isinstance") (eE X.K (Ab X.K a C)):=by
 intro pins s σ H xs us Q0 I rl h;obtain⟨rs,M,Q,rr,hv,hq,hk⟩:=h;unfold Ab at hq;split at hq
 . rename_i b y
   obtain⟨rfl,hq⟩:=hq;obtain⟨v,w,rfl,r1,r2⟩:=rr.two;obtain⟨u,u',rfl,w1,w2⟩:=vals2 rl;simp only[Rep]at r1;subst r1;cases(show u=Value.ref b from w1)
   have at_:PySem.W.eO s.heap b C:=⟨oe,(I.pin _ (qI _ hp)).1,hc⟩;cases e:qx X.K C y with
   |none=>rw[e]at hq;exact hq.elim
   |some v=>
    rw[e]at hq;have fin:∀tk,EP X pins σ Q0 (.bool v) { s with toks:=tk }:=λtk=>⟨.bl v,H,I.tok tk,rfl,hk _ M _ H hq (.refl H) hv (by simp only[Rep])⟩
    cases y with
    |ref D=>
     simp only[Rep]at r2;subst r2;cases(show u'=Value.ref D from w2)
     exact lE (PySem.W.dM hx) I.bW at_ e (λz=>nomatch z) fin
    |ty T=>
     simp only[Rep]at r2;subst r2;cases(show u'=Value.type T from w2)
     exact lE (PySem.W.dM hx) I.bW at_ e (λz=>nomatch z) fin
    |tup ds=>
     simp only[Rep]at r2;obtain⟨p,vs,rfl,hp',hr⟩:=r2;cases(show u'=Value.ref p from w2)
     obtain⟨its,vi,⟨o,h1,h2,n,h3⟩,_⟩:=I.tuple (bI.of hp');have e':(refsOf ds).bind (PySem.W.kitAny X.K (.ref C))=some v:=e;cases eq:refsOf ds with
     |none=>rw[eq]at e';cases e'
     |some ws=>
      rw[eq]at e';have:=Ct eq hr vi;subst this;obtain⟨oc,od,oda,osl⟩:=o;dsimp only at h2 h3;subst h2 h3;exact PySem.W.kia_tup (PySem.W.dM hx) I.bW at_ h1 e' (λz=>nomatch z) fin
    |_=>cases e
 . exact hq.elim
theorem Xm{x:Str}{D:Addr}{pos:Pos}(hm:X.mg x=some (.ref D))(hg:Gl X x:=by rfl)(hd:(x==("__debug__":Str))=false:=by decide):ai X (.Name x pos) (rC (.ref D)):=
 zx hm (v:=.ref D) rfl (λH=>by simp only[Rep]) hg hd
theorem NJ:bootBuiltins "ValueError" =some (.type "ValueError"):=by decide+kernel
theorem NC{pos:Pos}(hm:X.mg "ValueError" =none)(hg:Gl X "ValueError":=by rfl):ai X (.Name "ValueError" pos) (rC (.ty "ValueError")):=qq hm NJ (v:=.ty "ValueError") rfl (λH=>by simp only[Rep]) hg
end
structure As(P:Program)(w:World)(K:ag)(mg:aU)(base:Heap)(C:Addr)(k:Nat)(m:Str)(ps:ay)(sp:dm):Prop where
 ex:∃(g:Addr) (fd:FuncData),Meth K C m g/\Binds K fd ps []/\bQ P w K mg base (fN P w) k g fd ps (kY K sp)
noncomputable def pY (C:Addr)(m:Str)(t:bx)(σ:bq)(K:LR->RM->Prop):aq:=λx M=>match x with
 | .ref a=>∃fs,M a=some (.ins C fs)/\fs.lookup m=none/\t σ M λrs M2=>K (.ref a::rs) M2
 |_=>False
def E5(C:Addr)(m:Str)(sp:dm)(E:fA)(ta:aw)(t:bx):aw:=λσ M Q=>ta σ M (pY C m t σ λrs M2=>sp rs M2 Q E)
section
variable {X:Cx}{E:fA}{E0:XK}{C:Addr}{m:Str}{k:Nat}{ps:ay}{sp:dm}{o e:Expr}{es:aT}{ta:aw}{t:bx}{apos pos:Pos}
theorem T6{pl:Sem Bool}(W:Wx X E E0)(F:As X.prog X.w X.K X.mg X.base C k m ps sp)(c:bN X.K C)(hr:aI k X.A)(he:ai X o ta)(ha:cw X (e::es) t)
 (hst:starEach (e::es) X.env=(false,eval e X.env)::starEach es X.env) (hpl:(backTo pos (starEach es X.env)).any (·.1)=false)
 (ht:eval (.Call (.Attribute o m apos) (e::es) [] pos) X.env=(do
  let ov<-eval o X.env
  standAt apos.atName
  let(f,first) <-holding [ov] (getMethod ov m pl)
  callWith pos f first (backTo pos (starEach (e::es) X.env)) (backToKw pos (keywordEach [] X.env)))):
 ai X (.Call (.Attribute o m apos) (e::es) [] pos) (E5 C m sp E ta t):=by
 obtain⟨g,fd,hm,hb,F⟩:=F.ex;intro pins s σ0 H Q0 I h;obtain⟨σ,M,Q,hs,hv,ht',hk⟩:=h;refine D1 he c hm F hr hb .nil W.pass ha hst hpl ht pins s σ0 H Q0 I ⟨σ,M,_,hs,hv,ht',λrx M1 x H1 q e1 v1 r1=>?_⟩
 cases rx with
 |ref a=>
  obtain⟨fs,hm',hl,q⟩:=q;simp only[Rep]at r1;subst r1;obtain⟨ho,eo,dx,gs,rfl,hg⟩:=v1 a _ hm';refine⟨a,dx,gs,rfl,eo,sh hg hl,σ,M1,_,hs.ext e1,v1,q,λrs M2 vs H2 q2 e2 v2 r2=>?_⟩
  exact⟨.ref a::rs,M2,Q,E,by rw[jm];exact ae.cons (by simp only[Rep]) r2,v2,q2,hk.ext (e1.trans e2),W.up.ext (((Un.q9 I.base).trans e1).trans e2)⟩
 |_=>exact(show False from q).elim
noncomputable def wG (i:Nat)(Ce:Value)(C:Addr)(m:Str)(sp:dm)(ta:aw)(t:bx)(ts:Addr->bY):bY:=λD σ M=>
 ta σ M (pY C m t σ λrs M2=>sp rs M2 (λ_ M3=>D.nx σ M3) λc M'=>c=Ce/\∀a,ts a (zE i D) (σ.set i (some (.ref a))) M')
theorem VA{pl:Sem Bool}{i:Nat}{n g:Str}{G:Addr}{Ce:Value}{np hpos tpos gX:Pos}{b₀:Stmt}{suite:List Stmt}{ts:Addr->bY}(hex:X.ex= [])(hst0:X.stack=X.env::X.outer)(hf:X.env.frame=some X.env.locals)(hN:X.N.Nodup)(hi:X.N[i]? =some n)(hloc:X.env.scope.names.lookup n=some .local)
 (hm:X.mg g=some (.ref G)) (exm:PySem.W.exmOne X.K Ce (.ref G)=some true)
 (F:As X.prog X.w X.K X.mg X.base C k m ps sp) (c:bN X.K C) (hr:aI k X.A) (he:∀H pn xe,ai (lW X H pn xe) o ta) (ha:∀H pn xe,cw (lW X H pn xe) (e::es) t)
 (hh:∀a oe pn,oe.cls=Ce->gU (nj X a oe pn) (b₀::suite) (ts a)) (hgl:Gl X g) (hdb:(g==("__debug__":Str))=false)
 (hst:starEach (e::es) X.env=(false,eval e X.env)::starEach es X.env) (hpl:(backTo pos (starEach es X.env)).any (·.1)=false)
 (ht:eval (.Call (.Attribute o m apos) (e::es) [] pos) X.env=(do
  let ov<-eval o X.env
  standAt apos.atName
  let(f,first) <-holding [ov] (getMethod ov m pl)
  callWith pos f first (backTo pos (starEach (e::es) X.env)) (backToKw pos (keywordEach [] X.env))))
 (hsw:swapsWith (.Call (.Attribute o m apos) (e::es) [] pos) none gX.line X.env=pure false):
 c8 X (.Try [.Expr (.Call (.Attribute o m apos) (e::es) [] pos) gX] [.ExceptHandler (some (.Name g np)) (some n) (b₀::suite) hpos] [] [] tpos) (wG i Ce C m sp ta t ts):=by
 intro pins s σ0 H D0 I h;obtain⟨σ,M,D,hs,hv,hq0,hd⟩:=h;obtain⟨f,fd,hmf,hbf,F⟩:=F.ex
 let E:fA:=λc M'=>c=Ce/\∀a,ts a (zE i D) (σ.set i (some (.ref a))) M'
 let E0:XK:=λc _ H'=>∃M',E c M'/\Ext H H'/\View X.K H' M'
 let xe:aP:=λe s'=>∃H' a g,e= .ref a/\Inv X pins σ0 H' s'/\c7 X pins g/\fz g s'.heap H' a Ce/\(∀b o,g.get? b=some o->∃u,s'.heap.get? b=some u)/\∃M',E Ce M'/\Ext H H'/\View X.K H' M'
 have I':Inv (lW X H (X.pn++pins) xe) [] σ0 H s:=I.XE hex xe;refine wpAny_Try_except (eM (wpAny_execs_cons (Q:=λfl s1=>∃σ' H',fl= .next/\Inv X pins σ' H' s1/\D0.nx σ' H') (E:=xe) (wpAny_Expr_any (PySem.W.methodCall_KW (pl:=pl) (aB (he H (X.pn++pins) xe [] s σ0 H (λx H1=>∃rx M1,Rep X.K H1 rx x/\Ext H H1/\View X.K H1 M1/\pY C m t σ (λrs M2=>sp rs M2 (λ_ M3=>D.nx σ M3) E) rx M1) I' ⟨σ,M,_,hs,hv,hq0,λrx M1 x H1 q e1 v1 r1=>⟨rx,M1,r1,e1,v1,q⟩⟩) λu s1 h1=>?call) ht) I'.quiet hsw)) (λf s1 h1=>?_) λe s1 h1=>?_)
 case call=>
  obtain⟨x,H1,I1,rx0,rx,M1,r1,e1,v1,q⟩:=h1;cases rx with
  |ref a=>
   obtain⟨fs,hm',hl,q⟩:=q;simp only[Rep]at r1;subst r1;obtain⟨ho,eo,dx,gs,rfl,hg⟩:=v1 a _ hm';obtain rfl:u=Value.ref a:=rx0;refine yz (X:=lW X H (X.pn++pins) xe) I1 eo c hmf (sh hg hl) ?_;refine tZ (first:=[.ref a]) (h₀:=X.base) I1.ok.mod.kJ hmf.kp (aB (ha H (X.pn++pins) xe pos [] s1 σ0 H1 (λvs H2=>kY X.K sp (.ref a::vs) H2 (λv H3=>D0.nx σ0 H3) E0) I1 ⟨σ,M1,_,hs.ext e1,v1,q,λrs M2 vs H2 q2 e2 v2 r2=>⟨.ref a::rs,M2,_,E,ae.cons (by simp only[Rep]) r2,v2,q2,(λrv M3 v H3 q3 e3 v3 r3=>hd.nx _ M3 _ H3 q3 ((e1.trans e2).trans e3) v3 (hs.ext ((e1.trans e2).trans e3)):gH X.K H2 _ λv H3=>D0.nx σ0 H3),(λc M3 H3 q3 e3 v3=>⟨M3,q3,(e1.trans e2).trans e3,v3⟩:lU X.K H2 E E0)⟩⟩) λus s2 h2=>?_) hst hpl
   obtain⟨vs,H2,I2,r,q⟩:=h2;refine⟨I2.bW,?_⟩;have r':Vals (V.ref a::vs) (Value.ref a::us):=.cons rfl r;have hl:(Value.ref a::us).length=ps.length:=by rw[<-r'.length];exact F.len _ _ _ _ q
   have bd:=hbf s2 (.ref a::us) I2.bW (by rw[jm];exact hl)
   rw[jm]at bd;refine wpAny_call (codeAny_mono (F.run X.A X.stack s2 H2 ⟨.ref a::us,[]⟩ (.ref a::us) (.ref a::vs) _ E0 hr I2.n9 bd r' q) λr s' hq=>?_)
   cases r with
   |error e=>
    obtain⟨a,cls,H'',rfl,os,bare,un,ar,fl,M',q,e1,v1⟩:=hq;obtain⟨rfl,q2⟩:=id q;have I3:=Inv.A7 I hex I2;exact⟨H'',a,s2.heap,rfl,I3.iF (ch:=[]) os un ar bare (λb z=>bp z (by simp)),I3.ahead hex,fl,λb o e=>un.there b o e lA,M',q,e1,v1⟩
   |ok fl=>
    cases fl with
    |ret u=>
     obtain⟨v,H3,I3,r2,q2⟩:=I2.after hq;exact wpAny_execs_nil ⟨_,H3,rfl,Inv.A7 I hex I3,q2⟩
    |next=>exact hq.elim
    |brk=>exact hq.elim
    |cont=>exact hq.elim
  |_=>exact(show False from q).elim
 . obtain⟨σ',H',rfl,I',q⟩:=h1
   exact wpAny_execs_nil ⟨σ',H',I',q⟩
 . obtain⟨H1,a,g0,rfl,I1,ah,fl,hgs,M1,⟨_,q⟩,e1,v1⟩:=h1
   refine QG I1 hex hst0 hf ah fl hgs λh2 I2 fl2 hgs2=>?_
   have pinOk:∀{σ2:L2.St} {s2:Shared},Inv X pins σ2 H1 s2->fz g0 s2.heap H1 a Ce->∃oe,s2.heap.get? a=some oe/\oe.cls=Ce/\Inv (nj X a oe (X.pn++pins)) [] σ2 H1 s2:=λ{σ2 s2} J f=>by
    obtain⟨oe,vs,T,oT,ts',a0,f1,f2,f3,f4,_⟩:=f.ex;refine⟨oe,f1,f2,J.XF f1 f.un (d9 (ah.ne f.new).2.2.2) (λz=>?_) λv z=>?_⟩
    . obtain⟨_,o',e',nf⟩:=J.bP.mem z
      rw[f1]at e';cases e';exact nf _ f4
    . rw[f4]at z;cases z
   obtain⟨oe,ha',hcls,I3⟩:=pinOk I2 fl2;refine wpAny_handleBy_cons (codeAny_handlers_test (js (X:=nj X a oe (X.pn++pins)) I3 hgl hm ?_ hdb)) (by intro z;cases z)
   have LT:PySem.W.Looks (model X.prog X.w) h2 (typeOf (.ref a)) Ce:=hcls ▸ (PySem.W.Looks.ld ha').andThen .now;obtain⟨h1',g1',d1',t1',o1'⟩:=s1;refine(PySem.W.exm_one I3.bW LT exm).at ?_;show codeAny _ _ (.handlers (.ref a) [.ExceptHandler none (some n) (b₀::suite) hpos] X.env) _ _;refine codeAny_handlers_suite_as (QH I2 hex ah fl2 hgs2 λh5 I5 fl5 _=>?_)
   obtain⟨oe5,ha5,hcls5,I6⟩:=pinOk I5 fl5;refine yO (X:=nj X a oe5 (X.pn++pins)) (v:=.ref a) I6 hN hi (.inl hloc) rfl (λs6 I7=>?_) (.inr hloc)
   have hd1:=hd.ext e1;refine eM (hh a oe5 _ hcls5 [] s6 _ H1 { nx:=λσ H=>D0.nx (σ.set i none) H,rt:=D0.rt,bk:=λσ H=>D0.bk (σ.set i none) H,ct:=λσ H=>D0.ct (σ.set i none) H } I7
    ⟨_,M1,zE i D,aQ.set (hs.ext e1) (r:=.ref a) (by simp only[Rep]) i,v1,q a,
     ⟨λσ M σ0 H' q e v r=>hd1.nx _ M _ H' q e v (yu r i),hd1.rt,λσ M σ0 H' q e v r=>hd1.bk _ M _ H' q e v (yu r i),λσ M σ0 H' q e v r=>hd1.ct _ M _ H' q e v (yu r i)⟩⟩) (λf s7 h7=>?_) λ_ _ z=>z.elim
   cases f with
   |next=>
    obtain⟨σ',H',I',q⟩:=h7;exact name_goes (Inv.uC I.ok I') hN hi hloc λs' J=>⟨_,H',J,q⟩
   |brk=>
    obtain⟨σ',H',I',q⟩:=h7;exact name_goes (Inv.uC I.ok I') hN hi hloc λs' J=>⟨_,H',J,q⟩
   |cont=>
    obtain⟨σ',H',I',q⟩:=h7;exact name_goes (Inv.uC I.ok I') hN hi hloc λs' J=>⟨_,H',J,q⟩
   |ret u=>
    obtain⟨v,σ',H',I',r,q⟩:=h7;exact name_goes (Inv.uC I.ok I') hN hi hloc λs' J=>⟨v,_,H',J,r,q⟩
end
inductive TX where
 |en
 |se (a:T) (r:TX)
 |rz (t:T) (c:Nat) (a:T) (r:TX)
 |as (i f:Nat) (o a:T) (r:TX)
 |re (f:Nat) (o a:T)
 |ty (f:Nat) (o a:T) (c n j:Nat) (bs:List Bool) (r:TX)
structure XD where
 kind:Nat
 cls:Nat
 name:Str
 ps:ay
 N:ay
 xb:TX
structure XI where
 xd:List XD
 xc:ay
 XC:Nat->Addr
noncomputable def m6 (Γ:G)(I:XI)(F:Nat->dm)(E:fA)(f:Nat)(o a:T):aw:=match I.xd[f]? with
 |some d=>E5 (Γ.C d.cls) d.name (F f) E (tr Γ o).E (tr Γ a).A
 |none=>fR
noncomputable def xQ (Γ:G)(I:XI)(F:Nat->dm)(f:Nat)(o a:T)(c n j:Nat)(bs:List Bool):bY:=match I.xd[f]? with
 |some d=>wG n (.ref (I.XC c)) (Γ.C d.cls) d.name (F f) (tr Γ o).E (tr Γ a).A λa D σ M=>σ[n]? =some (some (.ref a))/\D.nx (σ.set j (some (.ls (bs.map RV.bl)))) M
 |none=>λ_ _ _=>False
noncomputable def fu (Γ:G)(I:XI)(F:Nat->dm)(E:fA):TX->bY
 | .en=>k8
 | .se a r=>gz (tr Γ a).S (fu Γ I F E r)
 | .rz t c a r=>gz (pv (tr Γ t).T (gz (wk E (I.XC c) (tr Γ a).A) k8) k8) (fu Γ I F E r)
 | .as i f o a r=>gz (tH i (m6 Γ I F E f o a)) (fu Γ I F E r)
 | .re f o a=>gz (wR (m6 Γ I F E f o a)) k8
 | .ty f o a c n j bs r=>gz (xQ Γ I F f o a c n j bs) (fu Γ I F E r)
noncomputable def xS (mg:aU)(sc:Scope):Expr->RV->Prop:=λy v=>∃nm p,y= .Name nm p/\eQ sc nm=true/\((∃D,mg nm=some (.ref D)/\v= .ref D)∨(nm= "ValueError"/\mg nm=none/\v= .ty "ValueError"))
def Aj(mg:aU)(sc:Scope):aT->LR->Prop
 | [],vs=>vs= []
 |y::ys,vs=>∃v r,vs=v::r/\xS mg sc y v/\cU y=true/\Aj mg sc ys r
def AJ(mg:aU)(sc:Scope)(y:Expr)(v:RV):Prop:=xS mg sc y v∨∃ys i p vs,y= .Tuple ys i p/\v= .tup vs/\Aj mg sc ys vs/\vs.length<=sizeLine
noncomputable def tP (K:ag)(mg:aU)(sc:Scope)(C:Addr)(en:Str):List Bool->aT->Prop
 | [],xs=>xs= []
 |b::bs,xs=>∃p q ep y r v,xs= .Call (.Name "isinstance" p) [.Name en ep,y] [] q::r/\AJ mg sc y v/\cU y=true/\qx K C v=some b/\tP K mg sc C en bs r
noncomputable def gF (K:ag)(mg:aU)(S:SI)(I:XI)(N:ay)(sc:Scope):TX->List Stmt->Prop
 | .en,xs=>xs= []
 | .se a r,xs=>∃s rest,xs=s::rest/\mt S true N sc a (.s s)=true/\gF K mg S I N sc r rest
 | .rz t c a r,xs=>∃x nm np cpos rp ip e es rest,xs= .If x [.Raise (some (.Call (.Name nm np) (e::es) [] cpos)) none rp] [] ip::rest/\I.xc[c]? =some nm/\eQ sc nm=true/\mt S true N sc t (.t x)=true/\mt S true N sc a (.a (e::es))=true/\gF K mg S I N sc r rest
 | .as i f o a r,xs=>∃y py d x m ap e es p ps rest,xs= .Assign [.Name y py] (.Call (.Attribute x m ap) (e::es) [] p) ps::rest/\N[i]? =some y/\I.xd[f]? =some d/\d.kind=1/\d.name=m/\fU x=false/\gc ap p=true/\(e::es).length<29/\mt S true N sc o (.e x)=true/\mt S true N sc a (.a (e::es))=true/\gF K mg S I N sc r rest
 | .re f o a,xs=>∃d x m ap e es p ps,xs= [.Return (some (.Call (.Attribute x m ap) (e::es) [] p)) ps]/\I.xd[f]? =some d/\d.kind=1/\d.name=m/\fU x=false/\gc ap p=true/\(e::es).length<29/\mt S true N sc o (.e x)=true/\mt S true N sc a (.a (e::es))=true
 | .ty f o a c n j bs r,xs=>∃d x m ap e es p sp g np en hp tp y py ks lp ps G rest,xs= .Try [.Expr (.Call (.Attribute x m ap) (e::es) [] p) sp] [.ExceptHandler (some (.Name g np)) (some en) [.Assign [.Name y py] (.List ks lp) ps] hp] [] [] tp::rest/\I.xd[f]? =some d/\d.kind=1/\d.name=m/\fU x=false/\gc ap p=true/\(e::es).length<29/\mt S true N sc o (.e x)=true/\mt S true N sc a (.a (e::es))=true/\
  N[n]? =some en/\sc.names.lookup en=some .local/\N[j]? =some y/\sc.names.lookup y=some .local/\eQ sc g=true/\mg g=some (.ref G)/\PySem.W.exmOne K (.ref (I.XC c)) (.ref G)=some true/\PySem.W.hZ K (I.XC c)=true/\eQ sc "isinstance" =true/\mg "isinstance" =none/\bs.length<100/\tP K mg sc (I.XC c) en bs ks/\gF K mg S I N sc r rest
section
variable {X:Cx}
theorem ai.cg{e:Expr}{t:aw}(h:ai X.cg e t):ai X e t:=PE.cg h
theorem cy.cg{e:Expr}{t:c9}(h:cy X.cg e t):cy X e t:=PT.cg h
theorem cw.cg{es:aT}{t:bx}(h:cw X.cg es t):cw X es t:=λpos pins s σ H Q I hw=>
 eM (h pos pins s σ H Q (I.wish _) hw) (λ_ _ ⟨v,H',I',r,q⟩=>⟨v,H',I'.bu,r,q⟩) λ_ _ z=>False.elim z
end
structure x9(P:Program)(w:World)(K:ag)(mg:aU)(base:Heap)(Γ:G)(I:XI)(F:Nat->dm)(k:Nat):Prop where
 me:∀(i:Nat) d,I.xd[i]? =some d->d.kind=1->bN K (Γ.C d.cls)/\As P w K mg base (Γ.C d.cls) k d.name d.ps (F i)
 xc:∀(i:Nat) x,I.xc[i]? =some x->mg x=some (.ref (I.XC i))/\PySem.W.excIn K (I.XC i) [.type "ValueError",.type "Exception",.type "BaseException",.type "object"] "ValueError.__new__" =true
section
variable {Γ:G}{I:XI}{F:Nat->dm}{E:fA}{E0:XK}{k:Nat}{N:ay}{sc:Scope}{X:Cx}
theorem FQ(O:eI Γ k true N sc X.cg){H:Hp}{pn:aF}{xe:aP}:eI Γ k true N sc (lW X H pn xe).cg:=⟨O.hN,O.lz,O.gl,O.calm,O.room,O.fn,λh1 h2=>have L:=O.lm h1 h2;⟨L.q,L.cc,L.bt,L.gp⟩⟩
theorem ET(O:eI Γ k true N sc X.cg)(W:Wd X.prog X.w X.K X.mg X.base Γ k)(W2:x9 X.prog X.w X.K X.mg X.base Γ I F k)(wx:Wx X E E0){f:Nat}{o a:T}{d:XD}{x e:Expr}{es:aT}{ap p:Pos}(h1:I.xd[f]? =some d)(h2:d.kind=1)(h3:fU x=false)(h4:gc ap p=true)(h5:(e::es).length<29)(h6:mt Γ.S true N sc o (.e x)=true)(h7:mt Γ.S true N sc a (.a (e::es))=true):
 ai X (.Call (.Attribute x d.name ap) (e::es) [] p) (m6 Γ I F E f o a):=by
 have ho:=iX h7;have ho':=ho;rw[eF,bh]at ho;obtain⟨c,M1⟩:=W2.me f d h1 h2;unfold m6;rw[h1];exact T6 wx M1 c O.room (ai.cg (sound o O W h6)) (cw.cg (sound a O W h7)) (eK ho.1) (kU ho.2) (vR h3 ho' h5 h4)
theorem Gq{Xh:Cx}(gl:∀x,sc.names.lookup x=some .globalImplicit->Gl Xh x){y:Expr}{v:RV}(h:xS Xh.mg sc y v):ai Xh y (rC v):=by
 obtain⟨nm,p,rfl,h1,h2⟩:=h;obtain⟨g1,g2⟩:=fJ h1;rcases h2 with⟨D,hm,rfl⟩|⟨rfl,hm,rfl⟩
 . exact Xm hm (gl _ g1) g2
 . exact NC hm (gl _ g1)
theorem Fd{Xh:Cx}(gl:∀x,sc.names.lookup x=some .globalImplicit->Gl Xh x):∀{ys:aT} {vs:LR},Aj Xh.mg sc ys vs->cw Xh ys (λ_ M Q=>Q vs M)
 | [],vs,h=>by cases h;exact pG
 |y::ys,vs,h=>by
  obtain⟨v,r,rfl,h1,h2,h3⟩:=h;exact PA.imp (kZ (Gq gl h1) (Fd gl h3) (eK h2)) λσ0 H Q0 h=>h
theorem Ve{Xh:Cx}(gl:∀x,sc.names.lookup x=some .globalImplicit->Gl Xh x){y:Expr}{v:RV}(h:AJ Xh.mg sc y v):ai Xh y (rC v):=by
 rcases h with h|⟨ys,i,p,vs,rfl,rfl,h,hl⟩
 . exact Gq gl h
 . refine PE.imp (J8 (Fd gl h)) λσ0 H Q0 h=>?_
   obtain⟨σ,M,Q,hs,hv,hq,hk⟩:=h;exact⟨σ,M,Q,hs,hv,⟨hl,hq⟩,hk⟩
theorem FN{Xh:Cx}{a C:Addr}{oe:Obj}{n:Nat}{en:Str}(gl:∀x,sc.names.lookup x=some .globalImplicit->Gl Xh x)(hp:(a,oe)∈Xh.pn)(hc:oe.cls= .ref C)(hx:PySem.W.hZ Xh.K C=true)(hb:Xh.mg "isinstance" =none)(gi:eQ sc "isinstance" =true)
 (hv:∀pos,ai Xh (.Name en pos) (jz n)):∀{bs:List Bool} {ks:aT},tP Xh.K Xh.mg sc C en bs ks->cw Xh ks (λσ M Q=>σ[n]? =some (some (.ref a))/\Q (bs.map RV.bl) M)
 | [],ks,h=>by
  cases h;exact PA.imp pG λσ0 H Q0 h=>by
   obtain⟨σ,M,Q,hs,hv,⟨_,hq⟩,hk⟩:=h;exact⟨σ,M,Q,hs,hv,hq,hk⟩
 |b::bs,ks,h=>by
  obtain⟨p,q,ep,y,r,v,rfl,h1,h2,h3,h4⟩:=h;obtain⟨g1,g2⟩:=fJ gi;have e1:ai Xh (.Call (.Name "isinstance" p) [.Name en ep,y] [] q) (k9 (Ab Xh.K a C) (mC (jz n) (mC (rC v) jA))):=
   mq (MR hp hc hx) hb Cc (kZ (hv ep) (kZ (Ve gl h1) pG (eK h2)) (eK rfl)) (gl _ g1) ⋯ g2 (eK rfl) (kU (by rw[eF,h2];rfl))
  refine PA.imp (kZ e1 (FN gl hp hc hx hb gi hv h4) (eK rfl)) λσ0 H Q0 h=>?_
  obtain⟨σ,M,Q,hs,hV,⟨hn,hq⟩,hk⟩:=h;refine⟨σ,M,Q,hs,hV,?_,hk⟩;unfold mC k9 jz;dsimp only;rw[hn];exact⟨rfl,by rw[h3];exact⟨rfl,hq⟩⟩
theorem sL:∀(b:TX) {xs:List Stmt},eI Γ k true N sc X.cg->Wd X.prog X.w X.K X.mg X.base Γ k->x9 X.prog X.w X.K X.mg X.base Γ I F k->Wx X E E0->Throws X E0->X.calm=true->X.ex= []->X.stack=X.env::X.outer->X.env.frame=some X.env.locals->gF X.K X.mg Γ.S I N sc b xs->gU X xs (fu Γ I F E b)
 | .en,xs,O,W,W2,wx,th,hc,_,_,_,h=>by
  cases h;exact qD
 | .se a r,xs,O,W,W2,wx,th,hc,x1,x2,x3,h=>by
  obtain⟨s,rest,rfl,h1,h2⟩:=h;exact mw (c8.cg (sound a O W h1)) (sL r O W W2 wx th hc x1 x2 x3 h2)
 | .rz t c a r,xs,O,W,W2,wx,th,hc,x1,x2,x3,h=>by
  obtain⟨x,nm,np,cpos,rp,ip,e,es,rest,rfl,h1,h2,h3,h4,h5⟩:=h;obtain⟨m1,m2⟩:=W2.xc c nm h1;obtain⟨g1,g2⟩:=fJ h2;have ho:=iX h4;rw[eF,bh]at ho;exact mw (Kv (cy.cg (sound t O W h3)) (mw (SQ wx th PySem.F.excBase_ValueError ⋯ PySem.F.excBase_ValueError m2 hc m1 (cw.cg (sound a O W h4)) (O.gl _ g1) g2 (eK ho.1) (kU ho.2)) qD) qD) (sL r O W W2 wx th hc x1 x2 x3 h5)
 | .as i f o a r,xs,O,W,W2,wx,th,hc,x1,x2,x3,h=>by
  obtain⟨y,py,d,x,m,ap,e,es,p,ps,rest,rfl,h1,h2,h3,rfl,h4,h5,h6,h7,h8,h9⟩:=h;obtain⟨hsc,nd,hl,hf,_⟩:=O.fn rfl;exact mw (sset i (ET O W W2 wx h2 h3 h4 h5 h6 h7 h8) (by rw[show X.N=N from O.hN];exact nd) (by rw[show X.N=N from O.hN];exact h1) (by rw[show X.env.scope=sc from hsc];exact hl y (hW h1)) (kM rfl rfl) (.inl (hf y))) (sL r O W W2 wx th hc x1 x2 x3 h9)
 | .re f o a,xs,O,W,W2,wx,th,hc,x1,x2,x3,h=>by
  obtain⟨d,x,m,ap,e,es,p,ps,rfl,h2,h3,rfl,h4,h5,h6,h7,h8⟩:=h;exact mw (J3 (ET O W W2 wx h2 h3 h4 h5 h6 h7 h8)) qD
 | .ty f o a c n j bs r,xs,O,W,W2,wx,th,hc,x1,x2,x3,h=>by
  obtain⟨d,x,m,ap,e,es,p,sp,g,np,en,hp,tp,y,py,ks,lp,ps,G,rest,rfl,h2,h3,rfl,h4,h5,h6,h7,h8,n1,n2,j1,j2,g0,mG,xm,xk,gi,mi,bl,hk,hr⟩:=h;obtain⟨hsc,nd,hl,hf,_⟩:=O.fn rfl;obtain⟨g1,g2⟩:=fJ g0;have ho:=iX h8;have ho':=ho;rw[eF,bh]at ho;obtain⟨c1,M1⟩:=W2.me f d h2 h3;refine mw ?_ (sL r O W W2 wx th hc x1 x2 x3 hr);unfold xQ;rw[h2];refine VA x1 x2 x3 (by rw[show X.N=N from O.hN];exact nd) (by rw[show X.N=N from O.hN];exact n1) (by rw[show X.env.scope=sc from hsc];exact n2) mG xm M1 c1 O.room (λH pn xe=>ai.cg (sound o (FQ O) W h7)) (λH pn xe=>cw.cg (sound a (FQ O) W h8)) (λa oe pn hcl=>?_) (O.gl _ g1) g2 (eK ho.1) (kU ho.2) (vR h4 ho' h6 h5) (kM rfl rfl)
  . have lz:=O.lz en (hW n1)
    have dd:=Fc lz.2;refine eX.imp (mw (sset j (Kb (FN (Xh:=nj X a oe pn) (n:=n) (sc:=sc) (λx hx=>O.gl x hx) (gA _ (.head _)) hcl xk mi gi (λpos=>rv n (by show X.N[n]? =_;rw[show X.N=N from O.hN];exact n1) lz.1 dd.1 dd.2) hk)) (by show X.N.Nodup;rw[show X.N=N from O.hN];exact nd) (by show X.N[j]? =_;rw[show X.N=N from O.hN];exact j1) (by show Loc X.env.scope y;rw[show X.env.scope=sc from hsc];exact hl y (hW j1)) (kM rfl rfl) (.inl (hf y))) qD) λD0 σ0 H h=>?_
    obtain⟨σ,M,D,hs,hv,⟨hn,hq⟩,hd⟩:=h;exact⟨σ,M,D,hs,hv,⟨hn,by rw[cb];exact c6 (m4 bl) ⋯,hq⟩,hd⟩
end
structure f9 where
 p:m9
 I:XI
 xt:List (Nat×Nat)
noncomputable def J6 (Γ:G)(I:XI)(F:Nat->dm)(d:XD):dm:=λrs M Q E=>rs.length=d.ps.length/\fu Γ I F E d.xb { nx:=λ_ M'=>Q .au M',rt:=Q } (fQ d.N rs) M
def wz(x:f9)(f f':Nat->bE)(F:Nat->dm)(i:Nat):dm:=match x.I.xd[i]? with
 |some d=>J6 (x.p.G f f') x.I F d
 |none=>λ_ _ _ _=>False
noncomputable def sY (x:f9)(f f':Nat->bE)(F:Nat->dm)(i:Nat):bE:=match x.xt.lookup i with
 |some j=>λrs M Q=>wz x f f' F j rs M Q λ_ _=>False
 |none=>Fj x.p f f' i
noncomputable def iz (x:f9):Nat->((Nat->bE)×(Nat->bE))×(Nat->dm)
 |0=>((λ_ _ _ _=>False,λ_ _ _ _=>False),λ_ _ _ _ _=>False)
 |n+1=>((sY x (iz x n).1.1 (iz x n).1.2 (iz x n).2,(iz x n).1.1),wz x (iz x n).1.1 (iz x n).1.2 (iz x n).2)
def aD(x:f9)(n:Nat):Nat->bE:=(iz x n).1.1
def gj(x:f9)(n:Nat):Nat->dm:=(iz x n).2
noncomputable def f9.Gn (x:f9)(n:Nat):R.G:=x.p.G (aD x n) (iz x n).1.2
theorem CG{x:f9}{n i:Nat}{d:FD}(h0:x.xt.lookup i=none)(h:x.p.S.fd[i]? =some d):aD x (n+1) i=J7 (x.Gn n) d:=by
 show sY x _ _ _ i=_;unfold sY Fj;rw[h0,h];rfl
theorem E1{x:f9}{n i j:Nat}(h0:x.xt.lookup i=some j){rs:LR}{M:RM}{Q:aq}:aD x (n+1) i rs M Q=gj x (n+1) j rs M Q λ_ _=>False:=by
 show sY x _ _ _ i rs M Q=_;unfold sY;rw[h0];rfl
theorem CH{x:f9}{n i:Nat}{d:XD}(h:x.I.xd[i]? =some d):gj x (n+1) i=J6 (x.Gn n) x.I (gj x n) d:=by
 show wz x _ _ _ i=_;unfold wz;rw[h];rfl
structure AK(K:ag)(mg:aU)(C:Nat->Addr)(kind cls:Nat)(name:Str)(ps:ay)(g:Addr)(fd:FuncData):Prop where
 kp:PySem.W.keepIn K (.ref g)=true
 bd:Binds K fd ps []
 k0:kind=0->mg name=some (.ref g)
 k1:kind=1->bN K (C cls)/\Meth K (C cls) name g
 k2:kind=2->Mk K (C cls) g
structure mL(K:ag)(mg:aU)(S:SI)(I:XI)(C:Nat->Addr)(d:XD)(g:Addr)(fd:FuncData):Prop where
 h:AK K mg C d.kind d.cls d.name d.ps g fd
 ln:d.N≠S.ln
 ex:∃(qual:Str) (st:Stmt),m7 K d.name qual st g fd/\kN d.N d.ps (bK st)/\v9 d.N (bK st)/\gF K mg S I d.N (bK st) d.xb (fh st)
structure pP(P:Program)(w:World)(K:ag)(mg:aU)(x:f9):Prop where
 bl:∀y∈x.p.S.bl,mg y=none
 gi:∀y i,x.p.S.gi.lookup y=some i->xu mg y i
 gt:∀y l,x.p.S.gt.lookup y=some l->pH K mg y l
 tb:∀y∈x.p.S.tb,KTab P w K mg y (x.p.tb y)
 tt:∀y l,x.p.S.tt.lookup y=some l->mz P w K mg y l
 cl:∀(i:Nat) c,x.p.S.cl[i]? =some c->bN K (x.p.C i)/\mg c=some (.ref (x.p.C i))
 fs:∀c f,(c,f)∈x.p.S.fs->bN K (x.p.C c)/\bb K (x.p.C c) f
 fns:∀(i:Nat) d,x.p.S.fd[i]? =some d->x.xt.lookup i=none->∃g fd,jn K mg x.p.S x.p.C x.p.lP d g fd
 ua:∀(i:Nat) d,x.I.xd[i]? =some d->∃g fd,mL K mg x.p.S x.I x.p.C d g fd
 xR:∀(i:Nat) d j,x.p.S.fd[i]? =some d->x.xt.lookup i=some j->∃e,x.I.xd[j]? =some e/\d.kind=e.kind/\d.cls=e.cls/\d.name=e.name/\d.ps=e.ps
 xc:∀(i:Nat) y,x.I.xc[i]? =some y->mg y=some (.ref (x.I.XC i))/\PySem.W.excIn K (x.I.XC i) [.type "ValueError",.type "Exception",.type "BaseException",.type "object"] "ValueError.__new__" =true
 lm:∀(i:Nat) d,x.p.S.fd[i]? =some d->d.N=x.p.S.ln->mainGlobals≠x.p.lP/\∀h:Heap,K.In h->h.BuiltinsAt mg x.p.lP
 cv:∀q∈x.p.cv,∃d,x.p.S.fd[q.2]? =some d/\d.kind=0/\mg d.name=some (.ref q.1)
section
variable {P:Program}{w:World}{K:ag}{mg:aU}{x:f9}{base:Heap}
theorem US{k:Nat}{g:Addr}{fd:FuncData}{ps:ay}{sp:dm}(F:bQ P w K mg base (fN P w) k g fd ps (kY K sp)):bQ P w K mg base eG k g fd ps (eV K λrs M Q=>sp rs M Q λ_ _=>False) where
 len:=λvs H Q E h=>by
  obtain⟨rs,M,Q',h1,h2,h3,h4⟩:=h;exact F.len vs H Q (λ_ _ _=>False) ⟨rs,M,Q',_,h1,h2,h3,h4,λ_ _ _ z=>z.elim⟩
 run:=λA outer s H args us vs Q E hr e0 hb hv h=>by
  obtain⟨rs,M,Q',h1,h2,h3,h4⟩:=h;refine codeAny_mono (F.run A outer s H args us vs Q (λ_ _ _=>False) hr e0 hb hv ⟨rs,M,Q',_,h1,h2,h3,h4,λ_ _ _ z=>z.elim⟩) λr s' hq=>?_
  cases r with
  |error e=>obtain⟨_,_,_,_,_,_,_,_,_,z⟩:=hq;exact z.elim
  |ok fl=>cases fl<;>exact hq
theorem Py{k:Nat}{g:Addr}{fd:FuncData}{ps:ay}:bQ P w K mg base (fN P w) k g fd ps (kY K λ_ _ _ _=>False) where
 len:=λvs H Q E h=>by obtain⟨rs,M,Q',E',_,_,h,_⟩:=h;exact h.elim
 run:=λA outer s H args us vs Q E _ _ _ _ h=>by obtain⟨rs,M,Q',E',_,_,h,_⟩:=h;exact h.elim
def At(K:ag)(mg:aU)(x:f9)(i:Nat)(d:FD)(g:Addr)(fd:FuncData):Prop:=(x.xt.lookup i=none/\jn K mg x.p.S x.p.C x.p.lP d g fd)∨∃j e,x.xt.lookup i=some j/\x.I.xd[j]? =some e/\(d.kind=e.kind/\d.cls=e.cls/\d.name=e.name/\d.ps=e.ps)/\mL K mg x.p.S x.I x.p.C e g fd
theorem pP.at_(H:pP P w K mg x){i:Nat}{d:FD}(e:x.p.S.fd[i]? =some d):∃g fd,At K mg x i d g fd:=by
 cases h:x.xt.lookup i with
 |none=>obtain⟨g,fd,F⟩:=H.fns i d e h;exact⟨g,fd,.inl ⟨h,F⟩⟩
 |some j=>
  obtain⟨d',e1,e2⟩:=H.xR i d j e h;obtain⟨g,fd,F⟩:=H.ua j d' e1;exact⟨g,fd,.inr ⟨j,d',h,e1,e2,F⟩⟩
theorem At.g{i:Nat}{d:FD}{g:Addr}{fd:FuncData}(h:At K mg x i d g fd):AK K mg x.p.C d.kind d.cls d.name d.ps g fd:=by
 rcases h with⟨_,F⟩|⟨j,e,_,_,⟨h1,h2,h3,h4⟩,F⟩
 . obtain⟨q,st,_,F1,_⟩:=F.ex
   exact⟨F1.kp,F.bd,F.k0,F.k1,F.k2⟩
 . rw[h1,h2,h3,h4];exact F.h
theorem SW{n:Nat}(H:pP P w K mg x)(L:∀(i:Nat) d g fd,x.p.S.fd[i]? =some d->At K mg x i d g fd->bQ P w K mg base eG (n+1) g fd d.ps (eV K (aD x n i))/\bQ P w K mg base eG n g fd d.ps (eV K ((iz x n).1.2 i))):Wd P w K mg base (x.Gn n) (n+1) where
 bl:=H.bl
 gi:=H.gi
 gt:=H.gt
 tb:=H.tb
 tt:=H.tt
 cl:=H.cl
 fs:=H.fs
 fn:=λi d e hk=>by
  obtain⟨g,fd,F⟩:=H.at_ e;exact⟨g,fd,F.g.k0 hk,F.g.kp,F.g.bd,(L i d g fd e F).1⟩
 me:=λi d e hk=>by
  obtain⟨g,fd,F⟩:=H.at_ e;exact⟨(F.g.k1 hk).1,⟨g,fd,(F.g.k1 hk).2,F.g.bd,(L i d g fd e F).1⟩⟩
 kH:=λi d e hk=>by
  obtain⟨g,fd,F⟩:=H.at_ e;exact⟨n,ba _,⟨g,fd,F.g.k2 hk,F.g.bd,(L i d g fd e F).2⟩⟩
 gI:=λq hq=>by
  obtain⟨q0,h0,rfl⟩:=dH.mp hq;obtain⟨d,e,hk,hm⟩:=H.cv q0 h0;obtain⟨g,fd,F⟩:=H.at_ e;have:=(F.g.k0 hk).symm.trans hm;cases this;exact⟨fd,d.ps,F.g.kp,F.g.bd,(L q0.2 d _ fd e F).1⟩
theorem EB{CX:gC}{n:Nat}{N ps:ay}{st:Stmt}{g:Addr}{cdv:Value}{A:Around}{outer:List Env}{s:Shared}{H0:Hp}{E:XK}{qual:Str}(S1:kN N ps (bK st))(N1:v9 N (bK st))(hr:aI (n+1) (A.deeper (envOfC qual (bK st) s.heap.objs.size g cdv)))
 (hl:N=x.p.S.ln->AM (x.Gn n) (gh CX P w K mg base N qual (bK st) g cdv A outer s H0 E).cg):eI (x.Gn n) (n+1) true N (bK st) (gh CX P w K mg base N qual (bK st) g cdv A outer s H0 E).cg:=by
 refine⟨rfl,λy hy=>⟨?_,?_⟩,λy h=>h,rfl,hr,λ_=>⟨rfl,N1.nd,N1.loc,λ_=>rfl,PassesOwn.never,?_,λy=>rfl⟩,λ_ hN=>hl hN⟩
 . exact(N1.loc y hy).elim .inl λz=>.inr (.inl z)
 . have:=N1.kD y hy
   unfold kD;rw[this.1,this.2];rfl
 . show(if(bK st).kind.isAnnotationScope then ScopeKind.function else(bK st).kind)=_
   rw[S1.kind];rfl
theorem JK(H:pP P w K mg x)(kb:K.In base):∀(n:Nat),(∀(i:Nat) d g fd,x.p.S.fd[i]? =some d->At K mg x i d g fd->bQ P w K mg base eG (n+1) g fd d.ps (eV K (aD x n i))/\bQ P w K mg base eG n g fd d.ps (eV K ((iz x n).1.2 i)))/\
 ∀(i:Nat) d g fd,x.I.xd[i]? =some d->mL K mg x.p.S x.I x.p.C d g fd->bQ P w K mg base (fN P w) (n+1) g fd d.ps (kY K (gj x n i))
 |0=>⟨λi d g fd e F=>⟨Dv,Dv⟩,λi d g fd e F=>Py⟩
 |n+1=>by
  obtain⟨ih1,ih2⟩:=JK H kb n;have W:=SW H ih1;have X2:∀(i:Nat) d g fd,x.I.xd[i]? =some d->mL K mg x.p.S x.I x.p.C d g fd->bQ P w K mg base (fN P w) (n+1+1) g fd d.ps (kY K (gj x (n+1) i)):=λi d g fd e F=>by
   rw[CH e];obtain⟨qual,st,F1,S1,N1,m1⟩:=F.ex;refine Ua F1 S1 (λrs M Q E h=>h.1) (λcdv A outer s H0 E0 E hu hr=>?_) λrs M Q E h=>h.2
   have W2:x9 P w K mg base (x.Gn n) x.I (gj x n) (n+1):=⟨λi d e hk=>by
    obtain⟨g,fd,F⟩:=H.ua i d e;exact⟨(F.h.k1 hk).1,⟨g,fd,(F.h.k1 hk).2,F.h.bd,ih2 i d g fd e F⟩⟩,H.xc⟩
   exact sL d.xb (EB S1 N1 hr λz=>bp z F.ln) W W2 (XR hu) R6 rfl rfl rfl rfl m1
  refine⟨λi d g fd e F=>⟨?_,(ih1 i d g fd e F).1⟩,X2⟩
  rcases F with⟨h0,F⟩|⟨j,e',h0,e1,⟨_,_,_,h4⟩,F⟩
  . rw[CG h0 e]
    obtain⟨qual,st,L1,F1,S1,N1,m1⟩:=F.ex;refine Wr F1 S1 (λrs M Q h=>h.1) (λcdv hcd A outer s H0 E hr=>?_) λrs M Q h=>h.2
    refine sound d.body (EB S1 N1 hr λhN=>?_) W m1
    obtain⟨l1,cc,l2,l3⟩:=L1 hN;obtain⟨l4,l5⟩:=H.lm i d e hN;exact⟨l1,⟨cc,hcd.symm.trans l2,l3 _ kb⟩,l5 _ kb,l4⟩
  . rw[h4,show aD x (n+1) i=(λrs M Q=>gj x (n+1) j rs M Q λ_ _=>False)from by funext rs M Q;exact E1 h0]
    exact US (X2 j e' g fd e1 F)
end
theorem So{K:ag}{h:Heap}{mg:aU}{S:SI}{C:Nat->Addr}{lP:Addr}{I:XI}{d:FD}{D:FA}{x:XD}(X:K.In h)(G:h.Ns mainGlobals mg)(b:mJ K S C lP d D=true)(l:K.lookup D.g=some D.fn)
 (hb:∀us:ao,us.length=d.ps.length->bindArgs (fdOf D) ⟨us,[]⟩=pure (d.ps.zip us)) (e:d.kind=x.kind/\d.cls=x.cls/\d.name=x.name/\d.ps=x.ps/\d.N=x.N) (ln:x.N≠S.ln) (ok:gF K mg S I x.N (bK D.s) x.xb (fh D.s)):mL K mg S I C x D.g (fdOf D):=by
 unfold mJ at b;simp only[bh,jk]at b;obtain⟨⟨⟨⟨⟨⟨b0,b1⟩,b2⟩,b3⟩,b4⟩,b5⟩,b6⟩:=b;obtain⟨s1,s2⟩:=Dg b4;obtain⟨e1,e2,e3,e4,e5⟩:=e;have kp:PySem.W.keepIn K (.ref D.g)=true:=b3;refine⟨⟨kp,e4 ▸ .all hb,λk=>?_,λk=>?_,λk=>?_⟩,ln,⟨D.q,D.s,by rw[<-e3];exact b5 ▸ Ep b1 l b2 b3,by rw[<-e4,<-e5];exact s1,by rw[<-e5];exact s2,ok⟩⟩
 . rw[e1,k]at b6;rw[<-e3];exact fX X G (mm b6)
 . rw[e1,k]at b6
   simp only[bh]at b6;rw[<-e2,<-e3];exact⟨vV b6.1.1,⟨mm b6.1.2,b6.2,b3⟩⟩
 . rw[e1,k]at b6
   simp only[bh]at b6;rw[<-e2];exact⟨b6.1.1.1,mm b6.1.1.2,b6.1.2,b6.2⟩
theorem tK{K:ag}{h:Heap}{mg:aU}{S:SI}{C:Nat->Addr}{lP:Addr}{I:XI}{n:Nat}{l:List (FD×FA)}{y:FD×FA}{x:XD}(X:K.In h)(G:h.Ns mainGlobals mg)(b:i8 K S C lP n l=true)(k:iT K l)(u:uT l n){s:Stmt}(hx:y∈l)
 (e:y.1.kind=x.kind/\y.1.cls=x.cls/\y.1.name=x.name/\y.1.ps=x.ps/\y.1.N=x.N) (ln:x.N≠S.ln) (es:y.2.s=s) (ok:gF K mg S I x.N (bK s) x.xb (fh s)):∃g fd,mL K mg S I C x g fd:=by
 have:=mv b hx;simp only[bh,jk]at this;subst es;exact⟨_,_,So X G this.1.1 (sR k hx) (λus hu=>sR (u us (hu.trans this.1.2)) hx) e ln ok⟩
theorem Ur{P:Program}{w:World}{K:ag}{mg:aU}{x:f9}(H:Hd P w K mg x.p)(ua:∀d∈x.I.xd,∃g fd,mL K mg x.p.S x.I x.p.C d g fd)
 (xR:∀q∈x.xt,∃d e,x.p.S.fd[q.1]? =some d/\x.I.xd[q.2]? =some e/\d.kind=e.kind/\d.cls=e.cls/\d.name=e.name/\d.ps=e.ps)
 (xc:∀(i:Nat) y,x.I.xc[i]? =some y->mg y=some (.ref (x.I.XC i))/\PySem.W.excIn K (x.I.XC i) [.type "ValueError",.type "Exception",.type "BaseException",.type "object"] "ValueError.__new__" =true):pP P w K mg x where
 bl:=H.bl
 gi:=H.gi
 gt:=H.gt
 tb:=H.tb
 tt:=H.tt
 cl:=H.cl
 fs:=H.fs
 fns:=λi d e _=>H.fns i d e
 ua:=λi d e=>ua d (hW e)
 xR:=λi d j e h=>by
  have lk:∀{l:List (Nat×Nat)},l.lookup i=some j->(i,j)∈l:=λ{l}=>by
   induction l with
   |nil=>intro h;cases h
   |cons y l ih=>
    intro h;obtain⟨k,z⟩:=y;unfold List.lookup at h;split at h
    . rename_i q;cases h;rw[gm q];exact .head _
    . exact .tail _ (ih h)
  obtain⟨d',e',h1,h2,h3⟩:=xR (i,j) (lk h);have:d=d':=by
   have:=e.symm.trans h1;injection this
  subst this;exact⟨e',h2,h3⟩
 xc:=xc
 lm:=H.lm
 cv:=H.cv
open PySem.W
end R
namespace H31
open PySem PySem.W PyProof.Rows HD
variable(P:Params)
noncomputable abbrev p:=PySem.Challenge.pw_lentgate_k31_rules_by_the_hundred
noncomputable abbrev body:=behindTheImports p
noncomputable abbrev top (i:Nat):Stmt:=VU p i
noncomputable def env:Env:={ scope:=p.main.scope,locals:=mainNs,globals:=mainNs,cells:=[],code:=.ref 13,frame:=some 14 }
noncomputable def cd:Code:=.body body env
noncomputable def ann:bU:=some (.ref 6)
noncomputable def q0:Pos:=⟨0,0,0,0⟩
noncomputable def B:List Frame:=[topFrame q0]
noncomputable abbrev wf (w:World) (b:Bool):World:=w.withFollow "special-get-raises" b
noncomputable section
noncomputable abbrev A8:Value:=.str "__main__" 164
noncomputable abbrev dZ:Value:=.str "lentgate.ends" 194
noncomputable abbrev p6:Value:=.str "lentgate.forms" 507
noncomputable abbrev p7:Value:=.str "lentgate.lines" 597
noncomputable abbrev jq:Value:=.str "lentgate.rules" 743
noncomputable abbrev gw:Value:=.str "lentgate.pool" 825
noncomputable abbrev dh:Value:=.str "lentgate.talks" 925
noncomputable abbrev bZ:Value:=.str "lentgate.gate" 1132
noncomputable abbrev iq:Value:=.str "law_lentgate_k31_rules_by_the_hundred" 1456
noncomputable def cO (n q:Str)(a:Nat)(L k f:Int)(r:Nat)(b:Bool)(z:Value):Obj:=AX [.str n a,.str q (a+1),.str "/claim/cut.py" (a+2),.int L 0,.int k 0,.int 0 0,.int 0 0,.int f 0,.ref r,.bool b,.int 181 0,.ref (r+1),.none,.none,.none,z,.int ((a+3:Nat):Int) 0,.int L 0,.str "/claim/cut.py" (a+4)]
noncomputable def cC (n:Str)(a:Nat)(L:Int)(r:Nat):Obj:=cO n n a L 0 0 r false .none
noncomputable def cF (n q:Str)(a:Nat)(L k:Int)(r:Nat):Obj:=cO n q a L k 3 r true (.ref (r+2))
noncomputable def iN (b:Nat)(v:Value):Obj:=⟨.type "frame",none,.plain,#[some (.ref (b+3)),some (.ref 3),some (.ref b),none,some v,none,some (.ref 0)]⟩
noncomputable def AW (n:Str)(bs rs:ao)(k:Nat)(sb:ao)(x:bU)(a b:Nat)(w:String):Obj:=⟨.type "type",none,.cls { name:=n,bases:=bs,mro:=.ref (k+1)::rs,ns:=k,qualname:=n,hasDict:=true,slotNames:=[],subclasses:=sb,abstract:=false,collection:=none,hasDel:=false },#[x,none,some (.str n a),some (.str n b),some (.builtin w),some (.bool true)]⟩
noncomputable def qW (n:Str)(k a:Nat):Obj:=AW n [.type "object"] [.type "object"] k [] none a (a+8) "object.__new__"
noncomputable def iG (n:Str)(b:Value)(rs:ao)(k:Nat)(sb:ao)(x a:Nat):Obj:=AW n [b] (rs++ [.type "ValueError",.type "Exception",.type "BaseException",.type "object"]) k sb (some (.ref x)) a (a+8) "ValueError.__new__"
noncomputable def gD (t r:Nat):Obj:=⟨.type "getset_descriptor",none,.fields #[.str "__dict__" t,.ref r,.builtin "function.__dict__",.builtin "function.__dict__#set"],#[]⟩
noncomputable def gW (t r:Nat):Obj:=⟨.type "getset_descriptor",none,.fields #[.str "__weakref__" t,.ref r,.builtin "ExceptionGroup.__weakref__",.none],#[]⟩
noncomputable def sU (r:Nat):Obj:=⟨.type "super",none,.fields #[.ref r,.ref r,.ref r],#[]⟩
noncomputable def iS (r:Nat):Obj:=⟨.type "builtin_function_or_method",none,.fields #[.builtin "object.__init_subclass__",.ref r],#[]⟩
noncomputable def A6 (c:Int)(l:List (Int×Nat)):ao:=l.flatMap λx=>[.int x.1 0,.int c 0,.ref x.2]
noncomputable def rh (l:List (Int×Nat)):Obj:=⟨.none,none,.fields (A6 4 l).toArray,#[]⟩
noncomputable def rE (l:List (String×Nat×Nat)):List DictEntry:=l.map λx=>e1 P x.1 x.2.1 (.ref x.2.2)
def nB(v:Value)(n:Str)(t:Nat)(L:Int)(l:List (String×Nat×Nat))(a b:Nat):Obj:=dv ([e1 P "__module__" t v,e1 P "__qualname__" (t+2) (.str n (t+1)),e1 P "__firstlineno__" (t+4) (.int L (t+3))]++rE P l++ [e1 P "__static_attributes__" a (.ref b)]) (l.length+4)
def nA(v:Value)(t:Nat)(L:Int)(l:List (String×Nat×Nat))(a b:Nat)(es:List DictEntry)(k:Nat):Obj:=dv ([e1 P "__module__" t v,e1 P "__firstlineno__" (t+4) (.int L (t+3))]++rE P l++ [e1 P "__static_attributes__" a (.ref b)]++es) k
def nF(v:Value)(t:Nat)(L:Int)(l:List (String×Nat×Nat))(a b:Nat):Obj:=nA P v t L l a b [e1 P "__dict__" (a+2) (.ref (b+3)),e1 P "__weakref__" (a+4) (.ref (b+4)),e1 P "__doc__" (a+5) .none] 4
noncomputable def ns:List DictEntry:=[e1 P "__name__" 165 iq,e1 P "__doc__" 166 (.none),e1 P "__package__" 167 (.none),e1 P "__loader__" 168 (.builtin "__main__.__loader__#opaque"),e1 P "__spec__" 169 (.none),e1 P "__annotations__" 170 (.ref 6),e1 P "__builtins__" 171 (.ref 4),e1 P "__file__" 173 (.str "/claim/cut.py" 172),e1 P "__cached__" 174 (.none),e1 P "_wall" 193 (.ref 21),e1 P "GREATEST_HOUSE" 197 (.int 99 196),e1 P "GREATEST_DOOR" 199 (.int 9999 198),e1 P "GREATEST_PLACE" 201 (.int 1000000 200),e1 P "GREATEST_TICKS" 203 (.int 1000000 202),e1 P "GREATEST_RULE" 205 (.int 1000000 204),e1 P "MOST_SIGNS" 207 (.int 40 206),e1 P "FIRST_SIGN" 209 (.int 32 208),e1 P "LAST_SIGN" 211 (.int 126 210),e1 P "PERCENT_SIGN" 213 (.int 37 212),e1 P "KINDS" 216 (.ref 22),e1 P "NOTE_WORDS" 218 (.ref 23),e1 P "LINE_WORDS" 223 (.ref 24),e1 P "is_whole" 230 (.ref 31),e1 P "is_whole_within" 239 (.ref 38),e1 P "is_house" 246 (.ref 45),e1 P "is_door" 253 (.ref 52),e1 P "is_place" 260 (.ref 59),e1 P "is_outer_place" 267 (.ref 66),e1 P "is_ticks" 274 (.ref 73),e1 P "is_kind" 281 (.ref 80),e1 P "is_word" 289 (.ref 87),e1 P "is_sign" 297 (.ref 94),e1 P "is_text" 303 (.ref 99),e1 P "is_letter" 312 (.ref 106),e1 P "is_out" 326 (.ref 113),e1 P "is_come" 339 (.ref 120),e1 P "is_lost" 351 (.ref 127),e1 P "is_wait" 358 (.ref 134),e1 P "is_rule" 370 (.ref 141),e1 P "is_unrule" 377 (.ref 148),e1 P "DEEDS" 390 (.ref 149),e1 P "name_of" 397 (.ref 156),e1 P "is_deed" 406 (.ref 163),e1 P "GateError" 426 (.ref 173),e1 P "NoForm" 442 (.ref 186),e1 P "NoDeed" 458 (.ref 198),e1 P "NoRule" 474 (.ref 210),e1 P "NoPlan" 490 (.ref 222),e1 P "NoRow" 506 (.ref 234),e1 P "LENDINGS" 512 (.ref 237),e1 P "SIEVES" 516 (.ref 238),e1 P "PICKS" 519 (.ref 239),e1 P "WIDEST_STEP" 521 (.int 199 520),e1 P "GREATEST_MOST" 523 (.int 200 522),e1 P "GREATEST_TIME" 525 (.int 1000000 524),e1 P "TIME_AT" 544 (.ref 240),e1 P "is_pool" 552 (.ref 247),e1 P "is_times" 558 (.ref 252),e1 P "is_form" 573 (.ref 259),e1 P "holder_of" 587 (.ref 266),e1 P "time_of" 596 (.ref 273),e1 P "LINE_STEPS" 709 (.ref 274),e1 P "BREAKABLE" 715 (.ref 289),e1 P "note_state" 723 (.ref 296),e1 P "line_state" 732 (.ref 303),e1 P "next_state" 742 (.ref 310),e1 P "Rules" 824 (.ref 360),e1 P "Pool" 924 (.ref 433),e1 P "Talk" 961 (.ref 454),e1 P "Talks" 1131 (.ref 574),e1 P "Gate" 1455 (.ref 782),e1 P "_law_cell" 1465 (.ref 793),e1 P "_law_well" 1473 (.ref 800),e1 P "_law_take" 1484 (.ref 807),e1 P "_law_bag_at" 1493 (.ref 814),e1 P "_law_a_form" 1504 (.ref 821),e1 P "_law_a_rule" 1514 (.ref 828),e1 P "_law_dropped" 1525 (.ref 835),e1 P "_law_first" 1537 (.ref 842),e1 P "_law_stranger" 1553 (.ref 849),e1 P "_law_deed" 1567 (.ref 856),e1 P "law" 1573 (.ref 861)]
def tb:ao:=A6 0 [(1,20),(17,30),(19,37),(21,44),(23,51),(25,58),(27,65),(29,72),(31,79),(33,86),(37,93),(40,98),(44,105),(46,112),(51,119),(56,126),(61,133),(63,140),(70,147),(73,155),(77,162),(84,169),(86,182),(88,194),(90,206),(92,218),(94,230),(104,246),(106,251),(111,258),(120,265),(128,272),(134,295),(138,302),(142,309),(147,316),(175,370),(219,443),(226,464),(309,584),(480,792),(484,799),(488,806),(498,813),(504,820),(510,827),(514,834),(524,841),(529,848),(541,855),(555,860)]
noncomputable abbrev yb:=df "_wall" "_wall" (top 0) 15 187 1 1 ["k"] A8
noncomputable abbrev ui:=df "is_whole" "is_whole" (top 14) 25 224 17 1 ["thing"] dZ
noncomputable abbrev uj:=df "is_whole_within" "is_whole_within" (top 15) 32 231 19 3 ["thing","least","greatest"] dZ
noncomputable abbrev uk:=df "is_house" "is_house" (top 16) 39 240 21 1 ["thing"] dZ
noncomputable abbrev um:=df "is_door" "is_door" (top 17) 46 247 23 1 ["thing"] dZ
noncomputable abbrev uo:=df "is_place" "is_place" (top 18) 53 254 25 1 ["thing"] dZ
noncomputable abbrev uq:=df "is_outer_place" "is_outer_place" (top 19) 60 261 27 1 ["thing"] dZ
noncomputable abbrev yc:=df "is_ticks" "is_ticks" (top 20) 67 268 29 1 ["thing"] dZ
noncomputable abbrev ur:=df "is_kind" "is_kind" (top 21) 74 275 31 1 ["thing"] dZ
noncomputable abbrev uu:=df "is_word" "is_word" (top 22) 81 282 33 2 ["kind","thing"] dZ
noncomputable abbrev uw:=df "is_sign" "is_sign" (top 23) 88 290 37 1 ["sign","at"] dZ
noncomputable abbrev jK:=df "is_letter" "is_letter" (top 25) 100 304 44 3 ["kind","word","text"] dZ
noncomputable abbrev nk:=df "is_out" "is_out" (top 26) 107 313 46 1 ["parts","kind","house","door","place","far","word","text"] dZ
noncomputable abbrev jL:=df "is_come" "is_come" (top 27) 114 327 51 1 ["parts","kind","place","far","number","word","text"] dZ
noncomputable abbrev nq:=df "is_lost" "is_lost" (top 28) 121 340 56 1 ["parts","teller","kind","number","place","far"] dZ
noncomputable abbrev nr:=df "is_wait" "is_wait" (top 29) 128 352 61 1 ["parts"] dZ
noncomputable abbrev jM:=df "is_rule" "is_rule" (top 30) 135 359 63 1 ["parts","kind","number","place","house","door"] dZ
noncomputable abbrev jN:=df "is_unrule" "is_unrule" (top 31) 142 371 70 1 ["parts"] dZ
noncomputable abbrev jO:=df "name_of" "name_of" (top 33) 150 391 73 1 ["thing"] dZ
noncomputable abbrev jP:=df "is_deed" "is_deed" (top 34) 157 398 77 1 ["thing","name","has_parts"] dZ
noncomputable abbrev jQ:=df "is_pool" "is_pool" (top 50) 241 545 104 2 ["low","high"] p6
noncomputable abbrev jR:=df "is_form" "is_form" (top 52) 253 559 111 1 ["thing","low","high","lending","sieve","pick","most","renew","times"] p6
noncomputable abbrev nu:=df "holder_of" "holder_of" (top 53) 260 574 120 2 ["form","inner","kind","house","door","place","far","lending"] p6
noncomputable abbrev jS:=df "time_of" "time_of" (top 54) 267 588 128 2 ["form","state","times"] p6
noncomputable abbrev jT:=df "note_state" "note_state" (top 58) 290 716 134 2 ["state","word"] p7
noncomputable abbrev jU:=df "line_state" "line_state" (top 59) 297 724 138 3 ["state","side","word"] p7
noncomputable abbrev jV:=df "next_state" "next_state" (top 60) 304 733 142 4 ["kind","state","side","word"] p7
noncomputable abbrev jW:=df "__init__" "Rules.__init__" (sub (top 62) 0) 318 757 149 1 ["self"] jq
noncomputable abbrev jX:=df "tell" "Rules.tell" (sub (top 62) 1) 325 764 153 6 ["self","kind","number","place","house","door","told"] jq
noncomputable abbrev jY:=df "stands" "Rules.stands" (sub (top 62) 2) 332 777 159 2 ["self","k"] jq
noncomputable abbrev jZ:=df "drop" "Rules.drop" (sub (top 62) 3) 339 785 162 2 ["self","k"] jq
noncomputable abbrev j0:=df "door_for" "Rules.door_for" (sub (top 62) 4) 346 793 165 4 ["self","kind","number","place","rule_kind","rule_number","rule_place","house","door","fits_place"] jq
noncomputable abbrev j3:=df "__init__" "Pool.__init__" (sub (top 64) 0) 372 839 177 3 ["self","low","high"] gw
noncomputable abbrev j4:=df "has" "Pool.has" (sub (top 64) 1) 379 848 184 2 ["self","number"] gw
noncomputable abbrev nv:=df "is_free" "Pool.is_free" (sub (top 64) 2) 386 856 187 3 ["self","number","moment"] gw
noncomputable abbrev ny:=df "from_mark" "Pool.from_mark" (sub (top 64) 3) 393 865 192 1 ["self"] gw
noncomputable abbrev nz:=df "picked" "Pool.picked" (sub (top 64) 4) 400 872 195 4 ["self","pick","door","moment","number"] gw
noncomputable abbrev nE:=df "take" "Pool.take" (sub (top 64) 5) 407 883 203 2 ["self","number"] gw
noncomputable abbrev nG:=df "give" "Pool.give" (sub (top 64) 6) 414 891 209 3 ["self","number","until"] gw
noncomputable abbrev j5:=df "__init__" "Talk.__init__" (sub (top 66) 0) 445 939 221 5 ["self","inner","number","state","over"] dh
noncomputable abbrev j6:=df "__init__" "Talks.__init__" (sub (top 67) 0) 466 974 228 2 ["self","form"] dh
noncomputable abbrev j7:=df "of_inner" "Talks.of_inner" (sub (top 67) 1) 473 982 237 2 ["self","inner"] dh
noncomputable abbrev j8:=df "of_outer" "Talks.of_outer" (sub (top 67) 2) 480 990 240 5 ["self","kind","number","place","far"] dh
noncomputable abbrev nH:=df "living" "Talks.living" (sub (top 67) 4) 492 1007 248 1 ["self"] dh
noncomputable abbrev nI:=df "is_living" "Talks.is_living" (sub (top 67) 5) 499 1014 251 2 ["self","talk"] dh
noncomputable abbrev nJ:=df "number_of" "Talks.number_of" (sub (top 67) 6) 506 1022 254 2 ["self","inner"] dh
noncomputable abbrev nK:=df "holder_at" "Talks.holder_at" (sub (top 67) 7) 513 1030 257 2 ["self","number"] dh
noncomputable abbrev nL:=df "lent_until" "Talks.lent_until" (sub (top 67) 9) 525 1044 263 2 ["self","number"] dh
noncomputable abbrev nM:=df "lend" "Talks.lend" (sub (top 67) 10) 532 1052 266 3 ["self","number","inner","holder"] dh
noncomputable abbrev nN:=df "end_lend" "Talks.end_lend" (sub (top 67) 11) 539 1062 272 3 ["self","number","moment"] dh
noncomputable abbrev j9:=df "begin" "Talks.begin" (sub (top 67) 12) 546 1071 277 4 ["self","inner","number","state","kind","house","door","place","far","talk"] dh
noncomputable abbrev ka:=df "lead" "Talks.lead" (sub (top 67) 13) 553 1087 285 3 ["self","talk","state"] dh
noncomputable abbrev nO:=df "end" "Talks.end" (sub (top 67) 14) 560 1096 292 3 ["self","talk","moment","kind","house","door","place","far","number"] dh
noncomputable abbrev kc:=df "__init__" "Gate.__init__" (sub (top 69) 0) 586 1146 311 2 ["self","form"] bZ
noncomputable abbrev iI:=df "deed" "Gate.deed" (sub (top 69) 1) 593 1154 320 2 ["self","deed","answer"] bZ
noncomputable abbrev nP:=df "out" "Gate.out" (sub (top 69) 2) 600 1163 327 8 ["self","kind","house","door","place","far","word","text"] bZ
noncomputable abbrev ke:=df "come" "Gate.come" (sub (top 69) 3) 607 1177 330 7 ["self","kind","place","far","number","word","text"] bZ
noncomputable abbrev nQ:=df "lost" "Gate.lost" (sub (top 69) 4) 614 1190 333 6 ["self","teller","kind","number","place","far"] bZ
noncomputable abbrev nR:=df "wait" "Gate.wait" (sub (top 69) 5) 621 1202 336 2 ["self","ticks"] bZ
noncomputable abbrev kf:=df "rule" "Gate.rule" (sub (top 69) 6) 628 1210 339 6 ["self","kind","number","place","house","door"] bZ
noncomputable abbrev iJ:=df "unrule" "Gate.unrule" (sub (top 69) 7) 635 1222 342 2 ["self","k"] bZ
noncomputable abbrev kg:=df "moment" "Gate.moment" (sub (top 69) 8) 642 1230 345 1 ["self"] bZ
noncomputable abbrev nS:=df "free" "Gate.free" (sub (top 69) 9) 649 1237 348 1 ["self"] bZ
noncomputable abbrev nT:=df "talks" "Gate.talks" (sub (top 69) 11) 661 1250 354 1 ["self"] bZ
noncomputable abbrev nU:=df "rests" "Gate.rests" (sub (top 69) 12) 668 1257 357 1 ["self"] bZ
noncomputable abbrev kh:=df "rules" "Gate.rules" (sub (top 69) 13) 675 1264 360 1 ["self"] bZ
noncomputable abbrev nV:=df "book" "Gate.book" (sub (top 69) 14) 682 1271 363 1 ["self"] bZ
noncomputable abbrev iK:=df "answered" "Gate.answered" (sub (top 69) 15) 689 1278 366 3 ["self","name","parts","kind","place","far","number","word","text"] bZ
noncomputable abbrev nW:=df "sent" "Gate.sent" (sub (top 69) 16) 696 1293 381 2 ["self","parts","kind","house","door","place","far","word","text","answer","number"] bZ
noncomputable abbrev nX:=df "lead_out" "Gate.lead_out" (sub (top 69) 17) 703 1310 389 3 ["self","inner","word","talk","state"] bZ
noncomputable abbrev nY:=df "begin_out" "Gate.begin_out" (sub (top 69) 18) 710 1321 399 3 ["self","inner","state","number"] bZ
noncomputable abbrev nZ:=df "picked_for" "Gate.picked_for" (sub (top 69) 19) 717 1331 411 2 ["self","door","pool","now"] bZ
noncomputable abbrev ki:=df "come_in" "Gate.come_in" (sub (top 69) 20) 724 1341 417 6 ["self","kind","place","far","number","word","talk"] bZ
noncomputable abbrev kj:=df "lead_in" "Gate.lead_in" (sub (top 69) 21) 731 1354 425 3 ["self","talk","word","kind","house","door","place","far","state","renew"] bZ
noncomputable abbrev n3:=df "sifted" "Gate.sifted" (sub (top 69) 22) 738 1370 435 4 ["self","kind","place","number","holder"] bZ
noncomputable abbrev n5:=df "lets_note_in" "Gate.lets_note_in" (sub (top 69) 23) 745 1381 443 3 ["self","place","number","sieve"] bZ
noncomputable abbrev kl:=df "come_by_rule" "Gate.come_by_rule" (sub (top 69) 24) 752 1391 447 6 ["self","kind","place","far","number","word","to","house","door","state","inner"] bZ
noncomputable abbrev n6:=df "told_lost" "Gate.told_lost" (sub (top 69) 25) 759 1408 461 2 ["self","parts","teller","kind","number","place","far","talk"] bZ
noncomputable abbrev km:=df "rule_told" "Gate.rule_told" (sub (top 69) 26) 766 1422 468 2 ["self","parts","kind","number","place","house","door"] bZ
noncomputable abbrev iL:=df "rule_dropped" "Gate.rule_dropped" (sub (top 69) 27) 773 1435 474 2 ["self","k"] bZ
noncomputable abbrev kn:=df "_law_cell" "_law_cell" (top 71) 787 1458 480 2 ["script","k"] iq
noncomputable abbrev ko:=df "_law_well" "_law_well" (top 72) 794 1466 484 2 ["cell","turn"] iq
noncomputable abbrev kq:=df "_law_take" "_law_take" (top 73) 801 1474 488 2 ["bag","many","found","p","n"] iq
noncomputable abbrev kr:=df "_law_bag_at" "_law_bag_at" (top 74) 808 1485 498 2 ["cells","k","bag"] iq
noncomputable abbrev ku:=df "_law_a_form" "_law_a_form" (top 75) 815 1494 504 1 ["bag","many","low","lending","sieve"] iq
noncomputable abbrev kx:=df "_law_a_rule" "_law_a_rule" (top 76) 822 1505 510 2 ["bag","k","kind","place"] iq
noncomputable abbrev iM:=df "_law_dropped" "_law_dropped" (top 77) 829 1515 514 3 ["gate","rules","k","kinds","e"] iq
noncomputable abbrev ky:=df "_law_first" "_law_first" (top 78) 836 1526 524 4 ["rules","kind","number","place","k","rule"] iq
noncomputable abbrev kz:=df "_law_stranger" "_law_stranger" (top 79) 843 1538 529 4 ["bag","gate","rules","far","kind","number","place","word","k","due"] iq
noncomputable abbrev kA:=df "_law_deed" "_law_deed" (top 80) 850 1554 541 4 ["bag","gate","rules","far","way","k","one","turn"] iq
noncomputable def v7:Obj:=tup []
def XN:Obj:=cC "<module>" 182 1 11
noncomputable def XO:Obj:=⟨.type "frame",none,.plain,#[some (.ref 13),some (.ref 3),some (.ref 3),none,some A8,none,some (.ref 0)]⟩
noncomputable def KH:Obj:=tup [.str "note" 214,.str "line" 215]
noncomputable def KI:Obj:=tup [.str "say" 217]
noncomputable def KJ:Obj:=tup [.str "open" 219,.str "say" 220,.str "close" 221,.str "break" 222]
noncomputable def v8:Obj:=⟨.none,none,.fields #[],#[]⟩
noncomputable def LB:Obj:=jg "is_text" "is_text" (top 24)
def J0:Obj:=cF "is_text" "is_text" 298 40 1 95
noncomputable def JZ:Obj:=ib "is_text" "is_text" (top 24) dZ (.ref 98)
def pL:Obj:=dv (rE P [("out",378,113),("come",379,120),("lost",380,127),("wait",381,134),("rule",382,141),("unrule",383,148)]) 6
noncomputable def JY:Obj:=tup [.type "ValueError"]
noncomputable def d8:Obj:=⟨.type "builtin_function_or_method",none,.fields #[.builtin "type.__prepare__",.type "type"],#[]⟩
def JX:Obj:=nB P (.str "lentgate.errors" 407) "GateError" 416 84 [] 421 171
def JW:Obj:=cC "GateError" 411 84 167
def JV:Obj:=iN 166 (.str "lentgate.errors" 407)
def Ie:Obj:=nA P (.str "lentgate.errors" 407) 416 84 [] 421 171 [e1 P "__weakref__" 423 (.ref 174),e1 P "__doc__" 424 (.none)] 3
def LA:Obj:=iG "GateError" (.type "ValueError") [] 172 [] 164 409
def Ic:Obj:=gW 422 173
def Ib:Obj:=sU 173
def Ia:Obj:=iS 173
def Lz:Obj:=iG "GateError" (.type "ValueError") [] 172 [.ref 186] 164 409
noncomputable def jy:Obj:=tup [.ref 173]
def HZ:Obj:=nB P (.str "lentgate.errors" 407) "NoForm" 434 86 [] 439 184
def HY:Obj:=cC "NoForm" 429 86 180
def HX:Obj:=iN 179 (.str "lentgate.errors" 407)
def HW:Obj:=nA P (.str "lentgate.errors" 407) 434 86 [] 439 184 [e1 P "__doc__" 440 (.none)] 2
def HV:Obj:=iG "NoForm" (.ref 173) [.ref 173] 185 [] 177 427
def HU:Obj:=sU 186
def IK:Obj:=iS 186
def Ly:Obj:=iG "GateError" (.type "ValueError") [] 172 [.ref 186,.ref 198] 164 409
def IJ:Obj:=nB P (.str "lentgate.errors" 407) "NoDeed" 450 88 [] 455 196
def II:Obj:=cC "NoDeed" 445 88 192
def IH:Obj:=iN 191 (.str "lentgate.errors" 407)
def IG:Obj:=nA P (.str "lentgate.errors" 407) 450 88 [] 455 196 [e1 P "__doc__" 456 (.none)] 2
def IF:Obj:=iG "NoDeed" (.ref 173) [.ref 173] 197 [] 189 443
def IE:Obj:=sU 198
def ID:Obj:=iS 198
def Lx:Obj:=iG "GateError" (.type "ValueError") [] 172 [.ref 186,.ref 198,.ref 210] 164 409
def IC:Obj:=nB P (.str "lentgate.errors" 407) "NoRule" 466 90 [] 471 208
def IB:Obj:=cC "NoRule" 461 90 204
def IA:Obj:=iN 203 (.str "lentgate.errors" 407)
def Iz:Obj:=nA P (.str "lentgate.errors" 407) 466 90 [] 471 208 [e1 P "__doc__" 472 (.none)] 2
def Iy:Obj:=iG "NoRule" (.ref 173) [.ref 173] 209 [] 201 459
def Iw:Obj:=sU 210
def Iv:Obj:=iS 210
def Lv:Obj:=iG "GateError" (.type "ValueError") [] 172 [.ref 186,.ref 198,.ref 210,.ref 222] 164 409
def Iu:Obj:=nB P (.str "lentgate.errors" 407) "NoPlan" 482 92 [] 487 220
def Ir:Obj:=cC "NoPlan" 477 92 216
def Iq:Obj:=iN 215 (.str "lentgate.errors" 407)
def Ip:Obj:=nA P (.str "lentgate.errors" 407) 482 92 [] 487 220 [e1 P "__doc__" 488 (.none)] 2
def Io:Obj:=iG "NoPlan" (.ref 173) [.ref 173] 221 [] 213 475
def Im:Obj:=sU 222
def Il:Obj:=iS 222
def Ik:Obj:=iG "GateError" (.type "ValueError") [] 172 [.ref 186,.ref 198,.ref 210,.ref 222,.ref 234] 164 409
def Ii:Obj:=nB P (.str "lentgate.errors" 407) "NoRow" 498 94 [] 503 232
def Ih:Obj:=cC "NoRow" 493 94 228
def Ig:Obj:=iN 227 (.str "lentgate.errors" 407)
def Jn:Obj:=nA P (.str "lentgate.errors" 407) 498 94 [] 503 232 [e1 P "__doc__" 504 (.none)] 2
def Jm:Obj:=iG "NoRow" (.ref 173) [.ref 173] 233 [] 225 491
def Jl:Obj:=sU 234
def Jk:Obj:=iS 234
noncomputable def Jj:Obj:=tup [.str "door" 509,.str "place" 510,.str "talk" 511]
noncomputable def Ji:Obj:=tup [.str "all" 513,.str "place" 514,.str "talk" 515]
noncomputable def Jh:Obj:=tup [.str "next" 517,.str "keep" 518]
noncomputable def pM:Obj:=dv [e1 P "note" 526 (.int 0 527),e1 P "asked" 528 (.int 1 529),e1 P "called" 530 (.int 1 531),e1 P "up" 532 (.int 2 533),e1 P "near" 534 (.int 2 535),e1 P "far" 536 (.int 2 537)] 6
noncomputable def Lu:Obj:=jg "is_times" "is_times" (top 51)
def Jg:Obj:=cF "is_times" "is_times" 553 106 1 248
noncomputable def Jf:Obj:=ib "is_times" "is_times" (top 51) p6 (.ref 251)
noncomputable def Je:Obj:=tup [.str "house" 599,.none,.str "open" 600]
noncomputable def Jd:Obj:=tup [.str "house" 602,.str "asked" 603,.str "open" 604]
noncomputable def Jc:Obj:=tup [.str "house" 606,.str "called" 607,.str "open" 608]
noncomputable def Jb:Obj:=tup [.str "house" 610,.str "up" 611,.str "say" 612]
noncomputable def Ja:Obj:=tup [.str "house" 614,.str "far" 615,.str "say" 616]
noncomputable def IZ:Obj:=tup [.str "house" 618,.str "up" 619,.str "close" 620]
noncomputable def IY:Obj:=tup [.str "house" 622,.str "far" 623,.str "close" 624]
noncomputable def IX:Obj:=tup [.str "far" 626,.none,.str "open" 627]
noncomputable def IW:Obj:=tup [.str "far" 629,.str "called" 630,.str "open" 631]
noncomputable def IV:Obj:=tup [.str "far" 633,.str "asked" 634,.str "open" 635]
noncomputable def IU:Obj:=tup [.str "far" 637,.str "up" 638,.str "say" 639]
noncomputable def IT:Obj:=tup [.str "far" 641,.str "near" 642,.str "say" 643]
noncomputable def IS:Obj:=tup [.str "far" 645,.str "up" 646,.str "close" 647]
noncomputable def IQ:Obj:=tup [.str "far" 649,.str "near" 650,.str "close" 651]
noncomputable def IP:Obj:=tup [.str "asked" 710,.str "called" 711,.str "up" 712,.str "near" 713,.str "far" 714]
noncomputable def Ge:List (String×Nat×Nat):=[("__init__",763,324),("tell",776,331),("stands",784,338),("drop",792,345),("door_for",808,352),("listed",814,357)]
def IM:Obj:=nB P jq "Rules" 752 147 Ge 817 358
def Ls:Obj:=rh [(149,323),(153,330),(159,337),(162,344),(165,351),(172,356)]
def IL:Obj:=cC "Rules" 747 147 314
def GJ:Obj:=iN 313 jq
noncomputable def LZ:Obj:=jg "listed" "Rules.listed" (sub (top 62) 5)
def GI:Obj:=cF "listed" "Rules.listed" 809 172 1 353
noncomputable def GH:Obj:=ib "listed" "Rules.listed" (sub (top 62) 5) jq (.ref 356)
noncomputable def GG:Obj:=tup [.str "many_told" 815,.str "standing" 816]
def GF:Obj:=nF P jq 752 147 Ge 817 358
def GD:Obj:=qW "Rules" 359 745
def GC:Obj:=gD 818 360
def GB:Obj:=gW 820 360
def GA:Obj:=sU 360
def Gz:Obj:=iS 360
noncomputable def Gd:List (String×Nat×Nat):=[("__init__",847,378),("has",855,385),("is_free",864,392),("from_mark",871,399),("picked",882,406),("take",890,413),("give",899,420),("resting",905,425),("many_free",911,430)]
def Hn:Obj:=nB P gw "Pool" 834 175 Gd 917 431
def LY:Obj:=rh [(177,377),(184,384),(187,391),(192,398),(195,405),(203,412),(209,419),(213,424),(216,429)]
def Hm:Obj:=cC "Pool" 829 175 368
def Hl:Obj:=iN 367 gw
noncomputable def LX:Obj:=jg "resting" "Pool.resting" (sub (top 64) 7)
def Hi:Obj:=cF "resting" "Pool.resting" 900 213 2 421
noncomputable def Hh:Obj:=ib "resting" "Pool.resting" (sub (top 64) 7) gw (.ref 424)
noncomputable def LW:Obj:=jg "many_free" "Pool.many_free" (sub (top 64) 8)
def Hg:Obj:=cF "many_free" "Pool.many_free" 906 216 2 426
noncomputable def Hf:Obj:=ib "many_free" "Pool.many_free" (sub (top 64) 8) gw (.ref 429)
noncomputable def He:Obj:=tup [.str "high" 912,.str "low" 913,.str "mark" 914,.str "taken" 915,.str "until" 916]
def Hc:Obj:=nF P gw 834 175 Gd 917 431
def Hb:Obj:=qW "Pool" 432 827
def Ha:Obj:=gD 918 433
def G9:Obj:=gW 920 433
def GZ:Obj:=sU 433
def GY:Obj:=iS 433
noncomputable def Gb:List (String×Nat×Nat):=[("__init__",949,451)]
def GX:Obj:=nB P dh "Talk" 934 219 Gb 954 452
def LU:Obj:=rh [(221,450)]
def GW:Obj:=cC "Talk" 929 219 441
def GV:Obj:=iN 440 dh
noncomputable def GU:Obj:=tup [.str "inner" 950,.str "number" 951,.str "over" 952,.str "state" 953]
def GS:Obj:=nF P dh 934 219 Gb 954 452
def GR:Obj:=qW "Talk" 453 927
def GQ:Obj:=gD 955 454
def GP:Obj:=gW 957 454
def GO:Obj:=sU 454
def GN:Obj:=iS 454
noncomputable def Ga:List (String×Nat×Nat):=[("__init__",981,472),("of_inner",989,479),("of_outer",1000,486),("is_with",1006,491),("living",1013,498),("is_living",1021,505),("number_of",1029,512),("holder_at",1037,519),("held",1043,524),("lent_until",1051,531),("lend",1061,538),("end_lend",1070,545),("begin",1086,552),("lead",1095,559),("end",1110,566),("pass_by",1116,571)]
def GL:Obj:=nB P dh "Talks" 969 226 Ga 1124 572
def LS:Obj:=rh [(228,471),(237,478),(240,485),(245,490),(248,497),(251,504),(254,511),(257,518),(260,523),(263,530),(266,537),(272,544),(277,551),(285,558),(292,565),(303,570)]
def GK:Obj:=cC "Talks" 964 226 462
def HS:Obj:=iN 461 dh
noncomputable def LQ:Obj:=jg "is_with" "Talks.is_with" (sub (top 67) 3)
def HR:Obj:=cF "is_with" "Talks.is_with" 1001 245 3 487
noncomputable def HQ:Obj:=ib "is_with" "Talks.is_with" (sub (top 67) 3) dh (.ref 490)
noncomputable def LP:Obj:=jg "held" "Talks.held" (sub (top 67) 8)
def HP:Obj:=cF "held" "Talks.held" 1038 260 2 520
noncomputable def HN:Obj:=ib "held" "Talks.held" (sub (top 67) 8) dh (.ref 523)
noncomputable def LO:Obj:=jg "pass_by" "Talks.pass_by" (sub (top 67) 15)
def HM:Obj:=cF "pass_by" "Talks.pass_by" 1111 303 2 567
noncomputable def HL:Obj:=ib "pass_by" "Talks.pass_by" (sub (top 67) 15) dh (.ref 570)
noncomputable def HK:Obj:=tup [.str "by_inner" 1117,.str "by_number" 1118,.str "form" 1119,.str "holders" 1120,.str "now" 1121,.str "numbers" 1122,.str "pool" 1123]
def HJ:Obj:=nF P dh 969 226 Ga 1124 572
def HI:Obj:=qW "Talks" 573 962
def HH:Obj:=gD 1125 574
def HG:Obj:=gW 1127 574
def HF:Obj:=sU 574
def HE:Obj:=iS 574
noncomputable def F0:List (String×Nat×Nat):=[("__init__",1153,592),("deed",1162,599),("out",1176,606),("come",1189,613),("lost",1201,620),("wait",1209,627),("rule",1221,634),("unrule",1229,641),("moment",1236,648),("free",1243,655),("lends",1249,660),("talks",1256,667),("rests",1263,674),("rules",1270,681),("book",1277,688),("answered",1292,695),("sent",1309,702),("lead_out",1320,709),("begin_out",1330,716),("picked_for",1340,723),("come_in",1353,730),("lead_in",1369,737),("sifted",1380,744),("lets_note_in",1390,751),("come_by_rule",1407,758),("told_lost",1421,765),("rule_told",1434,772),("rule_dropped",1442,779)]
def HC:Obj:=nB P bZ "Gate" 1141 309 F0 1448 780
def LN:Obj:=rh [(311,591),(320,598),(327,605),(330,612),(333,619),(336,626),(339,633),(342,640),(345,647),(348,654),(351,659),(354,666),(357,673),(360,680),(363,687),(366,694),(381,701),(389,708),(399,715),(411,722),(417,729),(425,736),(435,743),(443,750),(447,757),(461,764),(468,771),(474,778)]
def HB:Obj:=cC "Gate" 1136 309 582
def HA:Obj:=iN 581 bZ
noncomputable def LM:Obj:=jg "lends" "Gate.lends" (sub (top 69) 10)
def Hz:Obj:=cF "lends" "Gate.lends" 1244 351 1 656
noncomputable def Hy:Obj:=ib "lends" "Gate.lends" (sub (top 69) 10) bZ (.ref 659)
noncomputable def Hw:Obj:=tup [.str "done" 1443,.str "form" 1444,.str "strangers" 1445,.str "table" 1446,.str "wish" 1447]
def Hv:Obj:=nF P bZ 1141 309 F0 1448 780
def Hu:Obj:=qW "Gate" 781 1134
def Ht:Obj:=gD 1449 782
def Hr:Obj:=gW 1451 782
def Hq:Obj:=sU 782
def Ho:Obj:=iS 782
noncomputable def LL:Obj:=jg "law" "law" (top 81)
def Gy:Obj:=cF "law" "law" 1568 555 1 857
noncomputable def Gx:Obj:=ib "law" "law" (top 81) iq (.ref 860)
def fin(P:Params)(D:Obj):List Obj:=[boot_o_0 P,boot_o_1 P,boot_o_2 P,dv ((ns P).take 82) 82,boot_o_4 P,boot_o_5 P,boot_o_6 P,boot_o_7 P,boot_o_8 P,boot_o_9 P,boot_o_10 P,v7,eD (tb.take 153),XN,XO]++(yb.objs++([KH,KI,KJ]++(ui.objs++(uj.objs++(uk.objs++(um.objs++(uo.objs++(uq.objs++(yc.objs++(ur.objs++(uu.objs++(uw.objs++([v7,v8,LB,J0,JZ]++(jK.objs++(nk.objs++(jL.objs++(nq.objs++(nr.objs++(jM.objs++(jN.objs++([pL P]++(jO.objs++(jP.objs++([JY,d8,JX P,v7,v8,JW,JV,v7,Ie P,Ik,Ic,Ib,Ia,jy,d8,HZ P,v7,v8,HY,HX,v7,HW P,HV,HU,IK,jy,d8,IJ P,v7,v8,II,IH,v7,IG P,IF,IE,ID,jy,d8,IC P,v7,v8,IB,IA,v7,Iz P,Iy,Iw,Iv,jy,d8,Iu P,v7,v8,Ir,Iq,v7,Ip P,Io,Im,Il,jy,d8,Ii P,v7,v8,Ih,Ig,v7,Jn P,Jm,Jl,Jk,Jj,Ji,Jh,pM P]++(jQ.objs++([v7,v8,Lu,Jg,Jf]++(jR.objs++(nu.objs++(jS.objs++([D,Je,Jd,Jc,Jb,Ja,IZ,IY,IX,IW,IV,IU,IT,IS,IQ,IP]++(jT.objs++(jU.objs++(jV.objs++([v7,d8,IM P,v7,Ls,IL,GJ]++(jW.objs++(jX.objs++(jY.objs++(jZ.objs++(j0.objs++([v7,v8,LZ,GI,GH,GG,GF P,GD,GC,GB,GA,Gz,v7,d8,Hn P,v7,LY,Hm,Hl]++(j3.objs++(j4.objs++(nv.objs++(ny.objs++(nz.objs++(nE.objs++(nG.objs++([v7,v8,LX,Hi,Hh,v7,v8,LW,Hg,Hf,He,Hc P,Hb,Ha,G9,GZ,GY,v7,d8,GX P,v7,LU,GW,GV]++(j5.objs++([GU,GS P,GR,GQ,GP,GO,GN,v7,d8,GL P,v7,LS,GK,HS]++(j6.objs++(j7.objs++(j8.objs++([v7,v8,LQ,HR,HQ]++(nH.objs++(nI.objs++(nJ.objs++(nK.objs++([v7,v8,LP,HP,HN]++(nL.objs++(nM.objs++(nN.objs++(j9.objs++(ka.objs++(nO.objs++([v7,v8,LO,HM,HL,HK,HJ P,HI,HH,HG,HF,HE,v7,d8,HC P,v7,LN,HB,HA]++(kc.objs++(iI.objs++(nP.objs++(ke.objs++(nQ.objs++(nR.objs++(kf.objs++(iJ.objs++(kg.objs++(nS.objs++([v7,v8,LM,Hz,Hy]++(nT.objs++(nU.objs++(kh.objs++(nV.objs++(iK.objs++(nW.objs++(nX.objs++(nY.objs++(nZ.objs++(ki.objs++(kj.objs++(n3.objs++(n5.objs++(kl.objs++(n6.objs++(km.objs++(iL.objs++([Hw,Hv P,Hu,Ht,Hr,Hq,Ho]++(kn.objs++(ko.objs++(kq.objs++(kr.objs++(ku.objs++(kx.objs++(iM.objs++(ky.objs++(kz.objs++(kA.objs++([v7,v8,LL,Gy,Gx]))))))))))))))))))))))))))))))))))))))))))))))))))))))))))))))))))))))))))))))))))))))))))))))))))))))))))
def jc:List Obj:=fin P default
def uf(P:Params)(os:OsState):SharedT:=⟨treeOf ((((jc P).take 15).set 3 (boot_o_3 P)).set 12 (eD (tb.take 0))),15,{},#[],{},187,os⟩
theorem TL(w:World)(os:OsState):topGo treeTable p w 11 ann 12 ⟨boot_heap w.2,#[],boot_drawn,boot_toks,os⟩ (topStub p)=some ((uf w.2 os).abs,⟨denote treeTable cd,cd,q0,B⟩):=by kernel_rfl
theorem Rl(w:World)(os:OsState):segRun treeTable p w 11 ann 1 1 (uf w.2 os).abs (blockOf body env cd q0 B)=some (.next,(uf w.2 os).abs,cd,q0):=by kernel_rfl
def AQ(P:Params)(os:OsState):SharedT:=⟨treeOf ((((jc P).take 81).set 3 (dv ((e1 P "__name__" 165 dZ)::((ns P).drop 1).take 29) 30)).set 12 (eD (tb.take 27))),81,{},#[],{},282,os⟩
theorem Mp(w:World)(os:OsState):segRunT treeTable p w 11 ann 1 391 (uf w.2 os) (piecesOf ((body.drop 0).take 22) env cd q0 B)=some (.next,AQ w.2 os,cd,⟨31,0,32,25⟩):=by
 walk_at "w9"
def xX(P:Params)(os:OsState):SharedT:=⟨treeOf ((((jc P).take 149).set 3 (dv ((e1 P "__name__" 165 dZ)::((ns P).drop 1).take 39) 40)).set 12 (eD (tb.take 57))),149,{},#[],{},378,os⟩
theorem Mo(w:World)(os:OsState):segRunT treeTable p w 11 ann 1 315 (AQ w.2 os) (piecesOf ((body.drop 22).take 10) env cd ⟨31,0,32,25⟩ B)=some (.next,xX w.2 os,cd,⟨70,0,71,74⟩):=by
 walk_at "w9"
def xY(P:Params)(os:OsState):SharedT:=⟨treeOf (((((jc P).take 177).set 3 (dv ((e1 P "__name__" 165 (.str "lentgate.errors" 407))::((ns P).drop 1).take 43) 44)).set 12 (eD (tb.take 66))).set 173 (LA)),177,{},#[],{},427,os⟩
theorem VJ(w:World)(os:OsState)(b:Bool):segRunT treeTable p (wf w b) 11 ann 1 362 (xX w.2 os) (piecesOf ((body.drop 32).take 5) env cd ⟨70,0,71,74⟩ B)=some (.next,xY w.2 os,cd,⟨84,0,85,8⟩):=by
 rw[PySem.W.Fast.te10110043849684766642,PySem.W.Fast.te14364793385576792824];cases b<;>kernel_rfl
theorem Mn(w:World)(os:OsState):segRunT treeTable p w 11 ann 1 362 (xX w.2 os) (piecesOf ((body.drop 32).take 5) env cd ⟨70,0,71,74⟩ B)=some (.next,xY w.2 os,cd,⟨84,0,85,8⟩):=by
 have h:=VJ w os (w.2.followText "special-get-raises");unfold wf at h;rw[World.withFollow_self]at h;exact h
def AR(P:Params)(os:OsState):SharedT:=⟨treeOf (((((jc P).take 189).set 3 (dv ((e1 P "__name__" 165 (.str "lentgate.errors" 407))::((ns P).drop 1).take 44) 45)).set 12 (eD (tb.take 69))).set 173 (Lz)),189,{},#[],{},443,os⟩
theorem Mm(w:World)(os:OsState):segRunT treeTable p w 11 ann 1 214 (xY w.2 os) (piecesOf ((body.drop 37).take 1) env cd ⟨84,0,85,8⟩ B)=some (.next,AR w.2 os,cd,⟨86,0,87,8⟩):=by
 walk_at "w9"
def AS(P:Params)(os:OsState):SharedT:=⟨treeOf (((((jc P).take 201).set 3 (dv ((e1 P "__name__" 165 (.str "lentgate.errors" 407))::((ns P).drop 1).take 45) 46)).set 12 (eD (tb.take 72))).set 173 (Ly)),201,{},#[],{},459,os⟩
theorem Ml(w:World)(os:OsState):segRunT treeTable p w 11 ann 1 214 (AR w.2 os) (piecesOf ((body.drop 38).take 1) env cd ⟨86,0,87,8⟩ B)=some (.next,AS w.2 os,cd,⟨88,0,89,8⟩):=by
 walk_at "w9"
def AU(P:Params)(os:OsState):SharedT:=⟨treeOf (((((jc P).take 213).set 3 (dv ((e1 P "__name__" 165 (.str "lentgate.errors" 407))::((ns P).drop 1).take 46) 47)).set 12 (eD (tb.take 75))).set 173 (Lx)),213,{},#[],{},475,os⟩
theorem Mj(w:World)(os:OsState):segRunT treeTable p w 11 ann 1 214 (AS w.2 os) (piecesOf ((body.drop 39).take 1) env cd ⟨88,0,89,8⟩ B)=some (.next,AU w.2 os,cd,⟨90,0,91,8⟩):=by
 walk_at "w9"
def xZ(P:Params)(os:OsState):SharedT:=⟨treeOf (((((jc P).take 225).set 3 (dv ((e1 P "__name__" 165 (.str "lentgate.errors" 407))::((ns P).drop 1).take 47) 48)).set 12 (eD (tb.take 78))).set 173 (Lv)),225,{},#[],{},491,os⟩
theorem Mi(w:World)(os:OsState):segRunT treeTable p w 11 ann 1 214 (AU w.2 os) (piecesOf ((body.drop 40).take 1) env cd ⟨90,0,91,8⟩ B)=some (.next,xZ w.2 os,cd,⟨92,0,93,8⟩):=by
 walk_at "w9"
def x6(P:Params)(os:OsState):SharedT:=⟨treeOf ((((jc P).take 241).set 3 (dv ((e1 P "__name__" 165 p6)::((ns P).drop 1).take 55) 56)).set 12 (eD (tb.take 81))),241,{},#[],{},545,os⟩
theorem VI(w:World)(os:OsState)(b:Bool):segRunT treeTable p (wf w b) 11 ann 1 388 (xZ w.2 os) (piecesOf ((body.drop 41).take 9) env cd ⟨92,0,93,8⟩ B)=some (.next,x6 w.2 os,cd,⟨103,0,103,7⟩):=by
 rw[PySem.W.Fast.te10110043849684766642,PySem.W.Fast.te14364793385576792824];cases b<;>kernel_rfl
theorem Mh(w:World)(os:OsState):segRunT treeTable p w 11 ann 1 388 (xZ w.2 os) (piecesOf ((body.drop 41).take 9) env cd ⟨92,0,93,8⟩ B)=some (.next,x6 w.2 os,cd,⟨103,0,103,7⟩):=by
 have h:=VI w os (w.2.followText "special-get-raises");unfold wf at h;rw[World.withFollow_self]at h;exact h
def x8(P:Params)(os:OsState):SharedT:=⟨treeOf ((((jc P).take 274).set 3 (dv ((e1 P "__name__" 165 p7)::((ns P).drop 1).take 60) 61)).set 12 (eD (tb.take 96))),274,{},#[],{},599,os⟩
theorem Mg(w:World)(os:OsState):segRunT treeTable p w 11 ann 1 170 (x6 w.2 os) (piecesOf ((body.drop 50).take 6) env cd ⟨103,0,103,7⟩ B)=some (.next,x8 w.2 os,cd,⟨131,0,131,8⟩):=by
 walk_at "w9"
def ob(P:Params)(i:Nat):Obj:=(((((jc P).take 274).set 3 (dv ((e1 P "__name__" 165 p7)::((ns P).drop 1).take 60) 61)).set 12 (eD (tb.take 96))):List Obj).getD i default
noncomputable def Dd (es:Array DictEntry)(n:Nat):Obj:=⟨.type "dict",none,.dict es n,#[]⟩
noncomputable def S (o:Nat->Obj)(os:OsState)(D:Obj)(tk:Nat):SharedT:=⟨((((((((((((((((treeOf ((List.range 274).map o)).ins 274 D).ins 275 (tup [.str "house" 599,.none,.str "open" 600])).ins 276 (tup [.str "house" 602,.str "asked" 603,.str "open" 604])).ins 277 (tup [.str "house" 606,.str "called" 607,.str "open" 608])).ins 278 (tup [.str "house" 610,.str "up" 611,.str "say" 612])).ins 279 (tup [.str "house" 614,.str "far" 615,.str "say" 616])).ins 280 (tup [.str "house" 618,.str "up" 619,.str "close" 620])).ins 281 (tup [.str "house" 622,.str "far" 623,.str "close" 624])).ins 282 (tup [.str "far" 626,.none,.str "open" 627])).ins 283 (tup [.str "far" 629,.str "called" 630,.str "open" 631])).ins 284 (tup [.str "far" 633,.str "asked" 634,.str "open" 635])).ins 285 (tup [.str "far" 637,.str "up" 638,.str "say" 639])).ins 286 (tup [.str "far" 641,.str "near" 642,.str "say" 643])).ins 287 (tup [.str "far" 645,.str "up" 646,.str "close" 647])).ins 288 (tup [.str "far" 649,.str "near" 650,.str "close" 651])),289,{},#[],{},tk,os⟩
noncomputable def S0 (o:Nat->Obj)(os:OsState)(tk:Nat):SharedT:=⟨treeOf ((List.range 274).map o),274,{},#[],{},tk,os⟩
noncomputable def AO (o:Nat->Obj)(os:OsState)(tk:Nat):SharedT:=⟨(treeOf ((List.range 274).map o)).ins 274 (Dd #[] 0),275,{},#[],{},tk,os⟩
theorem VH(P:Params)(os:OsState):x8 P os=S0 (ob P) os 599:=by kernel_rfl
noncomputable def hs (P:Params)(x:Str):Int:=if x.cps.isEmpty then 0 else reduceHash (P.strHash x.cps)
noncomputable def kt:List (List (Option Str)):=[[some "house",none,some "open"],[some "house",some "asked",some "open"],[some "house",some "called",some "open"],[some "house",some "up",some "say"],[some "house",some "far",some "say"],[some "house",some "up",some "close"],[some "house",some "far",some "close"],[some "far",none,some "open"],[some "far",some "called",some "open"],[some "far",some "asked",some "open"],[some "far",some "up",some "say"],[some "far",some "near",some "say"],[some "far",some "up",some "close"],[some "far",some "near",some "close"]]
noncomputable def vt:ao:=[.str "asked" 601,.str "asked" 605,.str "up" 609,.str "up" 613,.str "far" 617,.str "near" 621,.str "shut" 625,.str "called" 628,.str "called" 632,.str "up" 636,.str "up" 640,.str "near" 644,.str "far" 648,.str "shut" 652]
noncomputable def hx (P:Params):Option Str->Int
 |some x=>hs P x
 |none=>hashW P .none
def hi(k:Nat)(P:Params):Int:=Builtin.Tuple.tupleHashOf ((kt.getD k []).map (hx P))
def en(k:Nat)(P:Params):DictEntry:=⟨reduceHash (hi k P),.ref (275+k),vt.getD k .none⟩
def De(k:Nat)(P:Params):Obj:=Dd ((List.range k).map λj=>en j P).toArray k
theorem aM{X:Nat->Prop}(h0:X 0)(h1:X 1)(h2:X 2)(h3:X 3)(h4:X 4)(h5:X 5)(h6:X 6)(h7:X 7)(h8:X 8)(h9:X 9)(h10:X 10)(h11:X 11)(h12:X 12)(h13:X 13):∀k,k<14->X k:=λk hk=>match k,hk with|0,_=>h0|1,_=>h1|2,_=>h2|3,_=>h3|4,_=>h4|5,_=>h5|6,_=>h6|7,_=>h7|8,_=>h8|9,_=>h9|10,_=>h10|11,_=>h11|12,_=>h12|13,_=>h13|n+14,h=>bp h ∅
section
variable(w:World)(b:Bool)(o:Nat->Obj)(os:OsState)(D:Obj)(tk:Nat)(ps:Pos)
abbrev RR{α:Type}(w:World)(b:Bool)(o:Nat->Obj)(os:OsState)(D:Obj)(tk:Nat)(ps:Pos)(n:Nat)(x:Sem α)(a:α):Prop:=Rn p (wf w b) 11 ann cd B n x ps (S o os D tk) a ps (S o os D tk)
local macro_rules | `(tactic| walk_at "h0") => `(tactic| (refine iZ fun K H lv => ?_; rw [lM, PySem.W.Fast.te14364793385576792824]; kernel_rfl))
theorem ru(x:String):RR w b o os D tk ps 1 (rule x) ():=by walk_at "h0"
theorem den(es:Array DictEntry)(n:Nat):Rn p (wf w b) 11 ann cd B 1 (dictEntries 274 none) ps (S o os (Dd es n) tk) es ps (S o os (Dd es n) tk):=by walk_at "h0"
theorem dep(es:Array DictEntry)(n:Nat):Rn p (wf w b) 11 ann cd B 1 (dictEpoch 274 none) ps (S o os (Dd es n) tk) n ps (S o os (Dd es n) tk):=by walk_at "h0"
local macro_rules | `(tactic| walk_at "h1") => `(tactic| (refine iZ fun K H lv => ?_; rw [lM, PySem.W.Fast.te14364793385576792824, PySem.W.Fast.te13066428366354244818]; kernel_rfl))
theorem qu:∀k,k<14->RR w b o os D tk ps 3 (eqIsQuiet 8 (.ref (275+k))) true:=by
 refine aM ?_ ?_ ?_ ?_ ?_ ?_ ?_ ?_ ?_ ?_ ?_ ?_ ?_ ?_<;>walk_at "h1"
local macro_rules | `(tactic| walk_at "h2") => `(tactic| (refine iZ fun K H lv => ?_; rw [lM, PySem.W.Fast.te14364793385576792824, PySem.W.Fast.te13383273872528276517]; kernel_rfl))
theorem ro:∀k,k<14->RR w b o os D tk ps 1 (cRoomFor "hash" [.ref (275+k)]) ():=by
 refine aM ?_ ?_ ?_ ?_ ?_ ?_ ?_ ?_ ?_ ?_ ?_ ?_ ?_ ?_<;>walk_at "h2"
local macro_rules | `(tactic| walk_at "h3") => `(tactic| (refine iZ fun K H lv => ?_; rw [lM, PySem.W.Fast.te14364793385576792824, PySem.W.Fast.te4214721358667687652]; kernel_rfl))
theorem sp:∀k,k<14->RR w b o os D tk ps 1 (specialOf (.ref (275+k)) "__hash__") (some (.builtin "tuple.__hash__")):=by
 refine aM ?_ ?_ ?_ ?_ ?_ ?_ ?_ ?_ ?_ ?_ ?_ ?_ ?_ ?_<;>walk_at "h3"
local macro_rules | `(tactic| walk_at "h4") => `(tactic| (refine iZ fun K H lv => ?_; rw [lM, PySem.W.Fast.te14364793385576792824, PySem.W.Fast.te16697807410369149715]; cases b <;> kernel_rfl))
theorem ca:∀k,k<14->∀E:Sem Value,Rn p (wf w b) 11 ann cd B 29 (callSpecialIfBoundUnlessNone? (.ref (275+k)) "__hash__" E) ps (S o os D tk) (some (.int (hi k w.2) (tk+3))) ps (S o os D (tk+4)):=
 by refine aM (λE=>Rn.more (m1:=27) (by walk_at "h4") ⋯) ?_ ?_ ?_ ?_ ?_ ?_ (λE=>Rn.more (m1:=27) (by walk_at "h4") ⋯) ?_ ?_ ?_ ?_ ?_ ?_;all_goals exact λE=>Rn.more (m1:=29) (by walk_at "h4") ⋯
local macro_rules | `(tactic| walk_at "h5") => `(tactic| (refine iZ fun K H lv => ?_; rw [lM, PySem.W.Fast.te14364793385576792824, PySem.W.Fast.te11826078720135083572]; kernel_rfl))
theorem up:∀k,k<14->Rn p (wf w b) 11 ann cd B 3 (updateDictKeys 274 (λx=>x.push (en k w.2)) none) ps (S o os (De k w.2) tk) () ps (S o os (De (k+1) w.2) tk):=by
 refine aM ?_ ?_ ?_ ?_ ?_ ?_ ?_ ?_ ?_ ?_ ?_ ?_ ?_ ?_<;>walk_at "h5"
noncomputable def pj:List (Nat×Nat):=(List.range 14).flatMap λk=>(List.range k).map λj=>(j,k)
noncomputable def cs:List (List Nat):=[[],[26],[26,20],[26,20,20],[26,20,20,20],[26,20,20,24,20],[26,20,20,20,24,20],[16,16,16,16,16,16,16],[16,16,16,16,16,16,16,26],[16,16,16,16,16,16,16,26,20],[16,16,16,16,16,16,16,26,20,20],[16,16,16,16,16,16,16,26,20,20,20],[16,16,16,16,16,16,16,26,20,20,24,20],[16,16,16,16,16,16,16,26,20,20,20,24,20]]
noncomputable def cn (x:Nat×Nat):Nat:=(cs.getD x.2 []).getD x.1 0
theorem KU:∀x∈pj,RR w b o os D tk ps (cn x) (eqBool (.ref (275+x.1)) (.ref (275+x.2))) false:=T5 λK H lv=>by
 rw[lM,PySem.W.Fast.te14364793385576792824,PySem.W.Fast.te13926502685295537346];cases b<;>kernel_rfl
theorem KS:(pj.all λx=>Nat.ble (cn x) 26)=true:=by kernel_rfl
theorem fi(k:Nat)(hk:k<14)(h:Int):Rn p (wf w b) 11 ann cd B 797 (dictFind 274 (.ref (275+k)) h) ps (S o os (De k w.2) tk) none ps (S o os (De k w.2) tk):=
 find_none (m:=26) (L:=14) (by show((List.range k).map _).length<=14;rw[cb,xH];omega) (ru _ _ _ _ _ _ _) (den _ _ _ _ _ _ _ _) (dep _ _ _ _ _ _ _ _) ((qu w b o os _ tk ps k hk).more ⋯) λe he=>by
  obtain⟨j,hj,rfl⟩:=dH.mp (show e∈(List.range k).map λj=>en j w.2 from he)
  have hj:=qP.mp hj;have hm:(j,k)∈pj:=List.mem_flatMap.mpr ⟨k,qP.mpr hk,dH.mpr ⟨j,qP.mpr hj,rfl⟩⟩;have j1:j<14:=ji hj hk;exact⟨⟨275+j,rfl,cx (Nat.add_lt_add_left hj _)⟩,(qu w b o os _ tk ps j j1).more ⋯,(KU w b o os _ tk ps _ hm).more (Nat.le_of_ble_eq_true (gk.mp KS _ hm))⟩
theorem se(k:Nat)(hk:k<14):Rn p (wf w b) 11 ann cd B 834 (dictSet 274 (.ref (275+k)) (vt.getD k .none)) ps (S o os (De k w.2) tk) () ps (S o os (De (k+1) w.2) (tk+4)):=
 (RA (h:=reduceHash (hi k w.2)) (ru w b o os _ (tk+4) ps) (QD (ru w b o os _ (tk+4) ps) (ro w b o os _ tk ps k hk) (sp w b o os _ tk ps k hk) (ca w b o os _ tk ps k hk)) (fi w b o os (tk+4) ps k hk _) (up w b o os (tk+4) ps k hk)).more ⋯
end
def vp(k:Nat):Value×Value:=(.ref (275+k),vt.getD k .none)
def vs:List (Value×Value):=(List.range' 0 14).map vp
def DD:Obj:=De 14 P
theorem EC(w:World)(b:Bool)(o:Nat->Obj)(os:OsState)(ps:Pos){f:Value×Value->Unit->Sem (ForInStep Unit)}(hf:∀k v,f (k,v) ()=(do dictSet 274 k v;pure (.yield ()))):∀(j k tk:Nat),k+j=14->
 Rn p (wf w b) 11 ann cd B (834*j) (forIn ((List.range' k j).map vp) () f) ps (S o os (De k w.2) tk) () ps (S o os (DD w.2) (tk+4*j))
 |0,k,tk,h=>by rw[show k=14 by omega];exact RK
 |j+1,k,tk,h=>by
  rw[List.range'_succ,cK,show tk+4*(j+1)=(tk+4)+4*j by omega]
  exact(RJ (Wn (hf _ _) (b9 (m2:=0) (se w b o os tk ps k ∅) fI)) (EC w b o os ps hf j (k+1) (tk+4) ∅)).more ∅
theorem Qs(w:World)(b:Bool)(o:Nat->Obj)(os:OsState)(tk:Nat)(ps:Pos){f:Value×Value->Unit->Sem (ForInStep Unit)}(hf:∀k v,f (k,v) ()=(do dictSet 274 k v;pure (.yield ()))):
 Rn p (wf w b) 11 ann cd B 11676 (forIn vs () f) ps (S o os (De 0 w.2) tk) () ps (S o os (DD w.2) (tk+56)):=EC w b o os ps hf 14 0 tk rfl
noncomputable def st:Stmt:=body[56]
noncomputable def sX:List (Option PySem.Expr):=match st with| .Assign _ (.Dict ks _ _) _=>ks|_=>[]
noncomputable def sW:List PySem.Expr:=match st with| .Assign _ (.Dict _ vs _) _=>vs|_=>[]
noncomputable def lj:Pos:=match st with| .Assign _ (.Dict _ _ q) _=>q|_=>default
noncomputable def gX:Pos:=match st with| .Assign _ _ q=>q|_=>default
noncomputable def pC:Pos:=⟨132,0,132,10⟩
theorem MK:st= .Assign [.Name "LINE_STEPS" pC] (.Dict sX sW lj) gX:=by kernel_rfl
noncomputable def its:List (Option (Sem Value)×Sem Value):=(evalEachOpt sX env).zip ((evalEach sW env).map λv=>do let x<-v;standAt lj;pure x)
noncomputable def yq:List (Sem Value×Sem Value):=its.filterMap λx=>x.1.map λk=>(k,x.2)
theorem Xu:exec st env=(do
 standAt gX
 let v<-eval (.Dict sX sW lj) env
 standAt pC
 bindName env "LINE_STEPS" v
 pure .next):=by rw[MK];exact exec_Assign_Name env "LINE_STEPS" pC (.Dict sX sW lj) gX (by kernel_rfl)
theorem dq:eval (.Dict sX sW lj) env=(do standAt lj;dictDisplay its):=by kernel_rfl
theorem dd:dictDisplay its=((subDict yq >>= λd=>pure (some d)) >>= λo=>match o with|some d=>pure (.ref d)|none=>newDict):=by kernel_rfl
theorem UW(w:World)(o:Nat->Obj)(os:OsState)(tk:Nat)(ps:Pos){f:Value×Value->Unit->Sem (ForInStep Unit)}(hf:∀k v,f (k,v) ()=(do dictSet 274 k v;pure (.yield ()))):
 Rn p w 11 ann cd B 11676 (forIn vs () f) ps (S o os (De 0 w.2) tk) () ps (S o os (DD w.2) (tk+56)):=by
 have h:=Qs w (w.2.followText "special-get-raises") o os tk ps hf;unfold wf at h;rw[World.withFollow_self]at h;exact h
theorem at_{w:World}{s:SharedT}{ps ps':Pos}:Rn p w 11 ann cd B 1 (standAt ps') ps s () ps' s:=iZ λK H lv=>by kernel_rfl
theorem al{w:World}{o:Nat->Obj}{os:OsState}{tk:Nat}{ps:Pos}:Rn p w 11 ann cd B 1 (alloc { cls:=.type "dict",data:=.dict #[] }) ps (S0 o os tk) 274 ps (AO o os tk):=iZ λK H lv=>by kernel_rfl
theorem ev{w:World}{o:Nat->Obj}{os:OsState}{ps:Pos}:Rn p w 11 ann cd B 96 (evalPairs yq) ps (AO o os 599) vs lj (S o os (De 0 w.2) 653):=iZ λK H lv=>by
 rw[lM,PySem.W.Fast.te14364793385576792824];kernel_rfl
theorem sub{w:World}{o:Nat->Obj}{os:OsState}{ps:Pos}:Rn p w 11 ann cd B 11773 (subDict yq) ps (S0 o os 599) 274 lj (S o os (DD w.2) 709):=by
 unfold subDict;refine Rn.more (m1:=1+(96+(11676+0)+0)) (b9 al (b9 (a:=()) (rY ?_) fI)) ⋯
 rw[az (Nat.le_of_ble_eq_true (by kernel_rfl))]
 refine b9 ev (rY ?_);exact b9 (UW w o os 653 lj (λ_ _=>rfl)) fI
def qT(P:Params)(os:OsState)(D:Obj):SharedT:=⟨treeOf ((((fin P D).take 289).set 3 (dv ((e1 P "__name__" 165 p7)::((ns P).drop 1).take 61) 62)).set 12 (eD (tb.take 96))),289,{},#[],{},710,os⟩
theorem bn{w:World}{os:OsState}{D:Obj}{ps:Pos}:Rn p w 11 ann cd B 6 (bindName env "LINE_STEPS" (.ref 274)) ps (S (ob w.2) os D 709) () ps (qT w.2 os D):=iZ λK H lv=>by
 rw[lM,PySem.W.Fast.te14364793385576792824];kernel_rfl
theorem VB{w:World}{os:OsState}{ps:Pos}:Rn p w 11 ann cd B 11782 (execs [st] env) ps (S0 (ob w.2) os 599) .next pC (qT w.2 os (DD w.2)):=by
 rw[execs_cons,Xu,dq,dd];refine Rn.more (m1:=(1+((1+((11773+0)+0))+(1+(6+0))))+0) (b9 (a:=.next) (b9 at_ (b9 (b9 at_ (b9 (b9 sub fI) fI)) (b9 at_ (b9 bn fI)))) ?_) ⋯
 exact fI
theorem Mf(w:World)(os:OsState):segRunT treeTable p w 11 ann 1 11783 (x8 w.2 os) (piecesOf [st] env cd ⟨131,0,131,8⟩ B)=some (.next,qT w.2 os (DD w.2),cd,pC):=by
 rw[VH];obtain⟨n,hn,h⟩:=VB (w:=w) (os:=os) (ps:=⟨131,0,131,8⟩) doneF deadEnd id;have e:=DL (m:=1) (r:=(.next,qT w.2 os (DD w.2),cd,pC)) h rfl;have e2:=Dh (11782-n) e;rw[show n+1+(11782-n)=11783 by omega]at e2
 exact e2
def Bm(P:Params)(os:OsState)(D:Obj):SharedT:=⟨treeOf ((((fin P D).take 311).set 3 (dv ((e1 P "__name__" 165 jq)::((ns P).drop 1).take 65) 66)).set 12 (eD (tb.take 105))),311,{},#[],{},745,os⟩
theorem Vk(w:World)(os:OsState)(D:Obj):segRunT treeTable p w 11 ann 1 118 (qT w.2 os D) (piecesOf ((body.drop 57).take 5) env cd pC B)=some (.next,Bm w.2 os D,cd,⟨146,0,146,8⟩):=by
 walk_at "w9"
def Bl(P:Params)(os:OsState)(D:Obj):SharedT:=⟨treeOf ((((fin P D).take 365).set 3 (dv ((e1 P "__name__" 165 gw)::((ns P).drop 1).take 66) 67)).set 12 (eD (tb.take 108))),365,{},#[],{},827,os⟩
theorem Vj(w:World)(os:OsState)(D:Obj):segRunT treeTable p w 11 ann 1 401 (Bm w.2 os D) (piecesOf ((body.drop 62).take 2) env cd ⟨146,0,146,8⟩ B)=some (.next,Bl w.2 os D,cd,⟨174,0,174,8⟩):=by
 walk_at "w9"
def Bk(P:Params)(os:OsState)(D:Obj):SharedT:=⟨treeOf ((((fin P D).take 438).set 3 (dv ((e1 P "__name__" 165 gw)::((ns P).drop 1).take 67) 68)).set 12 (eD (tb.take 111))),438,{},#[],{},925,os⟩
theorem Vi(w:World)(os:OsState)(D:Obj):segRunT treeTable p w 11 ann 1 480 (Bl w.2 os D) (piecesOf ((body.drop 64).take 1) env cd ⟨174,0,174,8⟩ B)=some (.next,Bk w.2 os D,cd,⟨175,0,217,105⟩):=by
 walk_at "w9"
def Bj(P:Params)(os:OsState)(D:Obj):SharedT:=⟨treeOf ((((fin P D).take 459).set 3 (dv ((e1 P "__name__" 165 dh)::((ns P).drop 1).take 68) 69)).set 12 (eD (tb.take 114))),459,{},#[],{},962,os⟩
theorem Vh(w:World)(os:OsState)(D:Obj):segRunT treeTable p w 11 ann 1 238 (Bk w.2 os D) (piecesOf ((body.drop 65).take 2) env cd ⟨175,0,217,105⟩ B)=some (.next,Bj w.2 os D,cd,⟨219,0,225,24⟩):=by
 walk_at "w9"
def B9(P:Params)(os:OsState)(D:Obj):SharedT:=⟨treeOf ((((fin P D).take 579).set 3 (dv ((e1 P "__name__" 165 dh)::((ns P).drop 1).take 69) 70)).set 12 (eD (tb.take 117))),579,{},#[],{},1132,os⟩
theorem VO(w:World)(os:OsState)(D:Obj):segRunT treeTable p w 11 ann 1 718 (Bj w.2 os D) (piecesOf ((body.drop 67).take 1) env cd ⟨219,0,225,24⟩ B)=some (.next,B9 w.2 os D,cd,⟨226,0,307,37⟩):=by
 walk_at "w9"
def B8(P:Params)(os:OsState)(D:Obj):SharedT:=⟨treeOf ((((fin P D).take 579).set 3 (dv ((e1 P "__name__" 165 bZ)::((ns P).drop 1).take 69) 70)).set 12 (eD (tb.take 117))),579,{},#[],{},1134,os⟩
theorem VN(w:World)(os:OsState)(D:Obj):segRunT treeTable p w 11 ann 1 10 (B9 w.2 os D) (piecesOf ((body.drop 68).take 1) env cd ⟨226,0,307,37⟩ B)=some (.next,B8 w.2 os D,cd,⟨308,0,308,8⟩):=by
 walk_at "w9"
def B7(P:Params)(os:OsState)(D:Obj):SharedT:=⟨treeOf ((((fin P D).take 787).set 3 (dv ((e1 P "__name__" 165 bZ)::((ns P).drop 1).take 70) 71)).set 12 (eD (tb.take 120))),787,{},#[],{},1456,os⟩
theorem VM(w:World)(os:OsState)(D:Obj):segRunT treeTable p w 11 ann 1 1162 (B8 w.2 os D) (piecesOf ((body.drop 69).take 1) env cd ⟨308,0,308,8⟩ B)=some (.next,B7 w.2 os D,cd,⟨309,0,478,19⟩):=by
 walk_at "w9"
def B6(P:Params)(os:OsState)(D:Obj):SharedT:=⟨treeOf ((fin P D).take 862),862,{},#[],{},1574,os⟩
theorem VL(w:World)(os:OsState)(D:Obj):segRunT treeTable p w 11 ann 1 366 (B7 w.2 os D) (piecesOf ((body.drop 70).take 12) env cd ⟨309,0,478,19⟩ B)=some (.next,B6 w.2 os D,cd,⟨555,0,571,52⟩):=by
 walk_at "w9"
def TF:BT:=(B6 P default (DD P)).tree
def H1:Heap:=absHeap (TF P) 862 {}
theorem Tc:body=((body.drop 0).take 22)++(((body.drop 22).take 10)++(((body.drop 32).take 5)++(((body.drop 37).take 1)++(((body.drop 38).take 1)++(((body.drop 39).take 1)++(((body.drop 40).take 1)++(((body.drop 41).take 9)++(((body.drop 50).take 6)++([st]++(((body.drop 57).take 5)++(((body.drop 62).take 2)++(((body.drop 64).take 1)++(((body.drop 65).take 2)++(((body.drop 67).take 1)++(((body.drop 68).take 1)++(((body.drop 69).take 1)++(((body.drop 70).take 12)++ []))))))))))))))))):=by kernel_rfl
theorem run_eq(w:World)(os:OsState):topRun treeTable p w 11 ann (12+(1+(391+(315+(362+(214+(214+(214+(214+(388+(170+(11783+(118+(401+(480+(238+(718+(10+(1162+(366+2)))))))))))))))))))) ⟨boot_heap w.2,#[],boot_drawn,boot_toks,os⟩ (topStub p)=some ⟨H1 w.2,#[],{},1574,os⟩:=by
 refine go_top (TL w os) (piece_block (Rl w os) ?_);show topRun treeTable p w 11 ann _ _ (restOf body env cd q0 B)=_;rw[Tc];refine piece_app (segRun_of (Mp w os)) ?_;refine piece_app (segRun_of (Mo w os)) ?_;refine piece_app (segRun_of (Mn w os)) ?_;refine piece_app (segRun_of (Mm w os)) ?_;refine piece_app (segRun_of (Ml w os)) ?_;refine piece_app (segRun_of (Mj w os)) ?_;refine piece_app (segRun_of (Mi w os)) ?_;refine piece_app (segRun_of (Mh w os)) ?_;refine piece_app (segRun_of (Mg w os)) ?_;refine piece_app (segRun_of (Mf w os)) ?_;refine piece_app (segRun_of (Vk w os _)) ?_;refine piece_app (segRun_of (Vj w os _)) ?_;refine piece_app (segRun_of (Vi w os _)) ?_;refine piece_app (segRun_of (Vh w os _)) ?_;refine piece_app (segRun_of (VO w os _)) ?_;refine piece_app (segRun_of (VN w os _)) ?_;refine piece_app (segRun_of (VM w os _)) ?_;refine piece_app (segRun_of (VL w os _)) ?_;kernel_rfl
noncomputable def q:Program:=view p [0,2,3,4,5,6,7,8,9,10,11,12,13,14,15,16,17,18,19,20,21,22,23,24,25,26,27,28,29,30,31,32,33,34,36,37,38,39,40,41,43,44,45,46,47,48,49,50,51,52,53,54,56,57,58,59,60,62,64,66,67,69,71,72,73,74,75,76,77,78,79,80,81]
noncomputable def loose:ay:=["DEEDS","TIME_AT","LINE_STEPS"]
noncomputable def A4:List Addr:=[2,3,4,6,20,21,22,23,24,30,31,37,38,44,45,51,52,58,59,65,66,72,73,79,80,86,87,93,94,95,98,99,105,106,112,113,119,120,126,127,133,134,140,141,147,148,149,155,156,162,163,164,165,166,167,169,170,171,172,173,174,175,176,177,178,179,180,182,183,184,185,186,187,188,189,190,191,192,194,195,196,197,198,199,200,201,202,203,204,206,207,208,209,210,211,212,213,214,215,216,218,219,220,221,222,223,224,225,226,227,228,230,231,232,233,234,235,236,237,238,239,240,246,247,248,251,252,258,259,265,266,272,273,274,275,276,277,278,279,280,281,282,283,284,285,286,287,288,289,295,296,302,303,309,310,311,312,313,314,316,317,323,324,330,331,337,338,344,345,351,352,353,356,357,358,359,360,361,362,363,364,365,366,367,368,370,371,377,378,384,385,391,392,398,399,405,406,412,413,419,420,421,424,425,426,429,430,431,432,433,434,435,436,437,438,439,440,441,443,444,450,451,452,453,454,455,456,457,458,459,460,461,462,464,465,471,472,478,479,485,486,487,490,491,497,498,504,505,511,512,518,519,520,523,524,530,531,537,538,544,545,551,552,558,559,565,566,567,570,571,572,573,574,575,576,577,578,579,580,581,582,584,585,591,592,598,599,605,606,612,613,619,620,626,627,633,634,640,641,647,648,654,655,656,659,660,666,667,673,674,680,681,687,688,694,695,701,702,708,709,715,716,722,723,729,730,736,737,743,744,750,751,757,758,764,765,771,772,778,779,780,781,782,783,784,785,786,792,793,799,800,806,807,813,814,820,821,827,828,834,835,841,842,848,849,855,856,857,860,861]
noncomputable def ks:List Addr:=A4++ [568]
def K0:Frag:=A4.zip (boot_o_2 P::dv ((ns P).take 82) 82::boot_o_4 P::boot_o_6 P::yb.co::yb.fn::KH::KI::KJ::ui.co::ui.fn::uj.co::uj.fn::uk.co::uk.fn::um.co::um.fn::uo.co::uo.fn::uq.co::uq.fn::yc.co::yc.fn::ur.co::ur.fn::uu.co::uu.fn::uw.co::uw.fn::v7::J0::JZ::jK.co::jK.fn::nk.co::nk.fn::jL.co::jL.fn::nq.co::nq.fn::nr.co::nr.fn::jM.co::jM.fn::jN.co::jN.fn::pL P::jO.co::jO.fn::jP.co::jP.fn::JY::d8::JX P::v7::JW::JV::v7::Ie P::Ik::Ic::Ib::Ia::jy::d8::HZ P::v7::HY::HX::v7::HW P::HV::HU::IK::jy::d8::IJ P::v7::II::IH::v7::IG P::IF::IE::ID::jy::d8::IC P::v7::IB::IA::v7::Iz P::Iy::Iw::Iv::jy::d8::Iu P::v7::Ir::Iq::v7::Ip P::Io::Im::Il::jy::d8::Ii P::v7::Ih::Ig::v7::Jn P::Jm::Jl::Jk::Jj::Ji::Jh::pM P::jQ.co::jQ.fn::v7::Jg::Jf::jR.co::jR.fn::nu.co::nu.fn::jS.co::jS.fn::DD P::Je::Jd::Jc::Jb::Ja::IZ::IY::IX::IW::IV::IU::IT::IS::IQ::IP::jT.co::jT.fn::jU.co::jU.fn::jV.co::jV.fn::v7::d8::IM P::v7::IL::GJ::jW.co::jW.fn::jX.co::jX.fn::jY.co::jY.fn::jZ.co::jZ.fn::j0.co::j0.fn::v7::GI::GH::GG::GF P::GD::GC::GB::GA::Gz::v7::d8::Hn P::v7::Hm::Hl::j3.co::j3.fn::j4.co::j4.fn::nv.co::nv.fn::ny.co::ny.fn::nz.co::nz.fn::nE.co::nE.fn::nG.co::nG.fn::v7::Hi::Hh::v7::Hg::Hf::He::Hc P::Hb::Ha::G9::GZ::GY::v7::d8::GX P::v7::GW::GV::j5.co::j5.fn::GU::GS P::GR::GQ::GP::GO::GN::v7::d8::GL P::v7::GK::HS::j6.co::j6.fn::j7.co::j7.fn::j8.co::j8.fn::v7::HR::HQ::nH.co::nH.fn::nI.co::nI.fn::nJ.co::nJ.fn::nK.co::nK.fn::v7::HP::HN::nL.co::nL.fn::nM.co::nM.fn::nN.co::nN.fn::j9.co::j9.fn::ka.co::ka.fn::nO.co::nO.fn::v7::HM::HL::HK::HJ P::HI::HH::HG::HF::HE::v7::d8::HC P::v7::HB::HA::kc.co::kc.fn::iI.co::iI.fn::nP.co::nP.fn::ke.co::ke.fn::nQ.co::nQ.fn::nR.co::nR.fn::kf.co::kf.fn::iJ.co::iJ.fn::kg.co::kg.fn::nS.co::nS.fn::v7::Hz::Hy::nT.co::nT.fn::nU.co::nU.fn::kh.co::kh.fn::nV.co::nV.fn::iK.co::iK.fn::nW.co::nW.fn::nX.co::nX.fn::nY.co::nY.fn::nZ.co::nZ.fn::ki.co::ki.fn::kj.co::kj.fn::n3.co::n3.fn::n5.co::n5.fn::kl.co::kl.fn::n6.co::n6.fn::km.co::km.fn::iL.co::iL.fn::Hw::Hv P::Hu::Ht::Hr::Hq::Ho::kn.co::kn.fn::ko.co::ko.fn::kq.co::kq.fn::kr.co::kr.fn::ku.co::ku.fn::kx.co::kx.fn::iM.co::iM.fn::ky.co::ky.fn::kz.co::kz.fn::kA.co::kA.fn::v7::Gy::Gx::[])
def K:Frag:=K0 P++ [(568,v8)]
theorem gv(P:Params):ks=(K P).map (·.1):=by kernel_rfl
def Hk:Hook:=kHook K ks gv
def Xt(s:Shared):Bool:=xlAt q [] s&&recOk [] s
noncomputable def NN:Nat:=1000000
theorem size_eq(w:World):((boot_heap w.2).isNs mainGlobals&&(#[]:Array GenState).size==0,(boot_heap w.2).objs.size,(boot_heap w.2).nsMap mainGlobals "__annotations__")=(true,11,ann):=by kernel_rfl
theorem Lq:opening p=plainProg p.main.scope.names:=by kernel_rfl
theorem Lr(s:Shared):fenceModules? p s=some s:=by kernel_rfl
theorem V0(w:World)(os:OsState):(staticsOk (importedModules p.main.body) (boot_heap w.2) (H1 w.2)&&namesBound p (H1 w.2)&&gensDone ⟨H1 w.2,#[],{},1574,os⟩&&laidKept (boot_heap w.2) (H1 w.2))=true:=by kernel_rfl
theorem K5(w:World)(os:OsState):PyProof.Rows.seen (List.map (λx=>x.name) (recsOf q)) (ownsOf q) [] ⟨H1 w.2,#[],{},1574,os⟩=expectedOf q:=by rw[PySem.W.Fast.te5160383126252970620];kernel_rfl
theorem K6(w:World)(os:OsState):(H1 w.2).bltView=bltViewBooted:=by kernel_rfl
theorem K7(w:World)(os:OsState):(H1 w.2).keysOk (looseW q loose) (List.map (λx=>x.name) (recsOf q)) (List.map (λx=>x.fst) (litsOf q)) (List.map (λx=>x.name) (clssOf q (looseW q loose)))=true:=by rw[PySem.W.Fast.te10880121769531294198];kernel_rfl
theorem K8(w:World)(os:OsState):(H1 w.2).accountedOkI (importedModules p.main.body)=true:=by rw[PySem.W.Fast.te14722251495701143533];kernel_rfl
theorem K9(w:World)(os:OsState):((H1 w.2).isNs mainGlobals&&(H1 w.2).isNs builtinsNs)=true:=by kernel_rfl
theorem La(w:World)(os:OsState):tablesOk q (H1 w.2)=true:=by rw[PySem.W.Fast.te10994771534591457954];kernel_rfl
theorem Lb(w:World)(os:OsState):Xt ⟨H1 w.2,#[],{},1574,os⟩=true:=by kernel_rfl
theorem Lc(w:World)(os:OsState):tabsOk q ⟨H1 w.2,#[],{},1574,os⟩=true:=by rw[PySem.W.Fast.te479339242167458305];kernel_rfl
theorem Ld(w:World)(os:OsState):pinSeenD q (drecsOf q) ⟨H1 w.2,#[],{},1574,os⟩=pinGoodD (drecsOf q):=by kernel_rfl
theorem Le(w:World)(os:OsState):plainSeenE q (looseW q loose) ⟨H1 w.2,#[],{},1574,os⟩=plainGoodE q (looseW q loose):=by rw[PySem.W.Fast.te2386780881361962483];kernel_rfl
theorem Lf(w:World)(os:OsState):plainSeenD q loose ⟨H1 w.2,#[],{},1574,os⟩=plainGoodD q loose:=by rw[PySem.W.Fast.te11698064438423848299];kernel_rfl
theorem Lg(w:World)(os:OsState):wideSeen q ⟨H1 w.2,#[],{},1574,os⟩=wideGood q:=by rw[PySem.W.Fast.te7317090234206586261];kernel_rfl
theorem Lh(w:World)(os:OsState):clsSeenW q loose ⟨H1 w.2,#[],{},1574,os⟩=clsGoodW q loose:=by rw[PySem.W.Fast.te7369524293546568484];kernel_rfl
theorem VZ(w:World)(os:OsState):openSeen q loose (importedModules p.main.body) Xt true ⟨H1 w.2,#[],{},1574,os⟩=openGood q loose:=
 Sv (K5 w os) (K6 w os) (K7 w os) (K8 w os) (K9 w os) (La w os) (Lb w os) (Lc w os) (Ld w os) (Le w os) (Lf w os) (Lg w os) (Lh w os)
theorem Wl(w:World)(os:OsState):Hk.obs ⟨H1 w.2,#[],{},1574,os⟩=Hk.val w:=by kernel_rfl
theorem left:LeftO p q loose Xt Hk.obs Hk.val NN:=
 LeftO.of_pieces (H₀:=boot_heap) (H₁:=H1) (gs₀:=#[]) (gs₁:=#[]) (d₀:=boot_drawn) (d₁:={}) (k₀:=boot_toks) (k₁:=1574) (m₀:=11) (ann:=ann) (M:=12+(1+(391+(315+(362+(214+(214+(214+(214+(388+(170+(11783+(118+(401+(480+(238+(718+(10+(1162+(366+2)))))))))))))))))))) (boot_open Lq ⋯ Lr) size_eq run_eq ⋯
  λw=>funext λos=>Prod.ext (V0 w os) (Prod.ext (VZ w os) (Wl w os))
end
end H31
namespace R
open PySem PySem.Spec PyProof.Rows L2
section
variable {Γ:G}{σ:bq}{M:RM}{Q:aq}{D:RD}{a b c d e t l h o k r it:T}{i n:Nat}{QB:Bool->RM->Prop}{QA:LR->RM->Prop}{QI:LR->(RM->Prop)->(RM->RM)->RM->Prop}{QP:Option Int->RM->Prop}
def yi(o:Option (Option RV))(Q:RV->Prop):Prop:=match o with|some (some v)=>Q v|_=>False
theorem qmM{v:RV}{Q:RV->Prop}:yi (some (some v)) Q=Q v:=rfl
theorem t_v:(tr Γ (.v i)).E σ M Q=yi σ[i]? (λv=>Q v M):=by
 show jz i σ M Q=_;unfold jz yi;rfl
theorem t_i{n:Int}:(tr Γ (.i n)).E σ M Q=Q (.int n) M:=rfl
theorem t_s{x:Str}:(tr Γ (.s x)).E σ M Q=Q (.str x) M:=rfl
theorem t_b{x:Bool}:(tr Γ (.b x)).E σ M Q=Q (.bl x) M:=rfl
theorem t_n:(tr Γ .n).E σ M Q=Q .au M:=rfl
theorem jf{x:Str}{i:Int}(h:Γ.S.gi.lookup x=some i):(tr Γ (.g x)).E σ M Q=Q (.int i) M:=by
 show(match Γ.S.gi.lookup x with|some i=>rC (.int i)|none=>fR) σ M Q=_
 rw[h];rfl
theorem qBL{x:String}:(tr Γ (.ty x)).E σ M Q=Q (.ty x) M:=rfl
theorem qBU{o:Operator}:(tr Γ (.op o a b)).E σ M Q=(tr Γ a).E σ M λx M1=>(tr Γ b).E σ M1 λy M2=>il o x y M2 Q:=rfl
theorem qCa{o:CmpOp}:(tr Γ (.cm o a b)).E σ M Q=(tr Γ a).E σ M λx M1=>(tr Γ b).E σ M1 λy M2=>cz o x y M2 Q:=rfl
def kB(Q:Bool->RM->Prop):aq:=λv M=>match v with| .bl k=>Q k M|_=>False
theorem ql{k:Bool}:kB QB (.bl k) M=QB k M:=rfl
noncomputable def yf (p:CmpOp)(Γ:G)(c:T)(σ:bq)(y:RV)(Q:aq):aq:=λz M3=>match z with
 | .bl k=>if k=true then(tr Γ c).E σ M3 λw M4=>cz p y w M4 Q else Q (.bl false) M3
 |_=>False
theorem ml{k:Bool}{A B:Prop}:((k=true->A)/\(k=false->B))=if k=true then A else B:=by cases k<;>simp
theorem qCb{o p:CmpOp}:(tr Γ (.ch o p a b c)).E σ M Q=(tr Γ a).E σ M λx M1=>(tr Γ b).E σ M1 λy M2=>cz o x y M2 (yf p Γ c σ y Q):=by
 show qj _ _ _ _ _ σ M Q=_;unfold qj yf;simp only[ml]<;>rfl
theorem qsP{p:CmpOp}{y:RV}{k:Bool}:yf p Γ c σ y Q (.bl k) M=if k=true then(tr Γ c).E σ M λw M4=>cz p y w M4 Q else Q (.bl false) M:=rfl
theorem T_v:(tr Γ (.v i)).T σ M QB=(tr Γ (.v i)).E σ M (kB QB):=rfl
theorem qEe{o:CmpOp}:(tr Γ (.cm o a b)).T σ M QB=(tr Γ (.cm o a b)).E σ M (kB QB):=rfl
theorem qEf{o p:CmpOp}:(tr Γ (.ch o p a b c)).T σ M QB=(tr Γ (.ch o p a b c)).E σ M (kB QB):=rfl
theorem qEc{c:Nat}{f:Str}:(tr Γ (.fl c f a)).T σ M QB=(tr Γ (.fl c f a)).E σ M (kB QB):=rfl
theorem qEg{f:Nat}:(tr Γ (.ca f a)).T σ M QB=(tr Γ (.ca f a)).E σ M (kB QB):=rfl
theorem qEa{f:Nat}:(tr Γ (.me f o a)).T σ M QB=(tr Γ (.me f o a)).E σ M (kB QB):=rfl
theorem qEh{f:Str}:(tr Γ (.bf f a)).T σ M QB=(tr Γ (.bf f a)).E σ M (kB QB):=rfl
theorem qEd{neg:Bool}:(tr Γ (.dn neg k d)).T σ M QB=(tr Γ (.dn neg k d)).E σ M (kB QB):=rfl
theorem qEb{neg:Bool}{x:Str}:(tr Γ (.ic neg a x)).T σ M QB=(tr Γ (.ic neg a x)).E σ M (kB QB):=rfl
theorem qD7{x:Str}:(tr Γ (.tn x a)).T σ M QB=(tr Γ (.tn x a)).E σ M (kB QB):=rfl
theorem T_b{x:Bool}:(tr Γ (.b x)).T σ M QB=QB x M:=rfl
theorem qEi:(tr Γ (.an a b)).T σ M QB=(tr Γ a).T σ M λc M1=>if c=true then(tr Γ b).T σ M1 QB else QB false M1:=by
 show wZ _ _ σ M QB=_;unfold wZ;simp only[ml]
theorem qD8:(tr Γ (.or a b)).T σ M QB=(tr Γ a).T σ M λc M1=>if c=true then QB true M1 else(tr Γ b).T σ M1 QB:=by
 show xy _ _ σ M QB=_;unfold xy;simp only[ml]
theorem qD9:(tr Γ (.no a)).T σ M QB=(tr Γ a).T σ M λc M1=>QB (!c) M1:=rfl
def uy(N:RM->Prop)(Q:aq):aq:=λx M=>match x with| .bl c=>if c=true then N M else Q (.bl false) M|_=>False
def yh(N:RM->Prop)(Q:aq):aq:=λx M=>match x with| .bl c=>if c=true then Q (.bl true) M else N M|_=>False
theorem gM{N:RM->Prop}{c:Bool}:uy N Q (.bl c) M=if c=true then N M else Q (.bl false) M:=rfl
theorem qsL{N:RM->Prop}{c:Bool}:yh N Q (.bl c) M=if c=true then Q (.bl true) M else N M:=rfl
theorem qCf:(tr Γ (.an a b)).E σ M Q=(tr Γ a).E σ M (uy (λM1=>(tr Γ b).E σ M1 Q) Q):=by
 show wH _ _ σ M Q=_;unfold wH uy;simp only[ml]<;>rfl
theorem qBT:(tr Γ (.or a b)).E σ M Q=(tr Γ a).E σ M (yh (λM1=>(tr Γ b).E σ M1 Q) Q):=by
 show wU _ _ σ M Q=_;unfold wU yh;simp only[ml]<;>rfl
def A2(Q:aq):aq:=λx M=>match x with| .bl c=>Q (.bl (!c)) M|_=>False
theorem qsM{c:Bool}:A2 Q (.bl c) M=Q (.bl (!c)) M:=rfl
theorem qBV:(tr Γ (.no a)).E σ M Q=(tr Γ a).E σ M (A2 Q):=rfl
theorem qBZ:(tr Γ (.ie t a b)).E σ M Q=(tr Γ t).T σ M λc M1=>if c=true then(tr Γ a).E σ M1 Q else(tr Γ b).E σ M1 Q:=by
 show xx _ _ _ σ M Q=_;unfold xx;simp only[ml]
theorem qBN:(tr Γ (.tu a)).E σ M Q=(tr Γ a).A σ M λrs M1=>rs.length<=sizeLine/\Q (.tup rs) M1:=rfl
theorem qBX:(tr Γ (.ll a)).E σ M Q=(tr Γ a).A σ M λrs M1=>rs.length<=sizeLine/\Q (.ls rs) M1:=rfl
theorem qBW:(tr Γ (.lm a)).E σ M Q=(tr Γ a).A σ M λrs M1=>rs.length<=sizeLine/\∀p,M1 p=none->Q (.ref p) (put M1 p (.lst rs)):=rfl
theorem qB2:(tr Γ .e0).A σ M QA=QA [] M:=rfl
theorem qB1:(tr Γ (.ec a r)).A σ M QA=(tr Γ a).E σ M λx M1=>(tr Γ r).A σ M1 λxs M2=>QA (x::xs) M2:=rfl
theorem qBY:(tr Γ (.ix a b)).E σ M Q=(tr Γ a).E σ M λx M1=>(tr Γ b).E σ M1 λy M2=>fq x y M2 Q:=rfl
theorem qBQ:(tr Γ (.sl a l h)).E σ M Q=(tr Γ a).E σ M λx M1=>(tr Γ l).P σ M1 λlo M2=>(tr Γ h).P σ M2 λu M3=>mH x lo u M3 Q:=rfl
theorem qBS:(tr Γ .p0).P σ M QP=QP none M:=rfl
def kP(Q:Option Int->RM->Prop):aq:=λx M=>match x with| .int i=>Q (some i) M|_=>False
theorem qsK{i:Int}:kP QP (.int i) M=QP (some i) M:=rfl
theorem qBR:(tr Γ (.p1 a)).P σ M QP=(tr Γ a).E σ M (kP QP):=rfl
theorem qB0{c:Nat}{f:Str}:(tr Γ (.fl c f a)).E σ M Q=(tr Γ a).E σ M (pX (Γ.C c) f Q):=rfl
theorem qCc{f:Nat}:(tr Γ (.ca f a)).E σ M Q=(tr Γ a).A σ M λrs M1=>Γ.fn f rs M1 Q:=rfl
theorem dP{f:Nat}{d:FD}(h:Γ.S.fd[f]? =some d):(tr Γ (.me f o a)).E σ M Q=(tr Γ o).E σ M (ou (Γ.C d.cls) d.name (Γ.fn f) (tr Γ a).A σ Q):=by
 show(match Γ.S.fd[f]? with|some d=>pK (Γ.C d.cls) d.name (Γ.fn f) (tr Γ o).E (tr Γ a).A|none=>fR) σ M Q=_
 rw[h];rfl
theorem tG{f:Nat}{d:FD}(h:Γ.S.fd[f]? =some d):(tr Γ (.mk f a)).E σ M Q=(tr Γ a).A σ M λrs M1=>∀x,M1 x=none->Γ.kH f (.ref x::rs) (put M1 x (.ins (Γ.C d.cls) [])) λv M2=>v= .au/\Q (.ref x) M2:=by
 show(match Γ.S.fd[f]? with|some d=>qm (Γ.C d.cls) (Γ.kH f) (tr Γ a).A|none=>fR) σ M Q=_
 rw[h];rfl
theorem qCd{f:Str}:(tr Γ (.bf f a)).E σ M Q=(tr Γ a).A σ M λrs M1=>eZ f rs M1 Q:=rfl
theorem qB6:(tr Γ (.dg d k)).E σ M Q=(tr Γ d).E σ M λx M1=>(tr Γ k).E σ M1 λy M2=>tw Q x y M2:=rfl
theorem qB4{neg:Bool}:(tr Γ (.dn neg k d)).E σ M Q=(tr Γ k).E σ M λy M1=>(tr Γ d).E σ M1 λx M2=>xD neg Q x y M2:=rfl
theorem qB7:(tr Γ (.d1 d k)).E σ M Q=(tr Γ d).E σ M λx M1=>rf M1 x/\(tr Γ k).E σ M1 λy M2=>sV Q x y .au M2:=rfl
theorem qB5:(tr Γ .dk).E σ M Q= ∀p,M p=none->Q (.ref p) (put M p (.dk [])):=rfl
theorem qB3:(tr Γ .dt).E σ M Q= ∀p,M p=none->Q (.ref p) (put M p (.dt [])):=rfl
theorem pw{neg:Bool}{x:Str}{ss:ay}(h:Γ.S.gt.lookup x=some ss):(tr Γ (.ic neg a x)).E σ M Q=(tr Γ a).E σ M λx M1=>aG 15 x=true/\Q (.bl (if neg then !inR x (ss.map RV.str)else inR x (ss.map RV.str))) M1:=by
 show(match Γ.S.gt.lookup x with|some ss=>qv neg ss (tr Γ a).E|none=>fR) σ M Q=_
 rw[h];rfl
theorem Xl:(tr Γ (.se a b)).S D σ M=(tr Γ a).S { D with nx:=(tr Γ b).S D } σ M:=rfl
theorem qCD:(tr Γ .en).S D σ M=D.nx σ M:=rfl
theorem TY:(tr Γ (.set i a)).S D σ M=(tr Γ a).E σ M λx M1=>D.nx (σ.set i (some x)) M1:=rfl
theorem qCy:(tr Γ (.re a)).S D σ M=(tr Γ a).E σ M D.rt:=rfl
theorem qCA:(tr Γ (.bg t a b)).S D σ M=(tr Γ t).T σ M λc M1=>if c=true then(tr Γ a).S D σ M1 else(tr Γ b).S D σ M1:=by
 show pv _ _ _ D σ M=_;unfold pv;simp only[ml]
theorem qCC:(tr Γ (.ex a)).S D σ M=(tr Γ a).E σ M λ_ M1=>D.nx σ M1:=rfl
theorem qCx{c:Nat}{f:Str}:(tr Γ (.sf c f o a)).S D σ M=(tr Γ a).E σ M λy M1=>(tr Γ o).E σ M1 (pZ (Γ.C c) f y (D.nx σ)):=rfl
theorem qCE:(tr Γ (.dp d k a)).S D σ M=(tr Γ a).E σ M λv M1=>(tr Γ d).E σ M1 λx M2=>(tr Γ k).E σ M2 λy M3=>q8 M3 x y v (D.nx σ):=rfl
def A3(is:List Nat)(σ:bq)(N:bq->RM->Prop):aq:=λx M=>match x with| .tup xs=>xs.length=is.length/\N (sG σ is xs) M|_=>False
theorem qpx{is:List Nat}{xs:LR}{N:bq->RM->Prop}:A3 is σ N (.tup xs) M=(xs.length=is.length/\N (sG σ is xs) M):=rfl
theorem qCv{is:List Nat}:(tr Γ (.un is a)).S D σ M=(tr Γ a).E σ M (A3 is σ D.nx):=rfl
theorem zw{i j:Int}:il .Add (.int i) (.int j) M Q=Q (.int (i+j)) M:=rfl
theorem qvS{i j:Int}:il .Sub (.int i) (.int j) M Q=Q (.int (i-j)) M:=rfl
theorem qDN{i j:Int}:cz .Lt (.int i) (.int j) M Q=Q (.bl (decide (i<j))) M:=rfl
theorem qDO{i j:Int}:cz .LtE (.int i) (.int j) M Q=Q (.bl (decide (i<=j))) M:=rfl
theorem qDQ{i j:Int}:cz .Gt (.int i) (.int j) M Q=Q (.bl (decide (j<i))) M:=rfl
theorem qDR{i j:Int}:cz .GtE (.int i) (.int j) M Q=Q (.bl (decide (j<=i))) M:=rfl
theorem qDP{x:RV}:cz .Is x .au M Q=Q (.bl (fe x)) M:=rfl
theorem qqg{x:RV}:cz .IsNot x .au M Q=Q (.bl (!fe x)) M:=rfl
theorem qwO{i j:Int}:cz .Eq (.int i) (.int j) M Q=Q (.bl (i==j)) M:=by
 show(_/\_/\Q (.bl (bw (.int i) (.int j))) M)=_;simp[et,aG,bw]
theorem qwL{i j:Str}:cz .Eq (.str i) (.str j) M Q=Q (.bl (i==j)) M:=by
 show(_/\_/\Q (.bl (bw (.str i) (.str j))) M)=_;simp[et,aG,bw]
theorem qwI{i j:Int}:cz .NotEq (.int i) (.int j) M Q=Q (.bl (!(i==j))) M:=by
 show(_/\_/\Q (.bl (!bw (.int i) (.int j))) M)=_;simp[et,aG,bw]
theorem qwG{i j:Str}:cz .NotEq (.str i) (.str j) M Q=Q (.bl (!(i==j))) M:=by
 show(_/\_/\Q (.bl (!bw (.str i) (.str j))) M)=_;simp[et,aG,bw]
end
section
variable {Γ:G}{σ:bq}{M:RM}{Q:aq}{D:RD}{a b c d e t l h o k r it:T}{i n:Nat}{QB:Bool->RM->Prop}{QA:LR->RM->Prop}{QI:LR->(RM->Prop)->(RM->RM)->RM->Prop}{x:Addr}{f:Str}{C:Addr}{N:RM->Prop}{y v z:RV}
def wO{α:Type}(o:Option α)(Q:α->Prop):Prop:=match o with|some v=>Q v|none=>False
theorem oP{α:Type}{v:α}{Q:α->Prop}:wO (some v) Q=Q v:=rfl
def fO(C:Addr)(f:Str)(Q:aq)(M:RM)(o:Option RO):Prop:=match o with
 |some (.ins C' fs)=>C'=C/\wO (fs.lookup f) λv=>Q v M
 |_=>False
theorem qpF:pX C f Q (.ref x) M=fO C f Q M (M x):=by
 show(match M x with|some (.ins C' fs)=>C'=C/\(match fs.lookup f with|some v=>Q v M|none=>False)|_=>False)=_
 unfold fO;cases M x with
 |none=>rfl
 |some u=>
  cases u<;>first|rfl|skip
  rename_i C' fs;show(C'=C/\(match fs.lookup f with|some v=>Q v M|none=>False))=(C'=C/\wO (fs.lookup f) λv=>Q v M)
  cases fs.lookup f<;>rfl
theorem Uu{fs:List (Str×RV)}:fO C f Q M (some (.ins C fs))=wO (fs.lookup f) λv=>Q v M:=by
 show(C=C/\_)=_;rw[eq_self_iff_true,true_and]
def sO(C:Addr)(f:Str)(y:RV)(N:RM->Prop)(x:Addr)(M:RM)(o:Option RO):Prop:=match o with
 |some (.ins C' fs)=>C'=C/\fs.length<1000/\N (put M x (.ins C (jv f y fs)))
 |_=>False
theorem qpz:pZ C f y N (.ref x) M=sO C f y N x M (M x):=rfl
theorem TZ{fs:List (Str×RV)}:sO C f y N x M (some (.ins C fs))=(fs.length<1000/\N (put M x (.ins C (jv f y fs)))):=by
 show(C=C/\_)=_;rw[eq_self_iff_true,true_and]
def mO(C:Addr)(m:Str)(sp:bE)(t:bx)(σ:bq)(Q:aq)(x:Addr)(M:RM)(o:Option RO):Prop:=match o with
 |some (.ins C' fs)=>C'=C/\fs.lookup m=none/\t σ M λrs M2=>sp (.ref x::rs) M2 Q
 |_=>False
theorem qpB{m:Str}{sp:bE}{t:bx}:ou C m sp t σ Q (.ref x) M=mO C m sp t σ Q x M (M x):=rfl
theorem UU{m:Str}{sp:bE}{t:bx}{fs:List (Str×RV)}:mO C m sp t σ Q x M (some (.ins C fs))=(fs.lookup m=none/\t σ M λrs M2=>sp (.ref x::rs) M2 Q):=by
 show(C=C/\_)=_;rw[eq_self_iff_true,true_and]
def gO(Q:aq)(y:RV)(M:RM)(o:Option RO):Prop:=match o.bind (qz . y)with
 |some (some v)=>Q v M
 |_=>False
theorem qlW:tw Q (.ref x) y M=gO Q y M (M x):=rfl
def iO(neg:Bool)(Q:aq)(y:RV)(M:RM)(o:Option RO):Prop:=match o.bind (qz . y)with
 |some r=>Q (.bl (if neg then !r.isSome else r.isSome)) M
 |none=>False
theorem qoq{neg:Bool}:xD neg Q (.ref x) y M=iO neg Q y M (M x):=rfl
def dO(Q:aq)(y z:RV)(M:RM)(o:Option RO):Prop:=match o.bind (qz . y)with
 |some r=>Q (r.getD z) M
 |none=>False
theorem qjD:sV Q (.ref x) y z M=dO Q y z M (M x):=rfl
def qO(o:Option RO):Prop:=match o with
 |some (.dk _)=>True
 |some (.dt _)=>True
 |some (.fk _)=>True
 |some (.ft _)=>True
 |_=>False
theorem qpW:rf M (.ref x)=qO (M x):=rfl
theorem qvv{kvs:bO}:qO (some (.dk kvs))=True:=rfl
theorem qvu{kvs:List (TK×RV)}:qO (some (.dt kvs))=True:=rfl
theorem qwl{kvs:bO}{m:Int}:gO Q (.int m) M (some (.dk kvs))=wO (lk kvs (.inl m)) λv=>Q v M:=by
 show(match some (lk kvs (.inl m))with|some (some v)=>Q v M|_=>False)=_
 cases lk kvs (.inl m)<;>rfl
theorem qwf{neg:Bool}{kvs:bO}{m:Int}:iO neg Q (.int m) M (some (.dk kvs))=Q (.bl (if neg then !(lk kvs (.inl m)).isSome else(lk kvs (.inl m)).isSome)) M:=rfl
theorem qwy{kvs:bO}{m:Int}:dO Q (.int m) z M (some (.dk kvs))=Q ((lk kvs (.inl m)).getD z) M:=rfl
theorem Gi{kvs:List (TK×RV)}{s:TK}(h:fV y=some s):dO Q y z M (some (.dt kvs))=Q ((lk kvs s).getD z) M:=by
 show(match(fV y).map (lk kvs)with|some r=>Q (r.getD z) M|none=>False)=_
 rw[h];rfl
def pO(y v:RV)(N:RM->Prop)(x:Addr)(M:RM)(o:Option RO):Prop:=match o with
 |some (.dk kvs)=>match fm y with
  |some k=>kvs.length<sizeLine/\N (put M x (.dk (pt kvs k v)))
  |none=>False
 |some (.dt kvs)=>match fV y with
  |some k=>kvs.length<sizeLine/\N (put M x (.dt (pt kvs k v)))
  |none=>False
 |_=>False
noncomputable def AY (y:RV)(N:RM->Prop)(x:Addr)(M:RM):Option RO->Prop
 |some (.dk kvs)=>match fm y with
  |some k=>(lk kvs k).isSome=true/\N (put M x (.dk (dr kvs k)))
  |none=>False
 |some (.dt kvs)=>match fV y with
  |some k=>(lk kvs k).isSome=true/\N (put M x (.dt (dr kvs k)))
  |none=>False
 |_=>False
theorem qqd:pU M (.ref x) y N=AY y N x M (M x):=rfl
theorem qtd{kvs:bO}{m:Int}:AY (.int m) N x M (some (.dk kvs))=((lk kvs (.inl m)).isSome=true/\N (put M x (.dk (dr kvs (.inl m))))):=rfl
theorem qqb:q8 M (.ref x) y v N=pO y v N x M (M x):=rfl
theorem qvI{kvs:bO}{m:Int}:pO (.int m) v N x M (some (.dk kvs))=(kvs.length<sizeLine/\N (put M x (.dk (pt kvs (.inl m) v)))):=rfl
theorem wJ{kvs:List (TK×RV)}{s:TK}(h:fV y=some s):pO y v N x M (some (.dt kvs))=(kvs.length<sizeLine/\N (put M x (.dt (pt kvs s v)))):=by
 show(match fV y with|some k=>kvs.length<sizeLine/\N (put M x (.dt (pt kvs k v)))|none=>False)=_
 rw[h]
def aO(t:bx)(σ:bq)(Q:aq)(x:Addr)(M:RM)(o:Option RO):Prop:=match o with
 |some (.lst _)=>t σ M λrs M2=>∃ys y,rs= [y]/\M2 x=some (.lst ys)/\ys.length<sizeLine/\Q .au (put M2 x (.lst (ys++ [y])))
 |_=>False
def A0(t:bx)(σ:bq)(Q:aq):aq:=λv M=>match v with
 | .ref x=>aO t σ Q x M (M x)
 |_=>False
theorem qCe:(tr Γ (.ap o a)).E σ M Q=(tr Γ o).E σ M (A0 (tr Γ a).A σ Q):=by
 show wY _ _ σ M Q=_;unfold wY;congr 1;funext v M1;cases v<;>try rfl
 rename_i p;show((∃ys,M1 p=some (.lst ys))/\_)=aO _ _ _ p M1 (M1 p);cases e:M1 p with
 |none=>exact propext ⟨λz=>(by obtain⟨⟨_,z⟩,_⟩:=z;cases z),λz=>z.elim⟩
 |some u=>cases u<;>first|exact propext ⟨λz=>(by obtain⟨⟨_,z⟩,_⟩:=z;cases z),λz=>z.elim⟩|exact propext ⟨λz=>z.2,λz=>⟨⟨_,rfl⟩,z⟩⟩
theorem qpH{t:bx}:A0 t σ Q (.ref x) M=aO t σ Q x M (M x):=rfl
theorem qtP{t:bx}{xs:LR}:aO t σ Q x M (some (.lst xs))=t σ M λrs M2=>∃ys y,rs= [y]/\M2 x=some (.lst ys)/\ys.length<sizeLine/\Q .au (put M2 x (.lst (ys++ [y]))):=rfl
theorem gn{xs:LR}{m:Int}:fq (.tup xs) (.int m) M Q=wO (bz xs m) λv=>Q v M:=by
 show(match bz xs m with|some v=>Q v M|none=>False)=_
 cases bz xs m<;>rfl
theorem SR{xs:LR}{m:Int}:fq (.ls xs) (.int m) M Q=wO (bz xs m) λv=>Q v M:=by
 show(match bz xs m with|some v=>Q v M|none=>False)=_
 cases bz xs m<;>rfl
def xO(m:Int)(Q:aq)(M:RM)(o:Option RO):Prop:=match o with
 |some (.lst xs)=>wO (bz xs m) λv=>Q v M
 |_=>False
theorem qqH{m:Int}:fq (.ref x) (.int m) M Q=xO m Q M (M x):=by
 show(match M x with|some (.lst xs)=>(match bz xs m with|some v=>Q v M|none=>False)|_=>False)=_
 unfold xO;cases M x with
 |none=>rfl
 |some u=>
  cases u<;>first|rfl|skip
  rename_i xs;show(match bz xs m with|some v=>Q v M|none=>False)=wO (bz xs m) λv=>Q v M
  cases bz xs m<;>rfl
theorem sF{m:Int}{xs:LR}:xO m Q M (some (.lst xs))=wO (bz xs m) λv=>Q v M:=rfl
theorem qtq{xs:LR}{lo hi:Option Int}:mH (.tup xs) lo hi M Q=Q (.tup (fK xs lo hi)) M:=rfl
theorem qwD{xs:LR}{lo hi:Option Int}:mH (.ls xs) lo hi M Q=Q (.ls (fK xs lo hi)) M:=rfl
def vO(md:Bool)(Q:aq)(M:RM)(o:Option RO):Prop:=wO (o.bind wB) λxs=>lx md xs M Q
theorem qpC{md:Bool}:K3 md Q (.ref x) M=vO md Q M (M x):=by
 show(match(M x).bind wB with|some xs=>lx md xs M Q|none=>False)=_
 unfold vO;cases(M x).bind wB<;>rfl
theorem quq{md:Bool}{kvs:bO}:vO md Q M (some (.dk kvs))=lx md (kvs.map (·.2)) M Q:=rfl
theorem qup{md:Bool}{kvs:List (TK×RV)}:vO md Q M (some (.dt kvs))=lx md (kvs.map (·.2)) M Q:=rfl
theorem Ra{xs:LR}:lx false xs M Q=Q (.ls xs) M:=rfl
theorem qta{xs:LR}:lx true xs M Q= ∀p,M p=none->Q (.ref p) (put M p (.lst xs)):=rfl
def K4(i j:Nat)(σ:bq)(N:bq->RM->Prop):LR->RM->Prop:=λrs M1=>match rs with
 | [v,w]=>N ((σ.set i (some v)).set j (some w)) M1
 |_=>False
theorem qpA{j:Nat}{N:bq->RM->Prop}:K4 i j σ N [v,y] M=N ((σ.set i (some v)).set j (some y)) M:=rfl
theorem Md{c:Nat}:(tr Γ (.af c f o a)).S D σ M=(tr Γ o).E σ M (rg (Γ.C c) f (tr Γ a).E σ (D.nx σ)):=rfl
theorem qCw:(tr Γ (.sp l k a)).S D σ M=(tr Γ a).E σ M λv M1=>(tr Γ l).E σ M1 λo M2=>(tr Γ k).E σ M2 λi M3=>pd o i v M3 λM4=>D.nx σ M4:=rfl
theorem qCB{tup:Bool}{is:List Nat}:(tr Γ (.fo tup is it b)).S D σ M=(tr Γ it).I σ M λxs ok un M1=>gR (match tup,is with|true,is=>mR is|false,[i]=>mQ i|_,_=>λ_ _ _ _=>False) (tr Γ b).S D ok un xs σ M1:=rfl
noncomputable def kS (Q:LR->(RM->Prop)->(RM->RM)->RM->Prop):aq:=λv M1=>match v with
 | .tup xs=>Q xs cu id M1
 | .ls xs=>Q xs cu id M1
 | .ref a=>match M1 a with
  |some (.lst xs)=>Q xs (λM=>M a=some (.lst xs)) id M1
  |_=>False
 |_=>False
theorem qDq:(tr Γ (.is a)).I σ M QI=(tr Γ a).E σ M (kS QI):=rfl
theorem qv4{xs:LR}:kS QI (.ls xs) M=QI xs cu id M:=rfl
theorem qsJ{xs:LR}:kS QI (.tup xs) M=QI xs cu id M:=rfl
theorem qDn:(tr Γ (.r1 a)).I σ M QI=(tr Γ a).E σ M λv M1=>sT QI [v] M1:=rfl
theorem qvl{m:Int}:sT QI [.int m] M=(-(2 ^ 62)<=m/\m<2 ^ 62/\QI (nums m.toNat) cu id M):=rfl
theorem qDp:(tr Γ (.iv a)).I σ M QI=(tr Γ a).E σ M (qw false QI):=rfl
theorem qDr:(tr Γ (.im a)).I σ M QI=(tr Γ a).E σ M (pz QI):=rfl
def yg(Q:LR->(RM->Prop)->(RM->RM)->RM->Prop):aq:=λv M1=>pV Q [v] M1
theorem qDo:(tr Γ (.le a)).I σ M QI=(tr Γ a).E σ M (yg QI):=rfl
theorem qsO{xs:LR}:yg QI (.ls xs) M=QI (gu 0 xs) cu id M:=rfl
theorem Sg{p:Addr}{xs:LR}(h:M p=some (.lst xs)):yg QI (.ref p) M=QI (gu 0 xs) (λM=>M p=some (.lst xs)) id M:=by
 show pV QI [.ref p] M=_;unfold pV;simp only[h]
theorem qB9{md tup:Bool}{nm:ay}{cap:List (Nat×Str)}:(tr Γ (.cp md tup nm cap it t a)).E σ M Q=(tr Γ it).I σ M λxs ok un M1=>xs.length<sizeLine/\gx (pF tup nm.length) md ok un (tr Γ t).T (tr Γ a).E ((cap.map Prod.fst).map λi=>(σ[i]?).join) xs [] M1 Q:=rfl
theorem oX{bd:RV->Option (LR)}{md:Bool}{ok:RM->Prop}{un:RM->RM}{tt:c9}{te:aw}{base:List (Option RV)}{Q:aq}{M:RM}(p:RV->Bool)(g:RV->RV)(ar:ok M):∀(xs acc:LR),
 (∀x∈xs,∃bs,bd x=some bs/\(∀K:Bool->RM->Prop,K (p x) M->tt (bs.map some++base) M K)/\(p x=true->∀K:aq,K (g x) M->te (bs.map some++base) M K))->
 lx md (acc++(xs.filter p).map g) (un M) Q->gx bd md ok un tt te base xs acc M Q
 | [],acc,_,h=>⟨ar,by simpa using h⟩
 |x::xs,acc,hx,h=>by
  obtain⟨bs,h1,h2,h3⟩:=hx x (.head _);have hx':=λy hy=>hx y (fM x hy)
  refine⟨ar,?_⟩;rw[h1];refine h2 _ ⟨λhp=>h3 hp _ (oX p g ar xs _ hx' ?_),λhp=>oX p g ar xs _ hx' ?_⟩
  . rw[List.filter_cons_of_pos hp,cK]at h
    simpa using h
  . rw[List.filter_cons_of_neg (by simp[hp])]at h
    exact h
theorem qtL{i:Int}:eZ "isinstance" [.int i,.ty "int"] M Q=Q (.bl true) M:=rfl
theorem qtM{i:Int}:eZ "isinstance" [.int i,.ty "bool"] M Q=Q (.bl false) M:=rfl
theorem qqq{b:Bool}:eZ "isinstance" [.bl b,.ty "bool"] M Q=Q (.bl true) M:=rfl
theorem qtK{x:Str}:eZ "isinstance" [.str x,.ty "str"] M Q=Q (.bl true) M:=rfl
theorem qtJ{xs:LR}:eZ "isinstance" [.tup xs,.ty "tuple"] M Q=Q (.bl true) M:=rfl
theorem qqn{xs:LR}:eZ "len" [.tup xs] M Q=Q (.int xs.length) M:=rfl
theorem qqo{x:Str}:eZ "len" [.str x] M Q=(x.length<=sizeLine/\Q (.int x.length) M):=rfl
theorem qqp{xs:LR}:eZ "len" [.ls xs] M Q=Q (.int xs.length) M:=rfl
theorem qtI{i j:Int}:eZ "max" [.int i,.int j] M Q=Q (.int (if j > i then j else i)) M:=rfl
theorem qtH{i j:Int}:eZ "min" [.int i,.int j] M Q=Q (.int (if j<i then j else i)) M:=rfl
theorem qtG{x:Str}:eZ "ord" [.str x] M Q=(x.length=1/\Q (.int (x.cps.getD 0 0:Nat)) M):=rfl
theorem Fe{bs:List Bool}:eZ "all" [.ls (bs.map RV.bl)] M Q=Q (.bl (bs.all id)) M:=by
 refine propext ⟨λh=>?_,λh=>⟨bs,rfl,h⟩⟩
 obtain⟨bs',e,h⟩:=h;have e:bs.map RV.bl=bs'.map RV.bl:=by injection e with e1 _;injection e1
 have:bs=bs':=List.map_inj_right (λa b z=>by cases z;rfl)|>.mp e
 subst this;exact h
theorem FZ{a b:Bool}:(if a=true then Q (.bl b) M else Q (.bl false) M)=Q (.bl (a&&b)) M:=by cases a<;>rfl
theorem qCz:(tr Γ .ra).S D σ M=False:=rfl
theorem qDl:(tr Γ (.st a)).I σ M QI=(tr Γ a).E σ M λv M1=>match v with| .str x=>QI (kX x) cu id M1|_=>False:=rfl
theorem qpS:fe .au=true:=rfl
theorem qpQ{x:Str}:fe (.str x)=false:=rfl
theorem qpT{i:Int}:fe (.int i)=false:=rfl
theorem qpR:fe (.ref x)=false:=rfl
theorem qpP{xs:LR}:fe (.tup xs)=false:=rfl
theorem qlY{x:Str}:(x==x)=true:=by simp
theorem qtx{x:Str}:cz .Eq .au (.str x) M Q=Q (.bl false) M:=by
 show(_/\_/\Q (.bl (bw .au (.str x))) M)=_;simp[et,aG,bw]
theorem fS{α:Type}{xs:List α}{k:Nat}{v:α}(h:xs[k]? =some v):bz xs (k:Int)=some v:=by
 have hk:k<xs.length:=(hU.mp h).1;have e:dY xs.length (k:Int)=some k:=by
  unfold dY;simp;omega
 unfold bz;rw[e];exact h
theorem Xi{α:Type}{a0:α}{r:List α}:bz (a0::r) 0=some a0:=fS (k:=0) rfl
theorem Xk{α:Type}{a0 a1:α}{r:List α}:bz (a0::a1::r) 1=some a1:=fS (k:=1) rfl
theorem qD5{α:Type}{a0 a1 a2:α}{r:List α}:bz (a0::a1::a2::r) 2=some a2:=fS (k:=2) rfl
theorem qD4{α:Type}{a0 a1 a2 a3:α}{r:List α}:bz (a0::a1::a2::a3::r) 3=some a3:=fS (k:=3) rfl
theorem qD3{α:Type}{a0 a1 a2 a3 a4:α}{r:List α}:bz (a0::a1::a2::a3::a4::r) 4=some a4:=fS (k:=4) rfl
theorem qD2{α:Type}{a0 a1 a2 a3 a4 a5:α}{r:List α}:bz (a0::a1::a2::a3::a4::a5::r) 5=some a5:=fS (k:=5) rfl
theorem Xj{α:Type}{a0 a1 a2 a3 a4 a5 a6:α}{r:List α}:bz (a0::a1::a2::a3::a4::a5::a6::r) 6=some a6:=fS (k:=6) rfl
theorem qD1{α:Type}{a0 a1 a2 a3 a4 a5 a6 a7:α}{r:List α}:bz (a0::a1::a2::a3::a4::a5::a6::a7::r) 7=some a7:=fS (k:=7) rfl
theorem z_0:(0<=sizeLine)=True:=eq_true ⋯
theorem qBk:(0<sizeLine)=True:=eq_true ⋯
theorem qDM:((0:Nat):Int)=0:=rfl
theorem z_1:(1<=sizeLine)=True:=eq_true ⋯
theorem qBj:(1<sizeLine)=True:=eq_true ⋯
theorem qDL:((1:Nat):Int)=1:=rfl
theorem z_2:(2<=sizeLine)=True:=eq_true ⋯
theorem qBi:(2<sizeLine)=True:=eq_true ⋯
theorem qDK:((2:Nat):Int)=2:=rfl
theorem z_3:(3<=sizeLine)=True:=eq_true ⋯
theorem qBh:(3<sizeLine)=True:=eq_true ⋯
theorem qDJ:((3:Nat):Int)=3:=rfl
theorem z_4:(4<=sizeLine)=True:=eq_true ⋯
theorem qBg:(4<sizeLine)=True:=eq_true ⋯
theorem qDI:((4:Nat):Int)=4:=rfl
theorem z_5:(5<=sizeLine)=True:=eq_true ⋯
theorem qBf:(5<sizeLine)=True:=eq_true ⋯
theorem qDH:((5:Nat):Int)=5:=rfl
theorem z_6:(6<=sizeLine)=True:=eq_true ⋯
theorem qBe:(6<sizeLine)=True:=eq_true ⋯
theorem qDG:((6:Nat):Int)=6:=rfl
theorem KL:(7<=sizeLine)=True:=eq_true ⋯
theorem qBd:(7<sizeLine)=True:=eq_true ⋯
theorem qDF:((7:Nat):Int)=7:=rfl
theorem AI:(8<=sizeLine)=True:=eq_true ⋯
theorem qBc:(8<sizeLine)=True:=eq_true ⋯
theorem qDE:((8:Nat):Int)=8:=rfl
theorem z_9:(9<=sizeLine)=True:=eq_true ⋯
theorem qBb:(9<sizeLine)=True:=eq_true ⋯
theorem qDD:((9:Nat):Int)=9:=rfl
theorem UY{k:Nat}:(((k+1:Nat):Int)==0)=false:=by simp;omega
theorem Al{x:RV}{r:LR}:fK (x::r) (some 1) none=r:=by
 unfold fK;rw[show HT.aY (x::r).length 0 (some 1)=1 from by show min 1 (r.length+1)=1;omega,HT.jd]
 simp
def tO(key:Option Key)(kvs:bO)(Q:aq)(M:RM):Prop:=match key with
 |some k=>wO (d7 kvs k) λv=>Q v M
 |none=>False
theorem qBM{x:Str}:(tr Γ (.tx x a)).E σ M Q=(tr Γ a).E σ M λy M1=>tO (fm y) (Γ.tb x) Q M1:=by
 show wQ (Γ.tb x) _ σ M Q=_;unfold wQ;congr 1;funext y M1;unfold tO wO;generalize fm y=q;cases q with
 |none=>rfl
 |some k=>
  dsimp only;cases d7 (Γ.tb x) k<;>rfl
theorem qq1{x:Str}{kvs:bO}:tO (fm (.str x)) kvs Q M=wO (d7 kvs (.inr x)) λv=>Q v M:=rfl
theorem qBO{x:Str}:(tr Γ (.tn x a)).E σ M Q=(tr Γ a).E σ M (vJ (Γ.tb x) Q):=rfl
theorem qpy{x:Str}{kvs:bO}:vJ kvs Q (.str x) M=Q (.bl (!(d7 kvs (.inr x)).isSome)) M:=rfl
noncomputable def A1 (gI:List (Addr×bE))(t:bx)(σ:bq)(Q:aq):aq:=λv M1=>match v with
 | .ref f=>∃sp,(f,sp)∈gI/\t σ M1 λrs M2=>sp rs M2 Q
 |_=>False
theorem qB8:(tr Γ (.cv i a)).E σ M Q=(tr Γ (.v i)).E σ M (A1 Γ.gI (tr Γ a).A σ Q):=rfl
theorem Pn{gI:List (Addr×bE)}{t:bx}:A1 gI t σ Q (.ref x) M= ∃sp,(x,sp)∈gI/\t σ M λrs M2=>sp rs M2 Q:=rfl
theorem qpD{i j:Int}:K2 Q [.int i,.int j] M=((-1000000<=i/\i<=1000000/\-1000000<=j/\j<=1000000)/\(j-i).toNat<=1000/\Q (.ls (kO i (j-i).toNat)) M):=rfl
theorem qCF:(tr Γ (.dd d k)).S D σ M=(tr Γ d).E σ M λx M1=>(tr Γ k).E σ M1 λy M2=>pU M2 x y (D.nx σ):=rfl
theorem qsk{xs ys:LR}:il .Add (.ls xs) (.ls ys) M Q=(xs.length+ys.length<=sizeLine/\Q (.ls (xs++ys)) M):=rfl
theorem qsj{xs ys:LR}:il .Add (.tup xs) (.tup ys) M Q=(xs.length+ys.length<=sizeLine/\Q (.tup (xs++ys)) M):=rfl
theorem qDm:(tr Γ (.r2 a b)).I σ M QI=(tr Γ a).E σ M λx M1=>(tr Γ b).E σ M1 λy M2=>wj QI [x,y] M2:=rfl
theorem qvV{i j:Int}:il .Mod (.int i) (.int j) M Q=(0<j/\Q (.int (i % j)) M):=rfl
theorem qvW{i j:Int}:il .FloorDiv (.int i) (.int j) M Q=((0<j/\j<1073741824)/\Q (.int (i / j)) M):=rfl
theorem qvT{i j:Int}:il .Pow (.int i) (.int j) M Q=((0<=j/\j<=1000000/\i.natAbs<2 ^ 64)/\Q (.int (i ^ j.toNat)) M):=rfl
theorem qvU{i j:Int}:il .Mult (.int i) (.int j) M Q=(gB i j/\Q (.int (i*j)) M):=rfl
def lO(k:Int)(v:RV)(N:RM->Prop)(x:Addr)(M:RM)(o:Option RO):Prop:=match o with
 |some (.lst xs)=>wO (dY xs.length k) λj=>N (put M x (.lst (xs.set j v)))
 |_=>False
theorem qoB{m:Int}:pd (.ref x) (.int m) v M N=lO m v N x M (M x):=by
 show(match M x with|some (.lst xs)=>(match dY xs.length m with|some j=>N (put M x (.lst (xs.set j v)))|none=>False)|_=>False)=_
 unfold lO;cases M x with
 |none=>rfl
 |some u=>
  cases u<;>first|rfl|skip
  rename_i xs;show(match dY xs.length m with|some j=>N (put M x (.lst (xs.set j v)))|none=>False)=wO (dY xs.length m) λj=>N (put M x (.lst (xs.set j v)))
  cases dY xs.length m<;>rfl
theorem Rb{m:Int}{xs:LR}:lO m v N x M (some (.lst xs))=wO (dY xs.length m) λj=>N (put M x (.lst (xs.set j v))):=rfl
theorem qv8:dY 3 0=some 0:=rfl
theorem qv7:dY 3 1=some 1:=rfl
theorem qv6:dY 3 2=some 2:=rfl
end
end R
namespace K31
open PySem PySem.Spec PyProof.Rows L2 R
def top(i:Nat):Stmt:=PySem.Challenge.pw_lentgate_k31_rules_by_the_hundred.main.body.getD i (.Pass ⟨0,0,0,0⟩)
section
local macro_rules | `($a ^ $b) => `(T.ec $a $b)
local macro_rules | `($a >=> $b) => `(T.se $a $b)
noncomputable def vo:FD:=⟨0,0,"is_whole",["thing"],["thing"],.re (.an (.bf "isinstance" (.v 0^.ty "int"^.e0)) (.no (.bf "isinstance" (.v 0^.ty "bool"^.e0))))>=>.en⟩
noncomputable def vB:FD:=⟨0,0,"is_house",["thing"],["thing"],.re (.ca 41 (.v 0^.i 0^.g "GREATEST_HOUSE"^.e0))>=>.en⟩
noncomputable def vh:FD:=⟨0,0,"is_door",["thing"],["thing"],.re (.ca 41 (.v 0^.i 1^.g "GREATEST_DOOR"^.e0))>=>.en⟩
noncomputable def vA:FD:=⟨0,0,"is_place",["thing"],["thing"],.re (.ca 41 (.v 0^.i 0^.g "GREATEST_PLACE"^.e0))>=>.en⟩
noncomputable def uG:FD:=⟨0,0,"is_outer_place",["thing"],["thing"],.re (.ca 41 (.v 0^.i 1^.g "GREATEST_PLACE"^.e0))>=>.en⟩
noncomputable def vf:FD:=⟨0,0,"is_kind",["thing"],["thing"],.re (.ic false (.v 0) "KINDS")>=>.en⟩
noncomputable def CQ:FD:=⟨0,0,"is_sign",["sign"],["sign","at"],.set 1 (.bf "ord" (.v 0^.e0))>=>.re (.an (.ch .LtE .LtE (.g "FIRST_SIGN") (.v 1) (.g "LAST_SIGN")) (.cm .NotEq (.v 1) (.g "PERCENT_SIGN")))>=>.en⟩
noncomputable def vd:FD:=⟨0,0,"is_text",["thing"],["thing"],.bg (.or (.no (.bf "isinstance" (.v 0^.ty "str"^.e0))) (.cm .Gt (.bf "len" (.v 0^.e0)) (.g "MOST_SIGNS"))) (.re (.b false)>=>.en) .en>=>.re (.bf "all" (.cp false false ["sign"] [] (.st (.v 0)) (.b true) (.ca 6 (.v 0^.e0))^.e0))>=>.en⟩
noncomputable def rX:FD:=⟨0,0,"is_come",["parts"],["parts","kind","place","far","number","word","text"],.bg (.cm .NotEq (.bf "len" (.v 0^.e0)) (.i 6)) (.re (.b false)>=>.en) .en>=>.un [1,2,3,4,5,6] (.v 0)>=>.re (.an (.ca 4 (.v 2^.e0)) (.an (.ca 2 (.v 3^.e0)) (.an (.ca 2 (.v 4^.e0)) (.ca 42 (.v 1^.v 5^.v 6^.e0)))))>=>.en⟩
noncomputable def rW:FD:=⟨0,0,"is_rule",["parts"],["parts","kind","number","place","house","door"],.bg (.cm .NotEq (.bf "len" (.v 0^.e0)) (.i 5)) (.re (.b false)>=>.en) .en>=>.un [1,2,3,4,5] (.v 0)>=>.bg (.an (.cm .IsNot (.v 3) .n) (.no (.ca 3 (.v 3^.e0)))) (.re (.b false)>=>.en) .en>=>.re (.an (.ca 5 (.v 1^.e0)) (.an (.ca 2 (.v 2^.e0)) (.an (.ca 1 (.v 4^.e0)) (.ca 2 (.v 5^.e0)))))>=>.en⟩
noncomputable def sj:FD:=⟨0,0,"is_unrule",["parts"],["parts"],.re (.an (.cm .Eq (.bf "len" (.v 0^.e0)) (.i 1)) (.ca 41 (.ix (.v 0) (.i 0)^.i 0^.g "GREATEST_RULE"^.e0)))>=>.en⟩
noncomputable def vb:FD:=⟨0,0,"name_of",["thing"],["thing"],.bg (.or (.no (.bf "isinstance" (.v 0^.ty "tuple"^.e0))) (.or (.cm .Eq (.bf "len" (.v 0^.e0)) (.i 0)) (.no (.bf "isinstance" (.ix (.v 0) (.i 0)^.ty "str"^.e0))))) (.re .n>=>.en) .en>=>.re (.ix (.v 0) (.i 0))>=>.en⟩
noncomputable def vj:FD:=⟨0,0,"is_deed",["thing"],["thing","name","has_parts"],.set 1 (.ca 11 (.v 0^.e0))>=>.bg (.tn "DEEDS" (.v 1)) (.re (.b false)>=>.en) .en>=>.set 2 (.tx "DEEDS" (.v 1))>=>.re (.cv 2 (.sl (.v 0) (.p1 (.i 1)) .p0^.e0))>=>.en⟩
noncomputable def vq:FD:=⟨0,0,"is_times",["thing"],["thing","lives"],.bg (.or (.no (.bf "isinstance" (.v 0^.ty "tuple"^.e0))) (.cm .NotEq (.bf "len" (.v 0^.e0)) (.i 4))) (.re (.b false)>=>.en) .en>=>.set 1 (.bf "all" (.cp false false ["time"] [] (.is (.sl (.v 0) .p0 (.p1 (.i 3)))) (.b true) (.ca 41 (.v 0^.i 1^.g "GREATEST_TIME"^.e0))^.e0))>=>.re (.an (.v 1) (.ca 41 (.ix (.v 0) (.i 3)^.i 0^.g "GREATEST_TIME"^.e0)))>=>.en⟩
noncomputable def Bo:T:=.re (.an (.ca 23 (.v 1^.v 2^.e0)) (.ca 13 (.v 8^.e0)))>=>.en
noncomputable def Bp:T:=.bg (.or (.no (.ca 41 (.v 6^.i 1^.g "GREATEST_MOST"^.e0))) (.no (.bf "isinstance" (.v 7^.ty "bool"^.e0)))) (.re (.b false)>=>.en) .en>=>Bo
noncomputable def Bq:T:=.bg (.or (.ic true (.v 3) "LENDINGS") (.or (.ic true (.v 4) "SIEVES") (.ic true (.v 5) "PICKS"))) (.re (.b false)>=>.en) .en>=>Bp
noncomputable def Br:T:=.un [1,2,3,4,5,6,7,8] (.v 0)>=>Bq
noncomputable def Bs:T:=.bg (.or (.no (.bf "isinstance" (.v 0^.ty "tuple"^.e0))) (.cm .NotEq (.bf "len" (.v 0^.e0)) (.i 8))) (.re (.b false)>=>.en) .en>=>Br
noncomputable def vg:FD:=⟨0,0,"is_form",["thing"],["thing","low","high","lending","sieve","pick","most","renew","times"],Bs⟩
noncomputable def rJ:FD:=⟨2,0,"__init__",["self"],["self"],.sf 0 "many_told" (.v 0) (.i 0)>=>.sf 0 "standing" (.v 0) .dk>=>.en⟩
noncomputable def rO:FD:=⟨1,0,"listed",["self"],["self"],.re (.cp false true ["k","rule"] [] (.im (.fl 0 "standing" (.v 0))) (.b true) (.op .Add (.tu (.v 0^.e0)) (.v 1)))>=>.en⟩
noncomputable def rQ:FD:=⟨1,4,"moment",["self"],["self"],.re (.fl 3 "now" (.fl 4 "table" (.v 0)))>=>.en⟩
noncomputable def rM:FD:=⟨1,4,"lends",["self"],["self"],.re (.bf "sorted" (.cp false true ["number","holder"] [] (.im (.fl 3 "holders" (.fl 4 "table" (.v 0)))) (.b true) (.op .Add (.tu (.v 0^.e0)) (.v 1))^.e0))>=>.en⟩
noncomputable def rL:FD:=⟨1,4,"rules",["self"],["self"],.re (.me 16 (.fl 4 "strangers" (.v 0)) .e0)>=>.en⟩
noncomputable def uU:FD:=⟨0,0,"_law_a_form",["bag"],["bag","many","low","lending","sieve"],.set 1 (.op .Add (.i 1) (.ca 38 (.v 0^.i 200^.e0)))>=>.set 2 (.op .Add (.i 1) (.ca 38 (.v 0^.i 9700^.e0)))>=>.set 3 (.ix (.ll (.s "door"^.s "place"^.s "talk"^.e0)) (.ca 38 (.v 0^.i 3^.e0)))>=>.set 4 (.ix (.ll (.s "all"^.s "place"^.s "talk"^.e0)) (.ca 38 (.v 0^.i 3^.e0)))>=>.re (.tu (.v 2^.op .Sub (.op .Add (.v 2) (.v 1)) (.i 1)^.v 3^.v 4^.s "next"^.i 9^.cm .Eq (.ca 38 (.v 0^.i 2^.e0)) (.i 1)^.tu (.i 9^.i 9^.i 9^.i 9^.e0)^.e0))>=>.en⟩
noncomputable def BP:T:=.re (.an (.cm .Eq (.me 18 (.v 2) .e0) (.ll .e0)) (.cm .Eq (.me 17 (.v 2) .e0) (.i 0)))>=>.en
noncomputable def zq:T:=.bg (.cm .NotEq (.me 19 (.v 2) .e0) (.cp false false ["k"] [(3,"rules")] (.r1 (.bf "len" (.v 3^.e0))) (.cm .IsNot (.ix (.v 1) (.v 0)) .n) (.op .Add (.tu (.v 0^.e0)) (.ix (.v 1) (.v 0))))) (.re (.b false)>=>.en) .en>=>.en
noncomputable def vX:T:=.bg (.no (.ca 54 (.ca 39 (.v 6^.v 7^.e0)^.v 2^.v 3^.v 7^.e0))) (.re (.b false)>=>.en) .en>=>zq
noncomputable def BQ:T:=.fo false [7] (.r1 (.bf "max" (.i 10^.bf "len" (.v 6^.e0)^.e0))) vX>=>BP
noncomputable def Aq:T:=.set 6 (.op .Add (.sl (.v 0) (.p1 (.i 2)) (.p1 (.i 63))) (.ll (.i 0^.e0)))>=>BQ
noncomputable def zr:T:=.ex (.ap (.v 3) (.v 8^.e0))>=>.en
noncomputable def zt:T:=.bg (.cm .NotEq (.me 58 (.v 2) (.ix (.v 8) (.i 0)^.ix (.v 8) (.i 1)^.ix (.v 8) (.i 2)^.ix (.v 8) (.i 3)^.ix (.v 8) (.i 4)^.e0)) (.v 5)) (.re (.b false)>=>.en) .en>=>zr
noncomputable def vY:T:=.set 8 (.ca 40 (.v 4^.v 5^.e0))>=>zt
noncomputable def BR:T:=.fo false [5] (.r1 (.ix (.ll (.i 300^.op .Add (.i 1) (.ca 38 (.v 4^.i 300^.e0))^.op .Add (.i 1) (.ca 38 (.v 4^.i 20^.e0))^.e0)) (.ca 38 (.v 4^.i 3^.e0)))) vY>=>Aq
noncomputable def BS:T:=.set 4 (.ca 37 (.ca 36 (.v 0^.i 1^.e0)^.i 0^.e0))>=>BR
noncomputable def BU:T:=.set 3 (.lm .e0)>=>BS
noncomputable def BV:T:=.set 2 (.mk 31 (.v 1^.e0))>=>BU
noncomputable def BW:T:=.set 1 (.ca 20 (.ca 37 (.ca 36 (.v 0^.i 0^.e0)^.i 0^.e0)^.e0))>=>BV
noncomputable def qr:FD:=⟨0,0,"law",["script"],["script","form","gate","rules","bag","k","cells","far","rule"],BW⟩
noncomputable def vc:FD:=⟨0,0,"is_word",["kind","thing"],["kind","thing"],.bg (.cm .Eq (.v 0) (.s "note")) (.re (.ic false (.v 1) "NOTE_WORDS")>=>.en) .en>=>.re (.ic false (.v 1) "LINE_WORDS")>=>.en⟩
noncomputable def ve:FD:=⟨0,0,"is_pool",["low","high"],["low","high"],.re (.an (.ca 2 (.v 0^.e0)) (.an (.ca 2 (.v 1^.e0)) (.ch .LtE .LtE (.v 0) (.v 1) (.op .Add (.v 0) (.g "WIDEST_STEP")))))>=>.en⟩
noncomputable def va:FD:=⟨0,0,"time_of",["form","state"],["form","state","times"],.set 2 (.ix (.v 0) (.i 7))>=>.re (.ix (.v 2) (.tx "TIME_AT" (.v 1)))>=>.en⟩
noncomputable def uW:FD:=⟨0,0,"note_state",["state","word"],["state","word"],.bg (.an (.cm .Eq (.v 1) (.s "say")) (.or (.cm .Is (.v 0) .n) (.cm .Eq (.v 0) (.s "note")))) (.re (.s "note")>=>.en) .en>=>.re .n>=>.en⟩
noncomputable def rN:FD:=⟨1,0,"stands",["self","k"],["self","k"],.re (.dn false (.v 1) (.fl 0 "standing" (.v 0)))>=>.en⟩
noncomputable def rK:FD:=⟨1,0,"drop",["self","k"],["self","k"],.dd (.fl 0 "standing" (.v 0)) (.v 1)>=>.en⟩
noncomputable def rZ:FD:=⟨1,1,"has",["self","number"],["self","number"],.re (.ch .LtE .LtE (.fl 1 "low" (.v 0)) (.v 1) (.fl 1 "high" (.v 0)))>=>.en⟩
noncomputable def Bt:T:=.sf 3 "numbers" (.v 0) .dt>=>.en
noncomputable def Bu:T:=.sf 3 "holders" (.v 0) .dk>=>Bt
noncomputable def Bv:T:=.sf 3 "by_number" (.v 0) .dk>=>Bu
noncomputable def Bw:T:=.sf 3 "by_inner" (.v 0) .dt>=>Bv
noncomputable def Bx:T:=.sf 3 "now" (.v 0) (.i 0)>=>Bw
noncomputable def By:T:=.sf 3 "pool" (.v 0) (.mk 44 (.ix (.v 1) (.i 0)^.ix (.v 1) (.i 1)^.e0))>=>Bx
noncomputable def Bz:T:=.sf 3 "form" (.v 0) (.v 1)>=>By
noncomputable def rG:FD:=⟨2,3,"__init__",["self","form"],["self","form"],Bz⟩
noncomputable def rT:FD:=⟨1,3,"of_inner",["self","inner"],["self","inner"],.re (.d1 (.fl 3 "by_inner" (.v 0)) (.v 1))>=>.en⟩
noncomputable def BZ:T:=.sf 4 "wish" (.v 0) .n>=>.en
noncomputable def B0:T:=.sf 4 "done" (.v 0) (.lm .e0)>=>BZ
noncomputable def B1:T:=.sf 4 "strangers" (.v 0) (.mk 15 .e0)>=>B0
noncomputable def B2:T:=.sf 4 "table" (.v 0) (.mk 29 (.v 1^.e0))>=>B1
noncomputable def B3:T:=.sf 4 "form" (.v 0) (.v 1)>=>B2
noncomputable def B4:T:=.bg (.no (.ca 14 (.v 1^.e0))) (.ra>=>.en) .en>=>B3
noncomputable def sr:FD:=⟨2,4,"__init__",["self","form"],["self","form"],B4⟩
noncomputable def p9:FD:=⟨1,4,"deed",["self","deed"],["self","deed","answer"],.bg (.no (.ca 12 (.v 1^.e0))) (.ra>=>.en) .en>=>.set 2 (.me 46 (.v 0) (.ix (.v 1) (.i 0)^.sl (.v 1) (.p1 (.i 1)) .p0^.e0))>=>.ex (.ap (.fl 4 "done" (.v 0)) (.tu (.v 1^.v 2^.e0)^.e0))>=>.re (.v 2)>=>.en⟩
noncomputable def uV:FD:=⟨1,4,"unrule",["self","k"],["self","k"],.re (.me 32 (.v 0) (.tu (.s "unrule"^.v 1^.e0)^.e0))>=>.en⟩
noncomputable def rV:FD:=⟨1,4,"rule_told",["self","parts"],["self","parts","kind","number","place","house","door"],.un [2,3,4,5,6] (.v 1)>=>.bg (.me 28 (.fl 3 "pool" (.fl 4 "table" (.v 0))) (.v 3^.e0)) .ra .en>=>.re (.me 57 (.fl 4 "strangers" (.v 0)) (.v 2^.v 3^.v 4^.v 5^.v 6^.e0))>=>.en⟩
noncomputable def uK:FD:=⟨1,4,"rule_dropped",["self","k"],["self","k"],.bg (.no (.me 26 (.fl 4 "strangers" (.v 0)) (.v 1^.e0))) .ra .en>=>.ex (.me 27 (.fl 4 "strangers" (.v 0)) (.v 1^.e0))>=>.re .n>=>.en⟩
noncomputable def uQ:FD:=⟨0,0,"_law_cell",["script","k"],["script","k"],.bg (.cm .Lt (.v 1) (.bf "len" (.v 0^.e0))) (.re (.ix (.v 0) (.v 1))>=>.en) .en>=>.re (.i 0)>=>.en⟩
noncomputable def uO:FD:=⟨0,0,"_law_well",["cell","turn"],["cell","turn"],.bg (.cm .GtE (.v 0) (.op .Pow (.i 10) (.i 18))) (.re (.lm (.op .Sub (.v 0) (.op .Pow (.i 10) (.i 18))^.op .Mod (.v 0) (.i 2305843009213693951)^.v 1^.e0))>=>.en) .en>=>.re (.lm (.i 0^.op .Mod (.v 0) (.i 2305843009213693951)^.v 1^.e0))>=>.en⟩
noncomputable def p8:FD:=⟨0,0,"_law_take",["bag","many"],["bag","many","p","n","found"],.bg (.cm .Gt (.ix (.v 0) (.i 0)) (.i 0)) (.set 4 (.op .Mod (.ix (.v 0) (.i 0)) (.v 1))>=>.sp (.v 0) (.i 0) (.op .FloorDiv (.ix (.v 0) (.i 0)) (.v 1))>=>.re (.v 4)>=>.en) .en>=>.sp (.v 0) (.i 2) (.op .Add (.ix (.v 0) (.i 2)) (.i 1))>=>.set 2 (.i 2305843009213693951)>=>.set 3 (.op .Mod (.op .Add (.ix (.v 0) (.i 1)) (.op .Mult (.i 1000003) (.ix (.v 0) (.i 2)))) (.v 2))>=>.set 3 (.op .Mod (.op .Add (.op .Add (.op .Mult (.v 3) (.v 3)) (.op .Mult (.i 7919) (.op .Pow (.ix (.v 0) (.i 2)) (.i 2)))) (.i 5)) (.v 2))>=>.re (.op .Mod (.op .FloorDiv (.op .Mod (.op .Pow (.v 3) (.i 3)) (.v 2)) (.i 13)) (.v 1))>=>.en⟩
noncomputable def uR:FD:=⟨0,0,"_law_bag_at",["cells","k"],["cells","k","bag"],.bg (.cm .Lt (.v 1) (.bf "len" (.v 0^.e0))) (.re (.ca 37 (.ix (.v 0) (.v 1)^.i 0^.e0))>=>.en) .en>=>.set 2 (.ca 37 (.op .Mod (.ix (.v 0) (.op .Mod (.v 1) (.bf "len" (.v 0^.e0)))) (.op .Pow (.i 10) (.i 18))^.i 0^.e0))>=>.sp (.v 2) (.i 1) (.op .Mod (.op .Add (.op .Add (.ix (.v 2) (.i 1)) (.op .Mult (.op .Mult (.i 7919) (.v 1)) (.v 1))) (.op .Mult (.i 31) (.v 1))) (.i 2305843009213693951))>=>.re (.v 2)>=>.en⟩
noncomputable def uS:FD:=⟨0,0,"_law_a_rule",["bag","k"],["bag","k","kind","place"],.set 2 (.ix (.ll (.s "note"^.s "line"^.e0)) (.ca 38 (.v 0^.i 2^.e0)))>=>.set 3 (.ix (.ll (.n^.i 3^.i 4^.i 1000000^.i 5^.e0)) (.ca 38 (.v 0^.i 5^.e0)))>=>.re (.tu (.v 2^.op .Add (.i 9990) (.ca 38 (.v 0^.i 3^.e0))^.v 3^.op .Mod (.v 1) (.i 100)^.op .Add (.op .Add (.i 1) (.ca 38 (.v 0^.i 9000^.e0))) (.v 1)^.e0))>=>.en⟩
noncomputable def uF:FD:=⟨0,0,"is_whole_within",["thing","least","greatest"],["thing","least","greatest"],.re (.an (.ca 0 (.v 0^.e0)) (.ch .LtE .LtE (.v 1) (.v 0) (.v 2)))>=>.en⟩
noncomputable def uN:FD:=⟨0,0,"is_letter",["kind","word","text"],["kind","word","text"],.re (.an (.ca 5 (.v 0^.e0)) (.an (.ca 22 (.v 0^.v 1^.e0)) (.ca 7 (.v 2^.e0))))>=>.en⟩
noncomputable def uY:FD:=⟨0,0,"line_state",["state","side","word"],["state","side","word"],.bg (.cm .Eq (.v 2) (.s "break")) (.re (.ie (.ic false (.v 0) "BREAKABLE") (.s "shut") .n)>=>.en) .en>=>.re (.tg "LINE_STEPS" (.tu (.v 1^.v 0^.v 2^.e0)))>=>.en⟩
noncomputable def sk:FD:=⟨2,1,"__init__",["self","low","high"],["self","low","high"],.sf 1 "low" (.v 0) (.v 1)>=>.sf 1 "high" (.v 0) (.v 2)>=>.sf 1 "mark" (.v 0) (.v 1)>=>.sf 1 "taken" (.v 0) .dk>=>.sf 1 "until" (.v 0) .dk>=>.en⟩
noncomputable def rR:FD:=⟨1,3,"lead",["self","talk","state"],["self","talk","state"],.bg (.cm .Eq (.v 2) (.s "shut")) .ra .en>=>.sf 2 "state" (.v 1) (.v 2)>=>.sf 2 "over" (.v 1) (.op .Add (.fl 3 "now" (.v 0)) (.ca 24 (.fl 3 "form" (.v 0)^.v 2^.e0)))>=>.en⟩
noncomputable def BB:T:=.bg (.cm .Eq (.v 1) (.s "rule")) (.re (.me 34 (.v 0) (.v 2^.e0))>=>.en) .en>=>.ra
noncomputable def BC:T:=.bg (.cm .Eq (.v 1) (.s "wait")) .ra .en>=>BB
noncomputable def BD:T:=.bg (.cm .Eq (.v 1) (.s "lost")) .ra .en>=>BC
noncomputable def Au:T:=.bg (.cm .Eq (.v 1) (.s "come")) (.un [3,4,5,6,7,8] (.v 2)>=>.re (.me 59 (.v 0) (.v 3^.v 4^.v 5^.v 6^.v 7^.e0))>=>.en) .en>=>BD
noncomputable def Av:T:=.bg (.cm .Eq (.v 1) (.s "out")) .ra .en>=>Au
noncomputable def ma:FD:=⟨1,4,"answered",["self","name","parts"],["self","name","parts","kind","place","far","number","word","text"],Av⟩
noncomputable def BE:T:=.re (.tu (.s "in"^.v 6^.v 7^.e0))>=>.en
noncomputable def BF:T:=.bg (.or (.v 4) (.cm .NotEq (.v 3) (.fl 2 "state" (.v 1)))) (.ex (.me 45 (.fl 4 "table" (.v 0)) (.v 1^.v 3^.e0))>=>.en) .en>=>BE
noncomputable def BG:T:=.set 4 (.ix (.fl 4 "form" (.v 0)) (.i 6))>=>BF
noncomputable def BH:T:=.bg (.cm .Is (.v 3) .n) (.re (.tu (.s "kept"^.s "astray"^.e0))>=>.en) .en>=>BG
noncomputable def BI:T:=.set 3 (.ca 49 (.v 5^.fl 2 "state" (.v 1)^.s "far"^.v 2^.e0))>=>BH
noncomputable def A9:T:=.un [5,6,7,8,9] (.fl 2 "inner" (.v 1))>=>BI
noncomputable def rP:FD:=⟨1,4,"lead_in",["self","talk","word"],["self","talk","word","state","renew","kind","house","door","place","far"],A9⟩
noncomputable def uJ:FD:=⟨0,0,"_law_dropped",["gate","rules","k"],["gate","rules","k","kinds","e"],.ra⟩
noncomputable def uX:FD:=⟨0,0,"next_state",["kind","state","side","word"],["kind","state","side","word"],.bg (.cm .Eq (.v 0) (.s "note")) (.re (.ca 25 (.v 1^.v 3^.e0))>=>.en) .en>=>.re (.ca 43 (.v 1^.v 2^.v 3^.e0))>=>.en⟩
noncomputable def BX:T:=.re .n>=>.en
noncomputable def zu:T:=.bg (.an (.cm .Eq (.v 4) (.v 1)) (.an (.cm .Eq (.v 5) (.v 2)) (.v 9))) (.re (.tu (.v 7^.v 8^.e0))>=>.en) .en>=>.en
noncomputable def vZ:T:=.set 9 (.or (.cm .Is (.v 6) .n) (.cm .Eq (.v 6) (.v 3)))>=>zu
noncomputable def BY:T:=.fo true [4,5,6,7,8] (.iv (.fl 0 "standing" (.v 0))) vZ>=>BX
noncomputable def rU:FD:=⟨1,0,"door_for",["self","kind","number","place"],["self","kind","number","place","rule_kind","rule_number","rule_place","house","door","fits_place"],BY⟩
noncomputable def Aw:T:=.dp (.dg (.fl 3 "by_number" (.v 0)) (.v 2)) (.tu (.v 5^.v 8^.v 9^.e0)) (.v 4)>=>.en
noncomputable def Ax:T:=.bg (.dn true (.v 2) (.fl 3 "by_number" (.v 0))) (.dp (.fl 3 "by_number" (.v 0)) (.v 2) .dt>=>.en) .en>=>Aw
noncomputable def Ae:T:=.dp (.fl 3 "by_inner" (.v 0)) (.v 1) (.v 4)>=>Ax
noncomputable def Af:T:=.set 4 (.mk 55 (.v 1^.v 2^.v 3^.op .Add (.fl 3 "now" (.v 0)) (.ca 24 (.fl 3 "form" (.v 0)^.v 3^.e0))^.e0))>=>Ae
noncomputable def Ag:T:=.un [5,6,7,8,9] (.v 1)>=>Af
noncomputable def oJ:FD:=⟨1,3,"begin",["self","inner","number","state"],["self","inner","number","state","talk","kind","house","door","place","far"],Ag⟩
noncomputable def Jv:T:=.re .n>=>.en
noncomputable def o7:T:=.bg (.an (.cm .IsNot (.v 5) .n) (.an (.cm .Eq (.sl (.v 5) .p0 (.p1 (.i 2))) (.tu (.v 1^.v 2^.e0))) (.or (.cm .Is (.ix (.v 5) (.i 2)) .n) (.cm .Eq (.ix (.v 5) (.i 2)) (.v 3))))) (.re (.v 4)>=>.en) .en>=>.en
noncomputable def Jw:T:=.fo true [4,5] (.le (.v 0)) o7>=>Jv
noncomputable def uZ:FD:=⟨0,0,"_law_first",["rules","kind","number","place"],["rules","kind","number","place","k","rule"],Jw⟩
noncomputable def xn:T:=.re (.or (.cm .Is (.v 8) .n) (.cm .Eq (.me 61 (.v 1) (.v 4^.v 6^.v 3^.v 5^.v 7^.s ""^.e0)) (.v 9)))>=>.en
noncomputable def qA:T:=.bg (.an (.cm .IsNot (.v 8) .n) (.an (.cm .Eq (.ca 38 (.v 0^.i 2^.e0)) (.i 0)) (.no (.ca 48 (.v 1^.v 2^.v 8^.e0))))) (.re (.b false)>=>.en) .en>=>xn
noncomputable def An:T:=.bg (.cm .NotEq (.me 61 (.v 1) (.v 4^.v 6^.v 3^.v 5^.v 7^.s ""^.e0)) (.v 9)) (.re (.b false)>=>.en) .en>=>qA
noncomputable def Ao:T:=.set 9 (.ie (.cm .Is (.v 8) .n) (.tu (.s "kept"^.s "nobody"^.e0)) (.op .Add (.tu (.s "in"^.e0)) (.sl (.ix (.v 2) (.v 8)) (.p1 (.i 3)) .p0)))>=>An
noncomputable def Ap:T:=.set 8 (.ca 52 (.v 2^.v 4^.v 5^.v 6^.e0))>=>Ao
noncomputable def Jr:T:=.set 7 (.ie (.cm .Eq (.v 4) (.s "note")) (.s "say") (.s "open"))>=>Ap
noncomputable def Js:T:=.set 6 (.ix (.ll (.i 3^.i 4^.i 1000000^.i 5^.i 6^.e0)) (.ca 38 (.v 0^.i 5^.e0)))>=>Jr
noncomputable def Jt:T:=.set 5 (.op .Add (.i 9990) (.ca 38 (.v 0^.i 3^.e0)))>=>Js
noncomputable def Ju:T:=.set 4 (.ix (.ll (.s "note"^.s "line"^.e0)) (.ca 38 (.v 0^.i 2^.e0)))>=>Jt
noncomputable def uH:FD:=⟨0,0,"_law_stranger",["bag","gate","rules","far"],["bag","gate","rules","far","kind","number","place","word","k","due"],Ju⟩
noncomputable def BJ:T:=.re (.b true)>=>.en
noncomputable def vW:T:=.bg (.no (.ca 53 (.v 0^.v 1^.v 2^.op .Add (.op .Add (.op .Mult (.i 3) (.v 3)) (.v 6)) (.i 1)^.e0))) (.re (.b false)>=>.en) .en>=>.en
noncomputable def BK:T:=.fo false [6] (.r1 (.i 3)) vW>=>BJ
noncomputable def BL:T:=.bg (.cm .Lt (.v 4) (.i 3)) (.re (.ca 48 (.v 1^.v 2^.v 5^.e0))>=>.en) .en>=>BK
noncomputable def D9:T:=.re (.b true)>=>.en
noncomputable def vk:T:=.bg (.no (.ca 48 (.v 1^.v 2^.v 7^.e0))) (.re (.b false)>=>.en) .en>=>.en
noncomputable def Ea:T:=.fo false [7] (.r2 (.v 5) (.bf "min" (.op .Add (.v 5) (.i 20)^.op .Add (.bf "len" (.v 2^.e0)) (.i 1)^.e0))) vk>=>D9
noncomputable def BM:T:=.bg (.cm .Eq (.v 4) (.i 0)) Ea .en>=>BL
noncomputable def BN:T:=.set 5 (.ca 38 (.v 0^.op .Add (.bf "len" (.v 2^.e0)) (.i 2)^.e0))>=>BM
noncomputable def BO:T:=.set 4 (.ca 38 (.v 0^.i 8^.e0))>=>BN
noncomputable def uP:FD:=⟨0,0,"_law_deed",["bag","gate","rules","far"],["bag","gate","rules","far","way","k","turn","one"],BO⟩
noncomputable def oE:FD:=⟨2,2,"__init__",["self","inner","number","state","over"],["self","inner","number","state","over"],.sf 2 "inner" (.v 0) (.v 1)>=>.sf 2 "number" (.v 0) (.v 2)>=>.sf 2 "state" (.v 0) (.v 3)>=>.sf 2 "over" (.v 0) (.v 4)>=>.en⟩
noncomputable def oG:FD:=⟨1,3,"of_outer",["self","kind","number","place","far"],["self","kind","number","place","far"],.bg (.dn true (.v 2) (.fl 3 "by_number" (.v 0))) (.re .n>=>.en) .en>=>.re (.d1 (.dg (.fl 3 "by_number" (.v 0)) (.v 2)) (.tu (.v 1^.v 3^.v 4^.e0)))>=>.en⟩
noncomputable def rH:FD:=⟨1,0,"tell",["self","kind","number","place","house","door"],["self","kind","number","place","house","door","told"],.set 6 (.fl 0 "many_told" (.v 0))>=>.dp (.fl 0 "standing" (.v 0)) (.v 6) (.tu (.v 1^.v 2^.v 3^.v 4^.v 5^.e0))>=>.af 0 "many_told" (.v 0) (.i 1)>=>.re (.v 6)>=>.en⟩
noncomputable def sm:FD:=⟨1,4,"rule",["self","kind","number","place","house","door"],["self","kind","number","place","house","door"],.re (.me 32 (.v 0) (.tu (.s "rule"^.v 1^.v 2^.v 3^.v 4^.v 5^.e0)^.e0))>=>.en⟩
noncomputable def Ba:T:=.re (.me 60 (.v 0) (.v 1^.v 2^.v 3^.v 4^.v 5^.e0))>=>.en
noncomputable def Bb:T:=.bg (.me 28 (.fl 3 "pool" (.fl 4 "table" (.v 0))) (.v 4^.e0)) .ra .en>=>Ba
noncomputable def Ah:T:=.bg (.cm .IsNot (.v 6) .n) (.re (.me 47 (.v 0) (.v 6^.v 5^.e0))>=>.en) .en>=>Bb
noncomputable def Ai:T:=.set 6 (.me 56 (.fl 4 "table" (.v 0)) (.v 1^.v 4^.v 2^.v 3^.e0))>=>Ah
noncomputable def oI:FD:=⟨1,4,"come_in",["self","kind","place","far","number","word"],["self","kind","place","far","number","word","talk"],Ai⟩
noncomputable def Bc:T:=.re (.tu (.s "in"^.v 9^.v 10^.e0))>=>.en
noncomputable def Bd:T:=.ex (.me 51 (.fl 4 "table" (.v 0)) (.v 8^.v 4^.v 7^.e0))>=>Bc
noncomputable def Be:T:=.bg (.cm .IsNot (.me 30 (.fl 4 "table" (.v 0)) (.v 8^.e0)) .n) (.re (.tu (.s "kept"^.s "clash"^.e0))>=>.en) .en>=>Bd
noncomputable def Bf:T:=.set 8 (.tu (.v 1^.v 9^.v 10^.v 2^.v 3^.e0))>=>Be
noncomputable def Bg:T:=.bg (.cm .Is (.v 7) .n) (.re (.tu (.s "kept"^.s "astray"^.e0))>=>.en) .en>=>Bf
noncomputable def Bh:T:=.set 7 (.ca 49 (.v 1^.n^.s "far"^.v 5^.e0))>=>Bg
noncomputable def Bi:T:=.un [9,10] (.v 6)>=>Bh
noncomputable def Ak:T:=.bg (.cm .Is (.v 6) .n) (.re (.tu (.s "kept"^.s "nobody"^.e0))>=>.en) .en>=>Bi
noncomputable def Ca:T:=.set 6 (.me 50 (.fl 4 "strangers" (.v 0)) (.v 1^.v 4^.v 2^.e0))>=>Ak
noncomputable def rS:FD:=⟨1,4,"come_by_rule",["self","kind","place","far","number","word"],["self","kind","place","far","number","word","to","state","inner","house","door"],Ca⟩
noncomputable def oF:FD:=⟨1,4,"come",["self","kind","place","far","number","word","text"],["self","kind","place","far","number","word","text"],.re (.me 32 (.v 0) (.tu (.s "come"^.v 1^.v 2^.v 3^.v 4^.v 5^.v 6^.e0)^.e0))>=>.en⟩
end
noncomputable def S:SI where
 gi:=[("GREATEST_HOUSE",99),("GREATEST_DOOR",9999),("GREATEST_PLACE",1000000),("MOST_SIGNS",40),("FIRST_SIGN",32),("LAST_SIGN",126),("PERCENT_SIGN",37),("WIDEST_STEP",199),("GREATEST_MOST",200),("GREATEST_TIME",1000000),("GREATEST_RULE",1000000)]
 gt:=[("KINDS",["note","line"]),("NOTE_WORDS",["say"]),("LINE_WORDS",["open","say","close","break"]),("LENDINGS",["door","place","talk"]),("SIEVES",["all","place","talk"]),("PICKS",["next","keep"]),("BREAKABLE",["asked","called","up","near","far"])]
 tb:=["DEEDS","TIME_AT"]
 tt:=[("LINE_STEPS",[([some (.inr "house"),none,some (.inr "open")],"asked"),([some (.inr "house"),some (.inr "asked"),some (.inr "open")],"asked"),([some (.inr "house"),some (.inr "called"),some (.inr "open")],"up"),([some (.inr "house"),some (.inr "up"),some (.inr "say")],"up"),([some (.inr "house"),some (.inr "far"),some (.inr "say")],"far"),([some (.inr "house"),some (.inr "up"),some (.inr "close")],"near"),([some (.inr "house"),some (.inr "far"),some (.inr "close")],"shut"),([some (.inr "far"),none,some (.inr "open")],"called"),([some (.inr "far"),some (.inr "called"),some (.inr "open")],"called"),([some (.inr "far"),some (.inr "asked"),some (.inr "open")],"up"),([some (.inr "far"),some (.inr "up"),some (.inr "say")],"up"),([some (.inr "far"),some (.inr "near"),some (.inr "say")],"near"),([some (.inr "far"),some (.inr "up"),some (.inr "close")],"far"),([some (.inr "far"),some (.inr "near"),some (.inr "close")],"shut")])]
 cl:=["Rules","Pool","Talk","Talks","Gate"]
 fs:=[(0,"many_told"),(0,"standing"),(1,"low"),(1,"high"),(1,"mark"),(1,"taken"),(1,"until"),(2,"inner"),(2,"number"),(2,"state"),(2,"over"),(3,"form"),(3,"pool"),(3,"now"),(3,"by_inner"),(3,"by_number"),(3,"holders"),(3,"numbers"),(4,"form"),(4,"table"),(4,"strangers"),(4,"done"),(4,"wish")]
 bl:=["all","bool","enumerate","int","isinstance","len","max","min","ord","range","sorted","str","tuple"]
 fd:=[vo,vB,vh,vA,uG,vf,CQ,vd,rX,rW,sj,vb,vj,vq,vg,rJ,rO,rQ,rM,rL,uU,qr,vc,ve,va,uW,rN,rK,rZ,rG,rT,sr,p9,uV,rV,uK,uQ,uO,p8,uR,uS,uF,uN,uY,sk,rR,ma,rP,uJ,uX,rU,oJ,uZ,uH,uP,oE,oG,rH,sm,oI,rS,oF]
noncomputable abbrev OZ:Stmt:=top 24
noncomputable abbrev OJ:Stmt:=top 51
noncomputable abbrev NF:Stmt:=inClass (top 62) 5
noncomputable abbrev NI:Stmt:=inClass (top 69) 10
noncomputable abbrev FG:Stmt:=top 81
noncomputable abbrev yH:Stmt:=inClass (top 69) 1
noncomputable abbrev yt:Stmt:=inClass (top 69) 7
noncomputable abbrev yr:Stmt:=inClass (top 69) 27
noncomputable abbrev yx:Stmt:=inClass (top 69) 15
noncomputable def av:XD:=⟨1,4,"rule_dropped",["self","k"],["self","k"],.rz (.no (.me 26 (.fl 4 "strangers" (.v 0)) (.ec (.v 1) .e0))) 0 (.ec (.s "no rule of this number stands") .e0) (.se (.ex (.me 27 (.fl 4 "strangers" (.v 0)) (.ec (.v 1) .e0))) (.se (.re .n) (.en)))⟩
noncomputable def aC:XD:=⟨1,4,"answered",["self","name","parts"],["self","name","parts","kind","place","far","number","word","text"],.se (.bg (.cm .Eq (.v 1) (.s "out")) .ra .en) (.se (.bg (.cm .Eq (.v 1) (.s "come")) (.se (.un [3,4,5,6,7,8] (.v 2)) (.se (.re (.me 59 (.v 0) (.ec (.v 3) (.ec (.v 4) (.ec (.v 5) (.ec (.v 6) (.ec (.v 7) .e0))))))) .en)) .en) (.se (.bg (.cm .Eq (.v 1) (.s "lost")) .ra .en) (.se (.bg (.cm .Eq (.v 1) (.s "wait")) .ra .en) (.se (.bg (.cm .Eq (.v 1) (.s "rule")) (.se (.re (.me 34 (.v 0) (.ec (.v 2) .e0))) .en) .en) (.re 0 (.v 0) (.ec (.ix (.v 2) (.i 0)) .e0))))))⟩
noncomputable def aX:XD:=⟨1,4,"deed",["self","deed"],["self","deed","answer"],.se (.bg (.no (.ca 12 (.ec (.v 1) .e0))) (.se .ra .en) .en) (.as 2 1 (.v 0) (.ec (.ix (.v 1) (.i 0)) (.ec (.sl (.v 1) (.p1 (.i 1)) .p0) .e0)) (.se (.ex (.ap (.fl 4 "done" (.v 0)) (.ec (.tu (.ec (.v 1) (.ec (.v 2) .e0))) .e0))) (.se (.re (.v 2)) (.en))))⟩
noncomputable def aN:XD:=⟨1,4,"unrule",["self","k"],["self","k"],.re 2 (.v 0) (.ec (.tu (.ec (.s "unrule") (.ec (.v 1) .e0))) .e0)⟩
noncomputable def aS:XD:=⟨0,0,"_law_dropped",["gate","rules","k"],["gate","rules","k","kinds","e"],.se (.set 3 (.ll .e0)) (.ty 3 (.v 0) (.ec (.v 2) .e0) 0 4 3 [true,true,false] (.se (.bg (.or (.cm .GtE (.v 2) (.bf "len" (.ec (.v 1) .e0))) (.cm .Is (.ix (.v 1) (.v 2)) .n)) (.se (.re (.cm .Eq (.v 3) (.ll (.ec (.b true) (.ec (.b true) (.ec (.b false) .e0)))))) .en) .en) (.se (.sp (.v 1) (.v 2) .n) (.se (.re (.cm .Eq (.v 3) (.ll .e0))) (.en)))))⟩
noncomputable abbrev oH:Stmt:=top 77
noncomputable def XS:List XD:=[av,aC,aX,aN,aS]
noncomputable def XT:List (Nat×Nat):=[(48,4)]
noncomputable def XC:ay:=["NoRule"]
structure Env where
 tb:Str->bO
 C:Nat->Addr
 cv:List (Addr×Nat)
 lP:Addr:=0
 XC:Nat->Addr:=λ_=>0
noncomputable def P (e:Env):f9:=⟨⟨S,e.tb,e.C,e.cv,e.lP⟩,⟨XS,XC,e.XC⟩,XT⟩
noncomputable def rd (Q:aq):RD:={ nx:=λ_ M'=>Q .au M',rt:=Q }
section
variable {e:Env}{n:Nat}{M:RM}{Q:aq}{σ:bq}{rs:LR}
theorem qu9{y:Str}{N:ay}{x:RV}:fQ (y::N) (x::rs)=some x::fQ N rs:=by unfold fQ;rw[dc,dc,Nat.add_sub_add_right];rfl
theorem qu7{y:Str}{N:ay}:fQ (y::N) []=none::fQ N []:=rfl
theorem qu8:fQ [] []= []:=rfl
theorem Fl{A B C:Prop}(h:A)(k:B=C):(A/\B)=C:=by rw[eq_true h,true_and,k]
theorem qvi:(rd Q).nx σ M=Q .au M:=rfl
theorem qvh:(rd Q).rt=Q:=rfl
theorem qDw{i:Nat}:((P e).Gn n).fn i rs M Q=aD (P e) n i rs M Q:=rfl
theorem qwj{i:Nat}:((P e).Gn (n+1)).kH i rs M Q=aD (P e) n i rs M Q:=rfl
theorem qDu{x:Str}:((P e).Gn n).tb x=e.tb x:=rfl
theorem qwk:((P e).Gn n).gI=e.cv.map λq=>(q.1,aD (P e) n q.2):=rfl
theorem g_C{i:Nat}:((P e).Gn n).C i=e.C i:=rfl
theorem qDv:((P e).Gn n).lP=e.lP:=rfl
theorem us{i:Nat}{d:FD}{rs:LR}(h:S.fd[i]? =some d)(h0:XT.lookup i=none:=by rfl):aD (P e) (n+1) i rs M Q=(rs.length=d.ps.length/\(tr ((P e).Gn n) d.body).S (rd Q) (fQ d.N rs) M):=by rw[CG (x:=P e) h0 h];rfl
end
noncomputable def gd (e:Env)(v0 v1:RV):RO:=.ins (e.C 0) [("many_told",v0),("standing",v1)]
noncomputable def eU (e:Env)(v0 v1 v2 v3 v4:RV):RO:=.ins (e.C 1) [("low",v0),("high",v1),("mark",v2),("taken",v3),("until",v4)]
noncomputable def gf (e:Env)(v0 v1 v2 v3:RV):RO:=.ins (e.C 2) [("inner",v0),("number",v1),("state",v2),("over",v3)]
noncomputable def cW (e:Env)(v0 v1 v2 v3 v4 v5 v6:RV):RO:=.ins (e.C 3) [("form",v0),("pool",v1),("now",v2),("by_inner",v3),("by_number",v4),("holders",v5),("numbers",v6)]
noncomputable def bX (e:Env)(v0 v1 v2 v3 v4:RV):RO:=.ins (e.C 4) [("form",v0),("table",v1),("strangers",v2),("done",v3),("wish",v4)]
section
variable {e:Env}{n:Nat}{M:RM}{Q:aq}{σ:bq}{rs:LR}{x:Addr}{y:RV}{N:RM->Prop}{t:bx}{sp:bE}{o a:T}
theorem lI{e:Env}{c:Nat}{f:Str}{v:RV}{fs:List (Str×RV)}(h:fs.lookup f=some v):fO (e.C c) f Q M (some (.ins (e.C c) fs))=Q v M:=by rw[Uu,h];rfl
theorem wI{c:Nat}{f:Str}{fs:List (Str×RV)}(h:Nat.ble (fs.length+1) 1000=true):sO (e.C c) f y N x M (some (.ins (e.C c) fs))=N (put M x (.ins (e.C c) (jv f y fs))):=by rw[TZ];exact Fl (Nat.le_of_ble_eq_true h) rfl
theorem mI{c:Nat}{f:Str}{fs:List (Str×RV)}(h:fs.lookup f=none):mO (e.C c) f sp t σ Q x M (some (.ins (e.C c) fs))=t σ M λrs M2=>sp (.ref x::rs) M2 Q:=by rw[UU];exact Fl h rfl
abbrev lT(e:Env)(c:Nat)(r:RO)(f:Str)(v:RV):Prop:=∀{Q:aq} {M:RM},fO (e.C c) f Q M (some r)=Q v M
abbrev wT(e:Env)(c:Nat)(y:RV)(r r1:RO)(f:Str):Prop:=∀{N:RM->Prop} {x:Addr} {M:RM},sO (e.C c) f y N x M (some r)=N (put M x r1)
abbrev mT(e:Env)(c:Nat)(r:RO)(f:Str):Prop:=∀{sp:bE} {t:bx} {σ:bq} {Q:aq} {x:Addr} {M:RM},mO (e.C c) f sp t σ Q x M (some r)=t σ M λrs M2=>sp (.ref x::rs) M2 Q
abbrev tT(i c:Nat)(f:Str):Prop:=∀{e:Env} {n:Nat} {M:RM} {Q:aq} {σ:bq} {o a:T},(tr ((P e).Gn n) (.me i o a)).E σ M Q=(tr ((P e).Gn n) o).E σ M (ou (e.C c) f (aD (P e) n i) (tr ((P e).Gn n) a).A σ Q)
abbrev kT(i c:Nat):Prop:=∀{e:Env} {n:Nat} {M:RM} {Q:aq} {σ:bq} {a:T},(tr ((P e).Gn (n+1)) (.mk i a)).E σ M Q=(tr ((P e).Gn (n+1)) a).A σ M λrs M1=>∀x,M1 x=none->aD (P e) n i (.ref x::rs) (put M1 x (.ins (e.C c) [])) λv M2=>v= .au/\Q (.ref x) M2
abbrev gT(f:Str)(i:Int):Prop:=∀{e:Env} {n:Nat} {M:RM} {Q:aq} {σ:bq},(tr ((P e).Gn n) (.g f)).E σ M Q=Q (.int i) M
abbrev cT(f:Str)(l:ay):Prop:=∀{e:Env} {n:Nat} {M:RM} {Q:aq} {σ:bq} {a:T} {neg:Bool},(tr ((P e).Gn n) (.ic neg a f)).E σ M Q=(tr ((P e).Gn n) a).E σ M λx M1=>aG 15 x=true/\Q (.bl (if neg then !inR x (l.map RV.str)else inR x (l.map RV.str))) M1
theorem qc4{v0 v1:RV}:lT e 0 (gd e v0 v1) "many_told" v0:=lI rfl
theorem qcU{v0 v1:RV}:wT e 0 y (gd e v0 v1) (gd e y v1) "many_told":=wI rfl
theorem qdx{v0 v1:RV}:lT e 0 (gd e v0 v1) "standing" v1:=lI rfl
theorem qdl{v0 v1:RV}:wT e 0 y (gd e v0 v1) (gd e v0 y) "standing":=wI rfl
theorem qjn:wT e 0 y (.ins (e.C 0) []) (.ins (e.C 0) [("many_told",y)]) "many_told":=wI rfl
theorem qjm{v0:RV}:wT e 0 y (.ins (e.C 0) [("many_told",v0)]) (gd e v0 y) "standing":=wI rfl
theorem qpw:kT 15 0:=tG (d:=rJ) rfl
theorem qdt{v0 v1:RV}:mT e 0 (gd e v0 v1) "listed":=mI rfl
theorem qew:tT 16 0 "listed":=dP (d:=rO) rfl
theorem qds{v0 v1:RV}:mT e 0 (gd e v0 v1) "stands":=mI rfl
theorem qev:tT 26 0 "stands":=dP (d:=rN) rfl
theorem qeG{v0 v1:RV}:mT e 0 (gd e v0 v1) "drop":=mI rfl
theorem qfW:tT 27 0 "drop":=dP (d:=rK) rfl
theorem qcE{v0 v1:RV}:mT e 0 (gd e v0 v1) "door_for":=mI rfl
theorem qdp:tT 50 0 "door_for":=dP (d:=rU) rfl
theorem qeF{v0 v1:RV}:mT e 0 (gd e v0 v1) "tell":=mI rfl
theorem qfV:tT 57 0 "tell":=dP (d:=rH) rfl
theorem qi9{v0 v1 v2 v3 v4:RV}:lT e 1 (eU e v0 v1 v2 v3 v4) "low" v0:=lI rfl
theorem qiN{v0 v1 v2 v3 v4:RV}:wT e 1 y (eU e v0 v1 v2 v3 v4) (eU e y v1 v2 v3 v4) "low":=wI rfl
theorem qhz{v0 v1 v2 v3 v4:RV}:lT e 1 (eU e v0 v1 v2 v3 v4) "high" v1:=lI rfl
theorem qg8{v0 v1 v2 v3 v4:RV}:wT e 1 y (eU e v0 v1 v2 v3 v4) (eU e v0 y v2 v3 v4) "high":=wI rfl
theorem qhy{v0 v1 v2 v3 v4:RV}:lT e 1 (eU e v0 v1 v2 v3 v4) "mark" v2:=lI rfl
theorem qg7{v0 v1 v2 v3 v4:RV}:wT e 1 y (eU e v0 v1 v2 v3 v4) (eU e v0 v1 y v3 v4) "mark":=wI rfl
theorem qgu{v0 v1 v2 v3 v4:RV}:lT e 1 (eU e v0 v1 v2 v3 v4) "taken" v3:=lI rfl
theorem qfN{v0 v1 v2 v3 v4:RV}:wT e 1 y (eU e v0 v1 v2 v3 v4) (eU e v0 v1 v2 y v4) "taken":=wI rfl
theorem qgt{v0 v1 v2 v3 v4:RV}:lT e 1 (eU e v0 v1 v2 v3 v4) "until" v4:=lI rfl
theorem qfM{v0 v1 v2 v3 v4:RV}:wT e 1 y (eU e v0 v1 v2 v3 v4) (eU e v0 v1 v2 v3 y) "until":=wI rfl
theorem qkX:wT e 1 y (.ins (e.C 1) []) (.ins (e.C 1) [("low",y)]) "low":=wI rfl
theorem qkW{v0:RV}:wT e 1 y (.ins (e.C 1) [("low",v0)]) (.ins (e.C 1) [("low",v0),("high",y)]) "high":=wI rfl
theorem qkV{v0 v1:RV}:wT e 1 y (.ins (e.C 1) [("low",v0),("high",v1)]) (.ins (e.C 1) [("low",v0),("high",v1),("mark",y)]) "mark":=wI rfl
theorem qkU{v0 v1 v2:RV}:wT e 1 y (.ins (e.C 1) [("low",v0),("high",v1),("mark",v2)]) (.ins (e.C 1) [("low",v0),("high",v1),("mark",v2),("taken",y)]) "taken":=wI rfl
theorem qkT{v0 v1 v2 v3:RV}:wT e 1 y (.ins (e.C 1) [("low",v0),("high",v1),("mark",v2),("taken",v3)]) (eU e v0 v1 v2 v3 y) "until":=wI rfl
theorem qgn{v0 v1 v2 v3 v4:RV}:mT e 1 (eU e v0 v1 v2 v3 v4) "has":=mI rfl
theorem qiS:tT 28 1 "has":=dP (d:=rZ) rfl
theorem qsH:kT 44 1:=tG (d:=sk) rfl
theorem qgs{v0 v1 v2 v3:RV}:lT e 2 (gf e v0 v1 v2 v3) "inner" v0:=lI rfl
theorem qfL{v0 v1 v2 v3:RV}:wT e 2 y (gf e v0 v1 v2 v3) (gf e y v1 v2 v3) "inner":=wI rfl
theorem qfs{v0 v1 v2 v3:RV}:lT e 2 (gf e v0 v1 v2 v3) "number" v1:=lI rfl
theorem qe3{v0 v1 v2 v3:RV}:wT e 2 y (gf e v0 v1 v2 v3) (gf e v0 y v2 v3) "number":=wI rfl
theorem qgr{v0 v1 v2 v3:RV}:lT e 2 (gf e v0 v1 v2 v3) "state" v2:=lI rfl
theorem qfK{v0 v1 v2 v3:RV}:wT e 2 y (gf e v0 v1 v2 v3) (gf e v0 v1 y v3) "state":=wI rfl
theorem qhx{v0 v1 v2 v3:RV}:lT e 2 (gf e v0 v1 v2 v3) "over" v3:=lI rfl
theorem qg6{v0 v1 v2 v3:RV}:wT e 2 y (gf e v0 v1 v2 v3) (gf e v0 v1 v2 y) "over":=wI rfl
theorem qkS:wT e 2 y (.ins (e.C 2) []) (.ins (e.C 2) [("inner",y)]) "inner":=wI rfl
theorem qkR{v0:RV}:wT e 2 y (.ins (e.C 2) [("inner",v0)]) (.ins (e.C 2) [("inner",v0),("number",y)]) "number":=wI rfl
theorem qkQ{v0 v1:RV}:wT e 2 y (.ins (e.C 2) [("inner",v0),("number",v1)]) (.ins (e.C 2) [("inner",v0),("number",v1),("state",y)]) "state":=wI rfl
theorem qkP{v0 v1 v2:RV}:wT e 2 y (.ins (e.C 2) [("inner",v0),("number",v1),("state",v2)]) (gf e v0 v1 v2 y) "over":=wI rfl
theorem qsG:kT 55 2:=tG (d:=oE) rfl
theorem qgq{v0 v1 v2 v3 v4 v5 v6:RV}:lT e 3 (cW e v0 v1 v2 v3 v4 v5 v6) "form" v0:=lI rfl
theorem qfJ{v0 v1 v2 v3 v4 v5 v6:RV}:wT e 3 y (cW e v0 v1 v2 v3 v4 v5 v6) (cW e y v1 v2 v3 v4 v5 v6) "form":=wI rfl
theorem qgp{v0 v1 v2 v3 v4 v5 v6:RV}:lT e 3 (cW e v0 v1 v2 v3 v4 v5 v6) "pool" v1:=lI rfl
theorem qfI{v0 v1 v2 v3 v4 v5 v6:RV}:wT e 3 y (cW e v0 v1 v2 v3 v4 v5 v6) (cW e v0 y v2 v3 v4 v5 v6) "pool":=wI rfl
theorem qhw{v0 v1 v2 v3 v4 v5 v6:RV}:lT e 3 (cW e v0 v1 v2 v3 v4 v5 v6) "now" v2:=lI rfl
theorem qg5{v0 v1 v2 v3 v4 v5 v6:RV}:wT e 3 y (cW e v0 v1 v2 v3 v4 v5 v6) (cW e v0 v1 y v3 v4 v5 v6) "now":=wI rfl
theorem qdw{v0 v1 v2 v3 v4 v5 v6:RV}:lT e 3 (cW e v0 v1 v2 v3 v4 v5 v6) "by_inner" v3:=lI rfl
theorem qdk{v0 v1 v2 v3 v4 v5 v6:RV}:wT e 3 y (cW e v0 v1 v2 v3 v4 v5 v6) (cW e v0 v1 v2 y v4 v5 v6) "by_inner":=wI rfl
theorem qc3{v0 v1 v2 v3 v4 v5 v6:RV}:lT e 3 (cW e v0 v1 v2 v3 v4 v5 v6) "by_number" v4:=lI rfl
theorem qcT{v0 v1 v2 v3 v4 v5 v6:RV}:wT e 3 y (cW e v0 v1 v2 v3 v4 v5 v6) (cW e v0 v1 v2 v3 y v5 v6) "by_number":=wI rfl
theorem qd6{v0 v1 v2 v3 v4 v5 v6:RV}:lT e 3 (cW e v0 v1 v2 v3 v4 v5 v6) "holders" v5:=lI rfl
theorem qdL{v0 v1 v2 v3 v4 v5 v6:RV}:wT e 3 y (cW e v0 v1 v2 v3 v4 v5 v6) (cW e v0 v1 v2 v3 v4 y v6) "holders":=wI rfl
theorem qd5{v0 v1 v2 v3 v4 v5 v6:RV}:lT e 3 (cW e v0 v1 v2 v3 v4 v5 v6) "numbers" v6:=lI rfl
theorem qdK{v0 v1 v2 v3 v4 v5 v6:RV}:wT e 3 y (cW e v0 v1 v2 v3 v4 v5 v6) (cW e v0 v1 v2 v3 v4 v5 y) "numbers":=wI rfl
theorem qjl:wT e 3 y (.ins (e.C 3) []) (.ins (e.C 3) [("form",y)]) "form":=wI rfl
theorem qjk{v0:RV}:wT e 3 y (.ins (e.C 3) [("form",v0)]) (.ins (e.C 3) [("form",v0),("pool",y)]) "pool":=wI rfl
theorem qjj{v0 v1:RV}:wT e 3 y (.ins (e.C 3) [("form",v0),("pool",v1)]) (.ins (e.C 3) [("form",v0),("pool",v1),("now",y)]) "now":=wI rfl
theorem qji{v0 v1 v2:RV}:wT e 3 y (.ins (e.C 3) [("form",v0),("pool",v1),("now",v2)]) (.ins (e.C 3) [("form",v0),("pool",v1),("now",v2),("by_inner",y)]) "by_inner":=wI rfl
theorem qjh{v0 v1 v2 v3:RV}:wT e 3 y (.ins (e.C 3) [("form",v0),("pool",v1),("now",v2),("by_inner",v3)]) (.ins (e.C 3) [("form",v0),("pool",v1),("now",v2),("by_inner",v3),("by_number",y)]) "by_number":=wI rfl
theorem qjg{v0 v1 v2 v3 v4:RV}:wT e 3 y (.ins (e.C 3) [("form",v0),("pool",v1),("now",v2),("by_inner",v3),("by_number",v4)]) (.ins (e.C 3) [("form",v0),("pool",v1),("now",v2),("by_inner",v3),("by_number",v4),("holders",y)]) "holders":=wI rfl
theorem qjf{v0 v1 v2 v3 v4 v5:RV}:wT e 3 y (.ins (e.C 3) [("form",v0),("pool",v1),("now",v2),("by_inner",v3),("by_number",v4),("holders",v5)]) (cW e v0 v1 v2 v3 v4 v5 y) "numbers":=wI rfl
theorem qpv:kT 29 3:=tG (d:=rG) rfl
theorem qcD{v0 v1 v2 v3 v4 v5 v6:RV}:mT e 3 (cW e v0 v1 v2 v3 v4 v5 v6) "of_inner":=mI rfl
theorem qdo:tT 30 3 "of_inner":=dP (d:=rT) rfl
theorem qeE{v0 v1 v2 v3 v4 v5 v6:RV}:mT e 3 (cW e v0 v1 v2 v3 v4 v5 v6) "lead":=mI rfl
theorem qfU:tT 45 3 "lead":=dP (d:=rR) rfl
theorem qdZ{v0 v1 v2 v3 v4 v5 v6:RV}:mT e 3 (cW e v0 v1 v2 v3 v4 v5 v6) "begin":=mI rfl
theorem qe6:tT 51 3 "begin":=dP (d:=oJ) rfl
theorem qcC{v0 v1 v2 v3 v4 v5 v6:RV}:mT e 3 (cW e v0 v1 v2 v3 v4 v5 v6) "of_outer":=mI rfl
theorem qdn:tT 56 3 "of_outer":=dP (d:=oG) rfl
theorem qhB{v0 v1 v2 v3 v4:RV}:lT e 4 (bX e v0 v1 v2 v3 v4) "form" v0:=lI rfl
theorem qha{v0 v1 v2 v3 v4:RV}:wT e 4 y (bX e v0 v1 v2 v3 v4) (bX e y v1 v2 v3 v4) "form":=wI rfl
theorem qgv{v0 v1 v2 v3 v4:RV}:lT e 4 (bX e v0 v1 v2 v3 v4) "table" v1:=lI rfl
theorem qfO{v0 v1 v2 v3 v4:RV}:wT e 4 y (bX e v0 v1 v2 v3 v4) (bX e v0 y v2 v3 v4) "table":=wI rfl
theorem qdy{v0 v1 v2 v3 v4:RV}:lT e 4 (bX e v0 v1 v2 v3 v4) "strangers" v2:=lI rfl
theorem qdm{v0 v1 v2 v3 v4:RV}:wT e 4 y (bX e v0 v1 v2 v3 v4) (bX e v0 v1 y v3 v4) "strangers":=wI rfl
theorem qhC{v0 v1 v2 v3 v4:RV}:lT e 4 (bX e v0 v1 v2 v3 v4) "done" v3:=lI rfl
theorem qhb{v0 v1 v2 v3 v4:RV}:wT e 4 y (bX e v0 v1 v2 v3 v4) (bX e v0 v1 v2 y v4) "done":=wI rfl
theorem qhA{v0 v1 v2 v3 v4:RV}:lT e 4 (bX e v0 v1 v2 v3 v4) "wish" v4:=lI rfl
theorem qg9{v0 v1 v2 v3 v4:RV}:wT e 4 y (bX e v0 v1 v2 v3 v4) (bX e v0 v1 v2 v3 y) "wish":=wI rfl
theorem qk2:wT e 4 y (.ins (e.C 4) []) (.ins (e.C 4) [("form",y)]) "form":=wI rfl
theorem qk1{v0:RV}:wT e 4 y (.ins (e.C 4) [("form",v0)]) (.ins (e.C 4) [("form",v0),("table",y)]) "table":=wI rfl
theorem qk0{v0 v1:RV}:wT e 4 y (.ins (e.C 4) [("form",v0),("table",v1)]) (.ins (e.C 4) [("form",v0),("table",v1),("strangers",y)]) "strangers":=wI rfl
theorem qkZ{v0 v1 v2:RV}:wT e 4 y (.ins (e.C 4) [("form",v0),("table",v1),("strangers",v2)]) (.ins (e.C 4) [("form",v0),("table",v1),("strangers",v2),("done",y)]) "done":=wI rfl
theorem qkY{v0 v1 v2 v3:RV}:wT e 4 y (.ins (e.C 4) [("form",v0),("table",v1),("strangers",v2),("done",v3)]) (bX e v0 v1 v2 v3 y) "wish":=wI rfl
theorem qd1{v0 v1 v2 v3 v4:RV}:mT e 4 (bX e v0 v1 v2 v3 v4) "moment":=mI rfl
theorem qe8:tT 17 4 "moment":=dP (d:=rQ) rfl
theorem qeI{v0 v1 v2 v3 v4:RV}:mT e 4 (bX e v0 v1 v2 v3 v4) "lends":=mI rfl
theorem qfY:tT 18 4 "lends":=dP (d:=rM) rfl
theorem qeH{v0 v1 v2 v3 v4:RV}:mT e 4 (bX e v0 v1 v2 v3 v4) "rules":=mI rfl
theorem qfX:tT 19 4 "rules":=dP (d:=rL) rfl
theorem qsI:kT 31 4:=tG (d:=sr) rfl
theorem qfo{v0 v1 v2 v3 v4:RV}:mT e 4 (bX e v0 v1 v2 v3 v4) "deed":=mI rfl
theorem qhe:tT 32 4 "deed":=dP (d:=p9) rfl
theorem qd0{v0 v1 v2 v3 v4:RV}:mT e 4 (bX e v0 v1 v2 v3 v4) "unrule":=mI rfl
theorem qe7:tT 33 4 "unrule":=dP (d:=uV) rfl
theorem qcF{v0 v1 v2 v3 v4:RV}:mT e 4 (bX e v0 v1 v2 v3 v4) "rule_told":=mI rfl
theorem qdq:tT 34 4 "rule_told":=dP (d:=rV) rfl
theorem qb1{v0 v1 v2 v3 v4:RV}:mT e 4 (bX e v0 v1 v2 v3 v4) "rule_dropped":=mI rfl
theorem qcn:tT 35 4 "rule_dropped":=dP (d:=uK) rfl
theorem qc0{v0 v1 v2 v3 v4:RV}:mT e 4 (bX e v0 v1 v2 v3 v4) "answered":=mI rfl
theorem qdN:tT 46 4 "answered":=dP (d:=ma) rfl
theorem qdu{v0 v1 v2 v3 v4:RV}:mT e 4 (bX e v0 v1 v2 v3 v4) "lead_in":=mI rfl
theorem qex:tT 47 4 "lead_in":=dP (d:=rP) rfl
theorem qfn{v0 v1 v2 v3 v4:RV}:mT e 4 (bX e v0 v1 v2 v3 v4) "rule":=mI rfl
theorem qhd:tT 58 4 "rule":=dP (d:=sm) rfl
theorem qdv{v0 v1 v2 v3 v4:RV}:mT e 4 (bX e v0 v1 v2 v3 v4) "come_in":=mI rfl
theorem qey:tT 59 4 "come_in":=dP (d:=oI) rfl
theorem qb2{v0 v1 v2 v3 v4:RV}:mT e 4 (bX e v0 v1 v2 v3 v4) "come_by_rule":=mI rfl
theorem qco:tT 60 4 "come_by_rule":=dP (d:=rS) rfl
theorem qfp{v0 v1 v2 v3 v4:RV}:mT e 4 (bX e v0 v1 v2 v3 v4) "come":=mI rfl
theorem qhf:tT 61 4 "come":=dP (d:=oF) rfl
theorem qdB:gT "GREATEST_HOUSE" 99:=jf rfl
theorem qei:gT "GREATEST_DOOR" 9999:=jf rfl
theorem qdA:gT "GREATEST_PLACE" 1000000:=jf rfl
theorem qgJ:gT "MOST_SIGNS" 40:=jf rfl
theorem qgK:gT "FIRST_SIGN" 32:=jf rfl
theorem qhQ:gT "LAST_SIGN" 126:=jf rfl
theorem qeL:gT "PERCENT_SIGN" 37:=jf rfl
theorem qfz:gT "WIDEST_STEP" 199:=jf rfl
theorem qeh:gT "GREATEST_MOST" 200:=jf rfl
theorem qef:gT "GREATEST_TIME" 1000000:=jf rfl
theorem qeg:gT "GREATEST_RULE" 1000000:=jf rfl
theorem qqj:cT "KINDS" ["note","line"]:=pw rfl
theorem qgU:cT "NOTE_WORDS" ["say"]:=pw rfl
theorem qgV:cT "LINE_WORDS" ["open","say","close","break"]:=pw rfl
theorem qjx:cT "LENDINGS" ["door","place","talk"]:=pw rfl
theorem qng:cT "SIEVES" ["all","place","talk"]:=pw rfl
theorem qqi:cT "PICKS" ["next","keep"]:=pw rfl
theorem qh2:cT "BREAKABLE" ["asked","called","up","near","far"]:=pw rfl
end
local macro_rules | `(tactic| walk_at "ev") => do
 let f:=fun(t:String)=>(t.splitOn "|").toArray.map fun s=>Lean.mkIdent s.toName
 let a<-(f "qc4|qcU|qdx|qdl|qjn|qjm|qpw|qdt|qew|qds|qev|qeG|qfW|qcE|qdp|qeF|qfV|qi9|qiN|qhz|qg8|qhy|qg7|qgu|qfN|qgt|qfM|qkX|qkW|qkV|qkU|qkT|qgn|qiS|qsH|qgs|qfL|qfs|qe3|qgr|qfK|qhx|qg6|qkS|qkR|qkQ|qkP|qsG|qgq|qfJ|qgp|qfI|qhw|qg5|qdw|qdk|qc3|qcT|qd6|qdL|qd5|qdK|qjl|qjk|qjj|qji|qjh|qjg|qjf|qpv|qcD|qdo|qeE|qfU|qdZ|qe6|qcC|qdn|qhB|qha|qgv|qfO|qdy|qdm|qhC|qhb|qhA|qg9|qk2|qk1|qk0|qkZ|qkY|qd1|qe8|qeI|qfY|qeH|qfX|qsI|qfo|qhe|qd0|qe7|qcF|qdq|qb1|qcn|qc0|qdN|qdu|qex|qfn|qhd|qdv|qey|qb2|qco|qfp|qhf|qdB|qei|qdA|qgJ|qgK|qhQ|qeL|qfz|qeh|qef|qeg|qqj|qgU|qgV|qjx|qng|qqi|qh2|qu9|qu7|qu8|qvi|qvh|qDw|qwj|g_C|qDv|qDu|qwk|oP|qpF|qpz|qpB|qlW|qoq|qjD|qpW|qvv|qvu|qwl|qwf|qwy|qqb|qvI|qqd|qtd|qCe|qpH|qtP|gn|SR|qqH|sF|qtq|qwD|qpC|quq|qup|Ra|qta|qpA|qCw|qCB|qDq|qv4|qsJ|qDn|qvl|qDm|qDr|qDo|qsO|qtH|qB9|qtL|qtM|qqq|qtK|qtJ|qqn|qqo|qqp|qtI|qtG|qCz|qDl|qpS|qpQ|qpT|qpR|qpP|qtx|Xi|Xk|qD5|qD4|qD3|qD2|Xj|qD1|qBM|qq1|qBO|qpy|qB8|Pn|qpD|qCF|qsk|qsj|qvV|qvW|qvT|qvU|qoB|Rb|qv8|qv7|qv6|reduceIte|qDp|qmM|t_v|t_i|t_s|t_b|t_n|qBL|qBU|qCa|ql|qCb|qsP|T_v|qEe|qEf|qEc|qEg|qEa|qEh|qEd|qEb|qD7|T_b|qEi|qD8|qD9|gM|qsL|qCf|qBT|qsM|qBV|qBZ|qBN|qBX|qBW|qB2|qB1|qBY|qBQ|qBS|qsK|qBR|qB0|qCc|qCd|qB6|qB4|qB7|qB5|qB3|qCD|TY|qCy|qCA|qCC|qCx|qCE|qpx|qCv|zw|qvS|qDN|qDO|qDQ|qDR|qDP|qqg|qwO|qwL|qwI|qwG|Xl").mapM fun s=>`(Lean.Parser.Tactic.simpLemma| ↓$s:ident)
 let b<-(f "List.getElem?_cons_zero|List.getElem?_cons_succ|true_and|Bool.not_true|Bool.not_false|lF|Bool.true_and|Bool.false_and|Bool.and_true|Bool.true_or|Bool.false_or|List.set_cons_zero|List.set_cons_succ|sG|dc|List.length_nil|cK|tY|List.cons_append|xN|Option.join_some|Option.isSome_some|Option.isSome_none|cE|iu|qlY|Nat.reduceAdd|fx|Int.reduceBEq|beq_self_eq_true|Int.reduceLE|Int.reduceLT|decide_true|decide_false|z_0|qBk|qDM|z_1|qBj|qDL|z_2|qBi|qDK|z_3|qBh|qDJ|z_4|qBg|qDI|z_5|qBf|qDH|z_6|qBe|qDG|KL|qBd|qDF|AI|qBc|qDE|z_9|qBb|qDD|and_true").mapM fun s=>`(Lean.Parser.Tactic.simpLemma| $s:ident)
 let c:=a++b
 `(tactic|simp -implicitDefEqProofs only[$c,*])
local macro_rules | `(tactic| walk_at "evs") => do
 let some s<-Lean.Macro.expandMacro? (<-`(tactic|walk_at "ev"))|Lean.Macro.throwUnsupported
 match s with
 | `(tactic|simp -implicitDefEqProofs only[$ls,*])=>`(tactic|simp -implicitDefEqProofs only[*,put_ne,ne_eq,not_false_eq_true,$ls,*])
 |_=>Lean.Macro.throwUnsupported
local macro_rules | `(tactic| walk_at "evl") => do
 let some s<-Lean.Macro.expandMacro? (<-`(tactic|walk_at "ev"))|Lean.Macro.throwUnsupported
 let a<-#["lg","lp","lo","lop","Nat.reduceLT","put_ne","ne_eq","not_false_eq_true"].mapM fun s=>`(Lean.Parser.Tactic.simpLemma| $(Lean.mkIdent s.toName):ident)
 match s with
 | `(tactic|simp -implicitDefEqProofs only[$ls,*])=>
  let c:=a++ls.getElems
  `(tactic|simp -implicitDefEqProofs only[*,$c,*])
 |_=>Lean.Macro.throwUnsupported
section
variable {e:Env}{n:Nat}{M:RM}{Q:aq}{E:fA}{σ:bq}{rs:LR}{D:RD}{a o t:T}{r:TX}
theorem ux{i:Nat}{d:XD}{rs:LR}(h:XS[i]? =some d):gj (P e) (n+1) i rs M Q E=(rs.length=d.ps.length/\fu ((P e).Gn n) ⟨XS,XC,e.XC⟩ (gj (P e) n) E d.xb (rd Q) (fQ d.N rs) M):=by rw[CH (x:=P e) h];rfl
theorem uz{i j:Nat}{rs:LR}(h:XT.lookup i=some j):aD (P e) (n+1) i rs M Q=gj (P e) (n+1) j rs M Q λ_ _=>False:=E1 (x:=P e) h
variable {Γ:G}{I:XI}{F:Nat->dm}
theorem gg:fu Γ I F E (.se a r) D σ M=(tr Γ a).S { D with nx:=fu Γ I F E r D } σ M:=rfl
theorem LJ{c:Nat}:fu Γ I F E (.rz t c a r) D σ M=(tr Γ t).T σ M λb M1=>if b=true then(tr Γ a).A σ M1 (λrs M2=>rs.length<=sizeLine/\E (.ref (I.XC c)) M2)else fu Γ I F E r D σ M1:=by
 show gz (pv _ (gz (wk _ _ _) k8) k8) _ D σ M=_;unfold gz pv wk k8;simp only[ml]
theorem LK{i f:Nat}{d:XD}(h:I.xd[f]? =some d):fu Γ I F E (.as i f o a r) D σ M=(tr Γ o).E σ M (pY (Γ.C d.cls) d.name (tr Γ a).A σ λrs M2=>F f rs M2 (λy M3=>fu Γ I F E r D (σ.set i (some y)) M3) E):=by
 show gz (tH i (m6 Γ I F E f o a)) _ D σ M=_;unfold m6;rw[h];rfl
theorem Gw{f:Nat}{d:XD}(h:I.xd[f]? =some d):fu Γ I F E (.re f o a) D σ M=(tr Γ o).E σ M (pY (Γ.C d.cls) d.name (tr Γ a).A σ λrs M2=>F f rs M2 D.rt E):=by
 show gz (wR (m6 Γ I F E f o a)) _ D σ M=_;unfold m6;rw[h];rfl
theorem LI{f c k j:Nat}{bs:List Bool}{d:XD}(h:I.xd[f]? =some d):fu Γ I F E (.ty f o a c k j bs r) D σ M=wG k (.ref (I.XC c)) (Γ.C d.cls) d.name (F f) (tr Γ o).E (tr Γ a).A (λa D σ M=>σ[k]? =some (some (.ref a))/\D.nx (σ.set j (some (.ls (bs.map RV.bl)))) M) { D with nx:=fu Γ I F E r D } σ M:=by
 show gz (xQ Γ I F f o a c k j bs) _ D σ M=_;unfold xQ;rw[h];rfl
end
section
variable {e:Env}{n:Nat}{M:RM}{Q:aq}
theorem O8{i:Int}:aD (P e) (n+1) 0 [.int i] M Q=Q (.bl true) M:=by
 rw[us (i:=0) (d:=vo) rfl];simp only[vo];walk_at "ev"
theorem l9{i j k:Int}:aD (P e) (n+2) 41 [.int i,.int j,.int k] M Q=Q (.bl (decide (j<=i)&&decide (i<=k))) M:=by
 rw[us (i:=41) (d:=uF) rfl];simp only[uF];walk_at "ev";simp only[↓O8];walk_at "ev";simp only[FZ]
theorem CA{i:Int}:aD (P e) (n+3) 1 [.int i] M Q=Q (.bl (decide (0<=i)&&decide (i<=99))) M:=by
 rw[us (i:=1) (d:=vB) rfl];simp only[vB];walk_at "ev";rw[l9]
theorem oQ{i:Int}:aD (P e) (n+3) 2 [.int i] M Q=Q (.bl (decide (1<=i)&&decide (i<=9999))) M:=by
 rw[us (i:=2) (d:=vh) rfl];simp only[vh];walk_at "ev";rw[l9]
theorem O9{i:Int}:aD (P e) (n+3) 3 [.int i] M Q=Q (.bl (decide (0<=i)&&decide (i<=1000000))) M:=by
 rw[us (i:=3) (d:=vA) rfl];simp only[vA];walk_at "ev";rw[l9]
theorem Pa{i:Int}:aD (P e) (n+3) 4 [.int i] M Q=Q (.bl (decide (1<=i)&&decide (i<=1000000))) M:=by
 rw[us (i:=4) (d:=uG) rfl];simp only[uG];walk_at "ev";rw[l9]
theorem wq{k:Nat}{x:Str}:(aG k (.str x)=true)=True:=by cases k<;>exact eq_true rfl
def Kd(k:Str):Prop:=k= "note"∨k= "line"
def Kw(k w:Str):Prop:=k= "note"/\w= "say"∨k= "line"/\(w= "open"∨w= "break")
theorem Kw.kd{k w:Str}(h:Kw k w):Kd k:=h.elim (λh=>.inl h.1) λh=>.inr h.1
theorem yN{k:Str}(h:Kd k):aD (P e) (n+1) 5 [.str k] M Q=Q (.bl true) M:=by
 rw[us (i:=5) (d:=vf) rfl];simp only[vf];walk_at "ev";rw[show inR (.str k) [.str "note",.str "line"]=true by rcases h with rfl|rfl<;>decide+kernel,wq,true_and]
theorem OP{k w:Str}(h:Kw k w):aD (P e) (n+1) 22 [.str k,.str w] M Q=Q (.bl true) M:=by
 rw[us (i:=22) (d:=vc) rfl];simp only[vc];walk_at "ev";rcases h with⟨rfl,rfl⟩|⟨rfl,h⟩
 . rw[az (by decide+kernel),show inR (.str "say") [.str "say"]=true by decide+kernel,wq,true_and]
 . rw[aj (by decide+kernel),show inR (.str w) [.str "open",.str "say",.str "close",.str "break"]=true by rcases h with rfl|rfl<;>decide+kernel,wq,true_and]
theorem gL{M:RM}:cu M:=trivial
theorem OQ(h:Q (.bl true) M):aD (P e) (n+2) 7 [.str ""] M Q:=by
 rw[us (i:=7) (d:=vd) rfl];simp only[vd];walk_at "ev";refine⟨by decide+kernel,?_⟩
 rw[aj (by decide+kernel),show kX "" = [] by decide+kernel]
 refine⟨⋯,oX (bd:=pF false 1) (λ_=>true) (λ_=>.bl true) gL _ _ (λy hy=>by cases hy) ?_⟩
 exact(Fe (bs:=[])).mpr h
theorem Ot{k w:Str}(l:Kw k w)(h:Q (.bl true) M):aD (P e) (n+3) 42 [.str k,.str w,.str ""] M Q:=by
 rw[us (i:=42) (d:=uN) rfl];simp only[uN];walk_at "ev";rw[yN l.kd,gM,az rfl,OP l,gM,az rfl];exact OQ h
theorem fT{a b c d:Int}(h1:a<=b)(h2:c<=d):(decide (a<=b)&&decide (c<=d))=true:=by simp[h1,h2]
theorem P4{x:Str}{r:LR}:aD (P e) (n+1) 11 [.tup (.str x::r)] M Q=Q (.str x) M:=by
 rw[us (i:=11) (d:=vb) rfl];simp only[vb];walk_at "ev";simp only[UY,lF,↓reduceIte]
noncomputable def eC:Option Int->RV
 |some i=>.int i
 |none=>.au
def Dd(e:Env)(x:Str)(i:Nat):Prop:=∃a,d7 (e.tb "DEEDS") (.inr x)=some (.ref a)/\(a,i)∈e.cv
structure Tb(e:Env):Prop where
 come:Dd e "come" 8
 rule:Dd e "rule" 9
 unrule:Dd e "unrule" 10
 t0:d7 (e.tb "TIME_AT") (.inr "note")=some (.int 0)
 t1:d7 (e.tb "TIME_AT") (.inr "asked")=some (.int 1)
 t2:d7 (e.tb "TIME_AT") (.inr "called")=some (.int 1)
 t3:d7 (e.tb "TIME_AT") (.inr "up")=some (.int 2)
 t4:d7 (e.tb "TIME_AT") (.inr "near")=some (.int 2)
 t5:d7 (e.tb "TIME_AT") (.inr "far")=some (.int 2)
theorem wg{x:Str}{i:Nat}{ps:LR}(d:Dd e x i)(h:aD (P e) (n+4) i [.tup ps] M Q):aD (P e) (n+5) 12 [.tup (.str x::ps)] M Q:=by
 rw[us (i:=12) (d:=vj) rfl];simp only[vj];walk_at "ev";rw[P4];walk_at "ev";obtain⟨f,h1,h2⟩:=d;rw[h1,oP,Pn,aj (by simp)]
 refine⟨_,dH.mpr ⟨_,h2,rfl⟩,?_⟩;walk_at "ev";rw[Al];exact h
theorem C4{a b c:Int}{k w:Str}(l:Kw k w)(ha:1<=a/\a<=1000000)(hb:1<=b/\b<=9999)(hc:1<=c/\c<=9999)(h:Q (.bl true) M):aD (P e) (n+4) 8 [.tup [.str k,.int a,.int b,.int c,.str w,.str ""]] M Q:=by
 rw[us (i:=8) (d:=rX) rfl];simp only[rX];walk_at "ev";simp only[↓Pa,↓oQ,↓gM,fT ha.1 ha.2,fT hb.1 hb.2,fT hc.1 hc.2,↓reduceIte];exact Ot l h
theorem OR{a b c:Int}{k:Str}{p:Option Int}(l:Kd k)(ha:1<=a/\a<=9999)(hp:∀i,p=some i->0<=i/\i<=1000000)(hb:0<=b/\b<=99)(hc:1<=c/\c<=9999)(h:Q (.bl true) M):aD (P e) (n+4) 9 [.tup [.str k,.int a,eC p,.int b,.int c]] M Q:=by
 rw[us (i:=9) (d:=rW) rfl];simp only[rW];cases p with
 |none=>
  rw[show eC none= .au from rfl];walk_at "ev"
  rw[yN l,gM,az rfl,oQ,fT ha.1 ha.2,gM,az rfl,CA,fT hb.1 hb.2,gM,az rfl,oQ,fT hc.1 hc.2];exact h
 |some i=>
  rw[show eC (some i)= .int i from rfl];walk_at "ev"
  rw[O9,fT (hp i rfl).1 (hp i rfl).2];walk_at "ev";rw[yN l,gM,az rfl,oQ,fT ha.1 ha.2,gM,az rfl,CA,fT hb.1 hb.2,gM,az rfl,oQ,fT hc.1 hc.2];exact h
theorem Oq{k:Int}(h1:0<=k)(h2:k<=1000000)(h:Q (.bl true) M):aD (P e) (n+4) 10 [.tup [.int k]] M Q:=by
 rw[us (i:=10) (d:=sj) rfl];simp only[sj];walk_at "ev";rw[l9,fT h1 h2];exact h
def Ws(s:Str):Prop:=s= "note"∨s= "asked"∨s= "called"∨s= "up"∨s= "near"∨s= "far"
theorem Ui(tb:Tb e){l h le si pi mo re:RV}{t0 t1 t2 t3:Int}{st:Str}(z:Ws st)(hq:∀x:Int,Q (.int x) M):aD (P e) (n+1) 24 [.tup [l,h,le,si,pi,mo,re,.tup [.int t0,.int t1,.int t2,.int t3]],.str st] M Q:=by
 rw[us (i:=24) (d:=va) rfl];simp only[va];walk_at "ev";rcases z with rfl|rfl|rfl|rfl|rfl|rfl
 . rw[tb.t0];walk_at "ev";exact hq _
 . rw[tb.t1];walk_at "ev";exact hq _
 . rw[tb.t2];walk_at "ev";exact hq _
 . rw[tb.t3];walk_at "ev";exact hq _
 . rw[tb.t4];walk_at "ev";exact hq _
 . rw[tb.t5];walk_at "ev";exact hq _
noncomputable def oS:Option Str->RV
 |some x=>.str x
 |none=>.au
noncomputable def steps:List (TK×Str):=(S.tt.lookup ("LINE_STEPS":Str)).getD []
noncomputable def ym (st:Option Str)(sd w:Str):Option Str:=if w= "break" then(if inR (oS st) [.str "asked",.str "called",.str "up",.str "near",.str "far"]=true then some ("shut":Str)else none)else(steps.find? λp=>decide (p.1= [some (.inr sd),st.map Sum.inr,some (.inr w)])).map (·.2)
theorem SF{l:List (TK×Str)}{k:TK}:jw l k=oS ((l.find? λp=>decide (p.1=k)).map (·.2)):=by unfold jw;split<;>rename_i h<;>rw[h]<;>rfl
theorem LH{Γ:G}{x:Str}{a:T}{σ:bq}{l:List (TK×Str)}(h:Γ.S.tt.lookup x=some l):(tr Γ (.tg x a)).E σ M Q=(tr Γ a).E σ M (vS l Q):=by
 show(match Γ.S.tt.lookup x with|some l=>vP l (tr Γ a).E|none=>fR) σ M Q=_
 rw[h];rfl
theorem NZ{st:Option Str}{sd w:Str}:aD (P e) (n+1) 43 [oS st,.str sd,.str w] M Q=Q (oS (ym st sd w)) M:=by
 rw[us (i:=43) (d:=uY) rfl];simp only[uY];walk_at "ev";have o1:aG 15 (oS st)=true:=by cases st<;>rfl
 have o2:ly [.str sd,oS st,.str w]=some [some (.inr sd),st.map Sum.inr,some (.inr w)]:=by cases st<;>rfl
 unfold ym
 by_cases h:w= "break"
 . rw[az (by simpa using h),az h,o1,eq_self_iff_true,true_and]
   split<;>rfl
 . rw[aj (by simpa using h),aj h]
   rw[LH (l:=steps) (by rfl)]
   walk_at "ev";show(match ly [.str sd,oS st,.str w]with|some ks=>Q (jw steps ks) M|none=>False)=_
   rw[o2];dsimp only;rw[SF]
noncomputable def nx (k:Str)(st:Option Str)(sd w:Str):Option Str:=if k= "note" then(if w=("say":Str)/\(st=none∨st=some ("note":Str))then some ("note":Str)else none)else ym st sd w
theorem Cq{k:Str}{st:Option Str}{sd w:Str}:aD (P e) (n+2) 49 [.str k,oS st,.str sd,.str w] M Q=Q (oS (nx k st sd w)) M:=by
 rw[us (i:=49) (d:=uX) rfl];simp only[uX];walk_at "ev";unfold nx
 by_cases h:k= "note"
 . rw[az (by simpa using h),az h];rw[us (i:=25) (d:=uW) rfl];simp only[uW];walk_at "ev"
   by_cases h1:w= "say"
   . subst h1
     cases st with
     |none=>rw[show oS none= .au from rfl];walk_at "ev";rw[az (Or.inl trivial)];rfl
     |some s=>
      rw[show oS (some s)= .str s from rfl];walk_at "ev"
      by_cases h2:s= "note"
      . subst h2;walk_at "ev";rw[az (Or.inr trivial)];rfl
      . rw[aj (by simpa using h2),aj (λz=>z.elim (λz=>by cases z) λz=>h2 (de z))];rfl
   . rw[aj (by simpa using h1),aj (λz=>h1 z.1)];rfl
 . rw[aj (by simpa using h),aj h]
   exact NZ
theorem Xa{k sd w:Str}:aD (P e) (n+2) 49 [.str k,.au,.str sd,.str w] M Q=Q (oS (nx k none sd w)) M:=Cq (st:=none)
theorem W9{k st sd w:Str}:aD (P e) (n+2) 49 [.str k,.str st,.str sd,.str w] M Q=Q (oS (nx k (some st) sd w)) M:=Cq (st:=some st)
theorem P5{l h:Int}(h1:1<=l)(h2:l<=h)(h3:h<=9999)(h4:h<=l+199):aD (P e) (n+4) 23 [.int l,.int h] M Q=Q (.bl true) M:=by
 rw[us (i:=23) (d:=ve) rfl];simp only[ve];walk_at "ev";rw[oQ,fT h1 ∅,gM,az rfl,oQ,fT ∅ h3,gM,az rfl]
 rw[mY h2,mY h4];rfl
theorem ON{a b c d:Int}(ha:1<=a/\a<=1000000)(hb:1<=b/\b<=1000000)(hc:1<=c/\c<=1000000)(hd:0<=d/\d<=1000000)(h:Q (.bl true) M):aD (P e) (n+3) 13 [.tup [.int a,.int b,.int c,.int d]] M Q:=by
 rw[us (i:=13) (d:=vq) rfl];simp only[vq];walk_at "ev";rw[show fK [RV.int a,RV.int b,RV.int c,RV.int d] none (some 3)= [RV.int a,RV.int b,RV.int c]from rfl]
 refine⟨(by decide:3<sizeLine),oX (bd:=pF false 1) (λ_=>true) (λ_=>.bl true) gL _ _ (λx hx=>⟨[x],rfl,λK h=>h,λ_ K h=>?_⟩) ?_⟩
 . have:∃i:Int,x= .int i/\1<=i/\i<=1000000:=by
    simp only[cM,lA,or_false]at hx;rcases hx with rfl|rfl|rfl
    . exact⟨a,rfl,ha⟩
    . exact⟨b,rfl,hb⟩
    . exact⟨c,rfl,hc⟩
   obtain⟨i,rfl,h1,h2⟩:=this;walk_at "ev";rw[l9,fT h1 h2];exact h
 . refine(Fe (bs:=[true,true,true])).mpr ?_
   show uy _ Q (.bl true) M;rw[gM,az rfl,l9,fT hd.1 hd.2];exact h
theorem SH{x:Str}(h:x= "door"∨x= "place"∨x= "talk"):inR (.str x) [.str "door",.str "place",.str "talk"]=true:=by rcases h with rfl|rfl|rfl<;>decide+kernel
theorem PK{x:Str}(h:x= "all"∨x= "place"∨x= "talk"):inR (.str x) [.str "all",.str "place",.str "talk"]=true:=by rcases h with rfl|rfl|rfl<;>decide+kernel
theorem Rw{x:Str}(h:x= "next"∨x= "keep"):inR (.str x) [.str "next",.str "keep"]=true:=by rcases h with rfl|rfl<;>decide+kernel
structure Fm where
 low:Int
 high:Int
 lend:Str
 sieve:Str
 pick:Str
 most:Int
 renew:Bool
 t0:Int
 t1:Int
 t2:Int
 t3:Int
noncomputable def Fm.times (f:Fm):RV:=.tup [.int f.t0,.int f.t1,.int f.t2,.int f.t3]
noncomputable def Fm.r (f:Fm):RV:=.tup [.int f.low,.int f.high,.str f.lend,.str f.sieve,.str f.pick,.int f.most,.bl f.renew,f.times]
structure Fm.Ok(f:Fm):Prop where
 lo:1<=f.low
 le:f.low<=f.high
 hi:f.high<=9999
 wide:f.high<=f.low+199
 lend:f.lend= "door"∨f.lend= "place"∨f.lend= "talk"
 sieve:f.sieve= "all"∨f.sieve= "place"∨f.sieve= "talk"
 pick:f.pick= "next"∨f.pick= "keep"
 most:1<=f.most/\f.most<=200
 t0:1<=f.t0/\f.t0<=1000000
 t1:1<=f.t1/\f.t1<=1000000
 t2:1<=f.t2/\f.t2<=1000000
 t3:0<=f.t3/\f.t3<=1000000
theorem OS{f:Fm}(ok:f.Ok)(h:Q (.bl true) M):aD (P e) (n+5) 14 [f.r] M Q:=by
 unfold Fm.r;rw[us (i:=14) (d:=vg) rfl];simp only[vg];unfold Bs;walk_at "ev";unfold Br;walk_at "ev";unfold Bq;walk_at "ev";simp only[SH ok.lend,PK ok.sieve,Rw ok.pick,wq,↓reduceIte,Bool.not_true,lF,true_and];unfold Bp;walk_at "ev";rw[l9,fT ok.most.1 ok.most.2];walk_at "ev";unfold Bo;walk_at "ev";rw[P5 ok.lo ok.le ok.hi ok.wide,gM,az rfl];exact ON ok.t0 ok.t1 ok.t2 ok.t3 h
end
section
variable {M:RM}
theorem WZ{x a:Addr}{o:RO}(hx:M x=none)(h:M a=some o):a≠x:=λz=>by
 rw[z,hx]at h;cases h
theorem Dq{x a:Addr}{o:RO}(h:put M a o x=none):M x=none/\x≠a:=by
 unfold put at h
 by_cases z:x=a
 . rw[az z]at h;cases h
 . rw[aj z]at h;exact⟨h,z⟩
theorem vH{a b:Addr}{o o':RO}(h:a≠b):put (put M a o) b o'=put (put M b o') a o:=by
 funext c;unfold put
 by_cases z1:c=b
 . rw[az z1,aj (by rw[z1];exactλz=>h z.symm),az z1]
 . rw[aj z1,aj z1]
end
section
noncomputable def lay (ad:Nat->Addr):Nat->List RO->RM->RM
 |_,[],M=>M
 |k,o::r,M=>put (lay ad (k+1) r M) (ad k) o
def Ij(ad:Nat->Addr)(n:Nat):Prop:=∀i j,i<n->j<n->ad i=ad j->i=j
variable {ad:Nat->Addr}{M:RM}{os:List RO}{o:RO}{i k:Nat}{x:Addr}
theorem D7:∀{os k i},Ij ad (k+os.length)->i<os.length->lay ad k os M (ad (k+i))=os[i]?
 |o::r,k,0,_,_=>cE
 |o::r,k,i+1,H,h=>by
  have h:i<r.length:=Nat.lt_of_succ_lt_succ h;have e1:k+(i+1)=k+1+i:=by omega
  have H':Ij ad (k+1+r.length):=by rw[dc]at H;rwa [show k+1+r.length=k+(r.length+1) by omega]
  rw[e1];refine(put_ne λz=>?_).trans ((D7 H' h).trans rfl)
  have:=H' _ _ ∅ ∅ z
  omega
theorem D6:∀{os k i},Ij ad (k+os.length)->i<os.length->put (lay ad k os M) (ad (k+i)) o=lay ad k (os.set i o) M
 |_::r,k,0,_,_=>iu
 |u::r,k,i+1,H,h=>by
  have h:i<r.length:=Nat.lt_of_succ_lt_succ h;have e1:k+(i+1)=k+1+i:=by omega
  have H':Ij ad (k+1+r.length):=by rw[dc]at H;rwa [show k+1+r.length=k+(r.length+1) by omega]
  rw[e1];show put (put (lay ad (k+1) r M) (ad k) u) (ad (k+1+i)) o=put (lay ad (k+1) (r.set i o) M) (ad k) u;rw[vH λz=>by have:=H' _ _ ∅ ∅ z;omega,D6 H' h]
theorem EE:∀{os k},(∀i,i<os.length->ad (k+i)≠x)->lay ad k os M x=M x
 | [],_,_=>rfl
 |o::r,k,h=>(put_ne (d9 (h 0 (Nat.succ_pos _)))).trans (EE λi hi=>by
  have:=h (i+1) (Nat.succ_lt_succ hi)
  rwa [show k+1+i=k+(i+1) by omega])
noncomputable abbrev laid (ad:Nat->Addr) (os:List RO) (M:RM):RM:=lay ad 0 os M
theorem lg(H:Ij ad os.length)(h:i<os.length):lay ad 0 os M (ad i)=os[i]?:=by
 have:=D7 (M:=M) (k:=0) (i:=i) (by rwa [fx]) h
 rwa [fx]at this
theorem lp(H:Ij ad os.length)(h:i<os.length):put (lay ad 0 os M) (ad i) o=lay ad 0 (os.set i o) M:=by
 have:=D6 (M:=M) (o:=o) (k:=0) (i:=i) (by rwa [fx]) h
 rwa [fx]at this
theorem zl{ad':Nat->Addr}:∀{os k},(∀j,j<k+os.length->ad j=ad' j)->lay ad k os M=lay ad' k os M
 | [],_,_=>rfl
 |o::r,k,h=>by
  show put (lay ad (k+1) r M) (ad k) o=put (lay ad' (k+1) r M) (ad' k) o;rw[zl (os:=r) (k:=k+1) λj hj=>h j (by rw[dc];omega),h k (by rw[dc];omega)]
theorem mj{o:RO}:∀{os k},lay ad k (os++ [o]) M=lay ad k os (put M (ad (k+os.length)) o)
 | [],_=>rfl
 |u::r,k=>by
  show put (lay ad (k+1) (r++ [o]) M) (ad k) u=put (lay ad (k+1) r (put M (ad (k+(r.length+1))) o)) (ad k) u;rw[mj,show k+1+r.length=k+(r.length+1) by omega]
theorem zg{o:RO}:∀{os k},(∀i,i<os.length->ad (k+i)≠x)->put (lay ad k os M) x o=lay ad k os (put M x o)
 | [],_,_=>rfl
 |u::r,k,h=>by
  show put (put (lay ad (k+1) r M) (ad k) u) x o=put (lay ad (k+1) r (put M x o)) (ad k) u;rw[vH (a:=ad k) (h 0 (Nat.succ_pos _)),zg λi hi=>by
   have:=h (i+1) (Nat.succ_lt_succ hi)
   rwa [show k+1+i=k+(i+1) by omega]]
theorem yZ:∀{os k},lay ad k os M x=none->M x=none
 | [],_,h=>h
 |_::_,_,h=>yZ (Dq h).1
theorem EF(H:Ij ad os.length)(h:i<os.length):∃u,lay ad 0 os M (ad i)=some u:=⟨os[i],by rw[lg H h];simp[h]⟩
theorem Li{k:Nat}(H:Ij ad k)(hl:os.length=k)(hx:lay ad 0 os M x=none):∃ad',(∀j,j<k->ad j=ad' j)/\ad' k=x/\Ij ad' (k+1)/\∀o,put (lay ad 0 os M) x o=lay ad' 0 (os++ [o]) M:=by
 subst hl;have ne:∀j,j<os.length->ad j≠x:=λj hj z=>by
  obtain⟨u,hu⟩:=EF (M:=M) H hj;rw[z,hx]at hu;cases hu
 have a1:∀j,j<os.length->ad j=(λj=>if j=os.length then x else ad j) j:=λj hj=>by
  show _=if j=os.length then x else ad j
  rw[aj ∅]
 have a2:(λj=>if j=os.length then x else ad j) os.length=x:=az rfl
 refine⟨λj=>if j=os.length then x else ad j,a1,a2,λi j hi hj z=>?_,λo=>?_⟩
 . dsimp only at z
   by_cases p:i=os.length<;>by_cases q:j=os.length
   . omega
   . rw[az p,aj q]at z;exact bp z.symm (ne j ∅)
   . rw[aj p,az q]at z;exact bp z (ne i ∅)
   . rw[aj p,aj q]at z;exact H i j ∅ ∅ z
 . rw[mj,fx,az rfl,zg λj hj=>by rw[fx];exact ne j hj]
   exact zl λj hj=>a1 j ∅
end
section
variable {κ κ' β:Type}[DecidableEq κ][DecidableEq κ']{g:κ->κ'}{v:β->RV}
noncomputable def enc (g:κ->κ')(v:β->RV)(l:List (κ×β)):List (κ'×RV):=l.map λx=>(g x.1,v x.2)
theorem wt(hg:∀a b,g a=g b->a=b){k:κ}:∀{l:List (κ×β)},lk (enc g v l) (g k)=(lk l k).map v
 | []=>rfl
 |(j,x)::r=>by
  show lk ((g j,v x)::enc g v r) (g k)=_;rw[ir,ir]
  by_cases h:j=k
  . rw[az h,az (by rw[h])];rfl
  . rw[aj h,aj (λz=>h (hg _ _ z))];exact wt hg
theorem sQ(hg:∀a b,g a=g b->a=b){k:κ}{y:β}{l:List (κ×β)}:pt (enc g v l) (g k) (v y)=enc g v (pt l k y):=by
 have e1:((enc g v l).any λkv=>decide (kv.1=g k))=(l.any λkv=>decide (kv.1=k)):=by
  unfold enc;rw[List.any_map];congr 1;funext x;exact decide_eq_decide.mpr ⟨λz=>hg _ _ z,λz=>by show g x.1=g k;rw[z]⟩
 unfold pt;rw[e1];split
 . unfold enc
   rw[iA,iA];refine xM λx _=>?_
   show(if g x.1=g k then(g x.1,v y)else(g x.1,v x.2))=(g (if x.1=k then(x.1,y)else x).1,v (if x.1=k then(x.1,y)else x).2)
   by_cases h:x.1=k
   . rw[az h,az (by rw[h])]
   . rw[aj h,aj (λz=>h (hg _ _ z))]
 . unfold enc;rw[List.map_append];rfl
theorem U7(hg:∀a b,g a=g b->a=b){k:κ}{l:List (κ×β)}:dr (enc g v l) (g k)=enc g v (dr l k):=by
 unfold dr enc;rw[List.filter_map];congr 2;funext x;exact decide_eq_decide.mpr ⟨λz q=>z (by rw[<-q]),λz q=>z (hg _ _ q)⟩
theorem qd{l:List (κ×β)}:(enc g v l).length=l.length:=by simp[enc]
theorem zo{l:List (κ×β)}{k:κ}{y:β}:(pt l k y).length<=l.length+1:=by
 unfold pt;split<;>simp
theorem Tx{l:List (κ×β)}{k:κ}{y:β}(h:lk l k=none):pt l k y=l++ [(k,y)]:=by
 unfold pt;rw[aj];intro z;obtain⟨x,hx,e⟩:=List.any_eq_true.mp z;unfold lk at h;rw[Option.map_eq_none_iff,List.find?_eq_none]at h;exact h x hx e
theorem sH(a b:Int)(h:(Sum.inl a:Key)= .inl b):a=b:=Sum.inl.inj h
theorem vT(a b:TK)(h:id a=id b):a=b:=h
end
section
variable {e:Env}{n:Nat}{M:RM}{Q:aq}
theorem Xb{a:Addr}{l h i:Int}{mk ta un:RV}(o:M a=some (eU e (.int l) (.int h) mk ta un)):aD (P e) (n+1) 28 [.ref a,.int i] M Q=Q (.bl (decide (l<=i)&&decide (i<=h))) M:=by
 rw[us (i:=28) (d:=rZ) rfl];simp only[rZ];walk_at "ev";rw[o];walk_at "ev";rw[o];walk_at "ev";exact FZ
end
section
theorem zM{κ β:Type}[DecidableEq κ]{l:List (κ×β)}{k:κ}{y:β}:lk (pt l k y) k=some y:=by
 induction l with
 |nil=>show lk [(k,y)] k=_;rw[ir,az rfl]
 |cons x r ih=>
  obtain⟨j,z⟩:=x;unfold pt at ih ⊢;rw[mZ]
  by_cases h:j=k
  . rw[az (by simp[h])]
    show lk ((if(j,z).1=k then((j,z).1,y)else(j,z))::_) k=_
    rw[az h,ir,az h]
  . rw[show(decide ((j,z).1=k)||r.any λkv=>decide (kv.1=k))=r.any λkv=>decide (kv.1=k) by simp[h]]
    split
    . rename_i h2
      rw[az h2]at ih;show lk ((if(j,z).1=k then((j,z).1,y)else(j,z))::_) k=_
      rw[aj h,ir,aj h];exact ih
    . rename_i h2
      rw[aj h2]at ih;show lk ((j,z)::(r++ [(k,y)])) k=_;rw[ir,aj h];exact ih
theorem ED{κ β:Type}[DecidableEq κ]{k:κ}:∀{l:List (κ×β)},(lk l k).isSome=decide (k∈l.map (·.1))
 | []=>by simp[lk]
 |(j,y)::l=>by
  rw[ir]
  by_cases h:j=k
  . rw[az h];simp[h]
  . rw[aj h,ED (l:=l)]
    simp[d9 h]
theorem eR{κ β:Type}[DecidableEq κ]{l:List (κ×β)}{k:κ}:lk l k=none↔k∉l.map (·.1):=by
 have:=ED (l:=l) (k:=k);cases e:lk l k with
 |none=>rw[e]at this;simpa using this.symm
 |some y=>rw[e]at this;simpa using this.symm
theorem zN{κ β:Type}[DecidableEq κ]{k:κ}{y:β}:∀{l:List (κ×β)},lk l k=some y->(k,y)∈l
 |(j,z)::l,h=>by
  rw[ir]at h
  by_cases q:j=k
  . rw[az q]at h;cases h;rw[q];exact .head _
  . rw[aj q]at h;exact .tail _ (zN h)
theorem UX{κ β:Type}[DecidableEq κ]{k:κ}{y:β}:lk [(k,y)] k=some y:=by rw[ir,az rfl]
theorem gb{κ β:Type}[DecidableEq κ]{l:List (κ×β)}{k:κ}{y:β}{x:κ×β}:x∈pt l k y↔x=(k,y)∨(x∈l/\x.1≠k):=by
 unfold pt;split
 . rename_i h
   obtain⟨w,hw,e1⟩:=List.any_eq_true.mp h;have e1:w.1=k:=of_decide_eq_true e1;rw[dH]
   constructor
   . rintro ⟨u,hu,rfl⟩
     by_cases z:u.1=k
     . rw[az z];exact .inl (by rw[z])
     . rw[aj z];exact .inr ⟨hu,z⟩
   . rintro (rfl|⟨hx,z⟩)
     . exact⟨w,hw,by rw[az e1,e1]⟩
     . exact⟨x,hx,aj z⟩
 . rename_i h
   rw[jH,t6]
   constructor
   . rintro (hx|rfl)
     . exact .inr ⟨hx,λz=>h (List.any_eq_true.mpr ⟨x,hx,mY z⟩)⟩
     . exact .inl rfl
   . rintro (rfl|⟨hx,_⟩)
     . exact .inr rfl
     . exact .inl hx
end
section
structure ej where
 kind:Str
 house:Int
 door:Int
 place:Int
 far:Int
noncomputable def ej.k (i:ej):TK:=[some (.inr i.kind),some (.inl i.house),some (.inl i.door),some (.inl i.place),some (.inl i.far)]
noncomputable def ej.r (i:ej):RV:=.tup [.str i.kind,.int i.house,.int i.door,.int i.place,.int i.far]
noncomputable def oK (k:Str)(p f:Int):TK:=[some (.inr k),some (.inl p),some (.inl f)]
noncomputable abbrev i9 (i:ej):TK:=oK i.kind i.place i.far
structure Rt where
 kind:Str
 num:Int
 place:Option Int
 house:Int
 door:Int
noncomputable def Rt.r (R:Rt):RV:=.tup [.str R.kind,.int R.num,eC R.place,.int R.house,.int R.door]
noncomputable def Rt.fits (kd:Str)(m p:Int)(R:Rt):Bool:=(R.kind==kd)&&(R.num==m)&&(match R.place with|none=>true|some q=>q==p)
noncomputable def zH:Option Rt->RV
 |none=>.au
 |some R=>.tup [.int R.house,.int R.door]
variable {e:Env}{n:Nat}{M:RM}{Q:aq}{ad:Nat->Addr}{f:Fm}{i j:ej}{u m p q:Int}{os:List RO}{o:RO}{x b:Addr}{kd:Str}
def Of(ad:Nat->Addr)(n:Nat)(x:Addr):Prop:=∀j,j<n->ad j≠x
theorem lo(h:Of ad os.length x):lay ad 0 os M x=M x:=EE λi hi=>by rw[fx];exact h i hi
theorem lop(h:Of ad os.length x):put (lay ad 0 os M) x o=lay ad 0 os (put M x o):=zg λi hi=>by rw[fx];exact h i hi
theorem of_none{k:Nat}(H:Ij ad k)(hl:os.length=k)(hx:lay ad 0 os M x=none):Of ad k x/\M x=none:=by
 subst hl;refine⟨λj hj z=>?_,yZ hx⟩
 obtain⟨u,hu⟩:=EF (M:=M) H hj;rw[z,hx]at hu;cases hu
theorem vG{a:Addr}{o:RO}(h:M a=some o):put M a o=M:=by
 funext b;unfold put;by_cases z:b=a
 . rw[az z,z,h]
 . rw[aj z]
theorem Ez{a:Int}:eC (some a)= .int a:=rfl
theorem EA:eC none= .au:=rfl
noncomputable def eS (l:List (Int×Rt)):bO:=enc Sum.inl Rt.r l
noncomputable def eA (l:List (TK×Addr)):List (TK×RV):=enc id RV.ref l
noncomputable def eB (l:List (Int×Addr)):bO:=enc Sum.inl RV.ref l
theorem FX{l:List (TK×Addr)}{k:TK}:lk (eA l) k=(lk l k).map RV.ref:=wt (g:=id) vT
theorem tm{l:List (Int×Addr)}{i:Int}:lk (eB l) (.inl i)=(lk l i).map RV.ref:=wt sH
theorem FW{l:List (Int×Rt)}{i:Int}:lk (eS l) (.inl i)=(lk l i).map Rt.r:=wt sH
noncomputable def zX:Option Addr->RV
 |some a=>.ref a
 |none=>.au
theorem Tp:zX none= .au:=rfl
noncomputable abbrev cG (e:Env) (ad:Nat->Addr) (f:Fm):RO:=bX e f.r (.ref (ad 1)) (.ref (ad 10)) (.ref (ad 9)) .au
noncomputable abbrev cA (e:Env) (ad:Nat->Addr) (f:Fm):RO:=cW e f.r (.ref (ad 2)) (.int 0) (.ref (ad 5)) (.ref (ad 6)) (.ref (ad 7)) (.ref (ad 8))
noncomputable abbrev cP (e:Env) (ad:Nat->Addr) (f:Fm):RO:=eU e (.int f.low) (.int f.high) (.int f.low) (.ref (ad 3)) (.ref (ad 4))
noncomputable abbrev cR (e:Env) (ad:Nat->Addr) (c:Int):RO:=gd e (.int c) (.ref (ad 11))
structure Cn where
 told:Int
 S:List (Int×Rt)
 B:List (TK×Addr)
 N:List (Int×Addr)
 ds:LR
noncomputable abbrev LG (e:Env) (ad:Nat->Addr) (f:Fm) (c:Cn) (M:RM):RM:=laid ad [cG e ad f,cA e ad f,cP e ad f,.dk [],.dk [],.dt (eA c.B),.dk (eB c.N),.dk [],.dt [],.lst c.ds,cR e ad c.told,.dk (eS c.S)] M
variable {c:Cn}
theorem Ni:fV i.r=some i.k:=rfl
theorem KW:fq f.r (.int 0) M Q=Q (.int f.low) M:=gn.trans (by rw[Xi];rfl)
theorem KY:fq f.r (.int 1) M Q=Q (.int f.high) M:=gn.trans (by rw[Xk];rfl)
theorem KZ:fq f.r (.int 6) M Q=Q (.bl f.renew) M:=gn.trans (by rw[Xj];rfl)
theorem O7(H:Ij ad 12):aD (P e) (n+1) 30 [.ref (ad 1),i.r] (LG e ad f c M) Q=Q (zX (lk c.B i.k)) (LG e ad f c M):=by
 rw[us (i:=30) (d:=rT) rfl];simp only[rT];walk_at "evl";rw[Gi Ni,FX];cases lk c.B i.k<;>rfl
theorem Oj{k p q:RV}(H:Ij ad 12)(h:lk c.N m=none):aD (P e) (n+1) 56 [.ref (ad 1),k,.int m,p,q] (LG e ad f c M) Q=Q .au (LG e ad f c M):=by
 have h1:lk (eB c.N) (.inl m)=none:=by rw[tm,h];rfl
 rw[us (i:=56) (d:=oG) rfl];simp only[oG];walk_at "evl"
theorem CB{k:Str}{p q:Int}{b:Addr}{D:List (TK×Addr)}(H:Ij ad 12)(h:lk c.N m=some b)(ob:Of ad 12 b)(hb:M b=some (.dt (eA D))):aD (P e) (n+1) 56 [.ref (ad 1),.str k,.int m,.int p,.int q] (LG e ad f c M) Q=Q (zX (lk D (oK k p q))) (LG e ad f c M):=by
 have h1:lk (eB c.N) (.inl m)=some (.ref b):=by rw[tm,h];rfl
 rw[us (i:=56) (d:=oG) rfl];simp only[oG];walk_at "evl";rw[Gi (show _=some (oK k p q)from rfl),FX];cases lk D (oK k p q)<;>rfl
theorem E9{D:RD}{L:RM}{g:RV}{R:Rt}{v:Bool}(h1:((R.kind==kd)&&(R.num==m)&&v)=true->D.rt (.tup [.int R.house,.int R.door]) L)(h2:((R.kind==kd)&&(R.num==m)&&v)=false->D.nx [some g,some (.str kd),some (.int m),some (.int p),some (.str R.kind),some (.int R.num),some (eC R.place),some (.int R.house),some (.int R.door),some (.bl v)] L):
 (tr ((P e).Gn n) zu).S D [some g,some (.str kd),some (.int m),some (.int p),some (.str R.kind),some (.int R.num),some (eC R.place),some (.int R.house),some (.int R.door),some (.bl v)] L:=by
 unfold zu;walk_at "ev";revert h1 h2;cases(R.kind==kd)<;>cases(R.num==m)<;>cases v<;>intro h1 h2<;>first|exact h1 rfl|exact h2 rfl
theorem U8{D:RD}{L:RM}{g:RV}{R:Rt}{z9:Option RV}(h1:R.fits kd m p=true->D.rt (.tup [.int R.house,.int R.door]) L)(h2:R.fits kd m p=false->∀v,D.nx [some g,some (.str kd),some (.int m),some (.int p),some (.str R.kind),some (.int R.num),some (eC R.place),some (.int R.house),some (.int R.door),some (.bl v)] L):
 (tr ((P e).Gn n) vZ).S D [some g,some (.str kd),some (.int m),some (.int p),some (.str R.kind),some (.int R.num),some (eC R.place),some (.int R.house),some (.int R.door),z9] L:=by
 unfold Rt.fits at h1 h2;unfold vZ;rw[Xl,TY];dsimp only[List.set_cons_zero,List.set_cons_succ];cases hp:R.place with
 |none=>
  rw[hp]at h1 h2;rw[EA]at h2 ⊢;walk_at "ev";refine E9 (R:=⟨R.kind,R.num,none,R.house,R.door⟩) (v:=true) h1 λz=>h2 z true
 |some q=>
  rw[hp]at h1 h2;rw[Ez]at h2 ⊢;walk_at "ev";refine E9 (R:=⟨R.kind,R.num,some q,R.house,R.door⟩) h1 λz=>h2 z _
theorem E8{D:RD}{L:RM}{g:RV}{ok:RM->Prop}{un:RM->RM}(ar:ok L):∀(l:List Rt) {z4 z5 z6 z7 z8 z9:Option RV},(match l.find? (Rt.fits kd m p)with|some R=>D.rt (.tup [.int R.house,.int R.door]) (un L)|none=>∀σ,D.nx σ (un L))->
 gR (mR [4,5,6,7,8]) (tr ((P e).Gn n) vZ).S D ok un (l.map Rt.r) [some g,some (.str kd),some (.int m),some (.int p),z4,z5,z6,z7,z8,z9] L
 | [],_,_,_,_,_,_,h=>⟨ar,h _⟩
 |R::l,_,_,_,_,_,_,h=>by
  rw[iC]at h;refine⟨ar,rfl,?_⟩;refine U8 (λz=>?_) λz v=>?_
  . rw[z]at h;exact⟨ar,h⟩
  . rw[z]at h;exact E8 ar l h
noncomputable def Cn.first (c:Cn)(kd:Str)(m p:Int):Option Rt:=(c.S.map (·.2)).find? (Rt.fits kd m p)
theorem Um(Hj:Ij ad 12)(hq:Q (zH (c.first kd m p)) (LG e ad f c M)):aD (P e) (n+1) 50 [.ref (ad 10),.str kd,.int m,.int p] (LG e ad f c M) Q:=by
 have g1:LG e ad f c M (ad 10)=some (cR e ad c.told):=lg Hj (Nat.le_of_ble_eq_true rfl);have g2:LG e ad f c M (ad 11)=some (.dk (eS c.S)):=lg Hj (Nat.le_of_ble_eq_true rfl);generalize LG e ad f c M=L at g1 g2 hq ⊢;rw[us (i:=50) (d:=rU) rfl];simp only[rU];unfold BY;walk_at "evs";unfold qw;simp only[g2];rw[show i7 false (eS c.S)=(c.S.map (·.2)).map Rt.r by unfold i7 eS enc;simp]
 refine E8 cE _ ?_;unfold Cn.first at hq;cases h:(c.S.map (·.2)).find? (Rt.fits kd m p)with
 |some R=>
  rw[h]at hq;show Q _ _;rw[iu,vG g2];exact hq
 |none=>
  rw[h]at hq;intro σ;unfold BX;walk_at "ev";rw[vG g2];exact hq
theorem Qz{s:RV}{t:Addr}{σ:bq}{N:RM->Prop}{m:Int}(ht:M t=some (gd e (.int m) s))(hN:N (put M t (gd e (.int (m+1)) s))):rg (e.C 0) "many_told" (tr ((P e).Gn n) (.i 1)).E σ N (.ref t) M:=by
 unfold rg;simp only[ht];refine⟨rfl,?_⟩;show(match M t with|some (.ins C2 fs2)=>_|_=>False)
 rw[ht];exact⟨rfl,by show(2:Nat)<1000;decide,hN⟩
noncomputable def Cn.tell (c:Cn)(R:Rt):Cn:={ c with told:=c.told+1,S:=pt c.S c.told R }
theorem Uj{R:Rt}(Hj:Ij ad 12)(hl:c.S.length<1000)(hq:Q (.int c.told) (LG e ad f (c.tell R) M)):aD (P e) (n+1) 57 [.ref (ad 10),.str R.kind,.int R.num,eC R.place,.int R.house,.int R.door] (LG e ad f c M) Q:=by
 have e1:pt (eS c.S) (.inl c.told) R.r=eS (pt c.S c.told R):=sQ sH;have q1:(eS c.S).length<sizeLine:=by unfold eS;rw[qd];exact ji hl ⋯
 rw[us (i:=57) (d:=rH) rfl];simp only[rH];walk_at "evl";rw[show RV.tup [.str R.kind,.int R.num,eC R.place,.int R.house,.int R.door]=R.r from rfl,e1,Md]
 refine Qz (m:=c.told) (lg Hj (Nat.le_of_ble_eq_true rfl)) ?_;rw[lp Hj (Nat.le_of_ble_eq_true rfl)];walk_at "evl";exact hq
theorem PR{k:Int}(Hj:Ij ad 12)(hq:Q (.bl (lk c.S k).isSome) (LG e ad f c M)):aD (P e) (n+1) 26 [.ref (ad 10),.int k] (LG e ad f c M) Q:=by
 rw[us (i:=26) (d:=rN) rfl];simp only[rN];walk_at "evl";rw[FW,qM];exact hq
noncomputable def Cn.drop (c:Cn)(k:Int):Cn:={ c with S:=dr c.S k }
theorem Ul{k:Int}(Hj:Ij ad 12)(h:(lk c.S k).isSome=true)(hq:Q .au (LG e ad f (c.drop k) M)):aD (P e) (n+1) 27 [.ref (ad 10),.int k] (LG e ad f c M) Q:=by
 have e1:dr (eS c.S) (.inl k)=eS (dr c.S k):=U7 sH;have e2:(lk (eS c.S) (.inl k)).isSome=true:=by rw[FW,qM];exact h
 rw[us (i:=27) (d:=rK) rfl];simp only[rK];walk_at "evl";exact hq
end
section
variable {e:Env}{n:Nat}{M:RM}{Q:aq}{ad:Nat->Addr}{f:Fm}{i j:ej}{c:Cn}{ov u m mo:Int}{st s1 wd:Str}{b x y:Addr}{D:List (TK×Addr)}
theorem zy(tb:Tb e)(z:Ws st)(hq:∀v:Int,Q (.int v) M):aD (P e) (n+1) 24 [f.r,.str st] M Q:=by
 unfold Fm.r Fm.times;exact Ui tb z hq
noncomputable def Cn.b0 (c:Cn)(i:ej)(m:Int)(x y:Addr):Cn:={ c with B:=pt c.B i.k x,N:=pt c.N m y }
noncomputable def Cn.b1 (c:Cn)(i:ej)(x:Addr):Cn:={ c with B:=pt c.B i.k x }
noncomputable abbrev jE (e:Env) (i:ej) (m:Int) (st:Str) (ov:Int):RO:=gf e i.r (.int m) (.str st) (.int ov)
theorem QO(tb:Tb e)(z:Ws st)(Hj:Ij ad 12)(l1:c.B.length<1000)(l2:c.N.length<1000)(hN:lk c.N m=none)
 (hq:∀x y ov,M x=none->Of ad 12 x->M y=none->Of ad 12 y->x≠y->Q .au (LG e ad f (c.b0 i m x y) (put (put M x (jE e i m st ov)) y (.dt (eA [(i9 i,x)]))))):
 aD (P e) (n+3) 51 [.ref (ad 1),i.r,.int m,.str st] (LG e ad f c M) Q:=by
 have q1:(eA c.B).length<sizeLine:=by unfold eA;rw[qd];exact ji l1 ⋯
 have q2:(eB c.N).length<sizeLine:=by unfold eB;rw[qd];exact ji l2 ⋯
 have e5:lk (eB c.N) (.inl m)=none:=by rw[tm,hN];rfl
 rw[us (i:=51) (d:=oJ) rfl];simp only[oJ];rw[show i.r= .tup [.str i.kind,.int i.house,.int i.door,.int i.place,.int i.far]from rfl];unfold Ag;walk_at "evl"
 unfold Af;walk_at "evl";refine zy tb z λv=>?_
 rw[zw];intro x hx;obtain⟨o1,m1⟩:=of_none Hj rfl hx;rw[us (i:=55) (d:=oE) rfl];simp only[oE];walk_at "evl";unfold Ae;walk_at "evl";have e1:pt (eA c.B) i.k (.ref x)=eA (pt c.B i.k x):=sQ (g:=id) vT;rw[wJ (show _=some i.k from rfl),e1]
 refine⟨q1,?_⟩;unfold Ax;walk_at "evl";intro y hy;obtain⟨o2,m2⟩:=of_none Hj rfl hy;obtain⟨m3,ne⟩:=Dq m2;have ne:x≠y:=λz=>ne z.symm
 have e2:pt (eB c.N) (.inl m) (.ref y)=eB (pt c.N m y):=sQ sH;have hq:=hq x y (0+v) m1 o1 m3 o2 ne;have e6:lk (eB (pt c.N m y)) (.inl m)=some (.ref y):=by rw[tm,zM];rfl
 walk_at "evl";unfold Aw;walk_at "evl";rw[wJ (show _=some (i9 i)from rfl)]
 refine⟨⋯,?_⟩
 walk_at "evl";exact hq
theorem QN(tb:Tb e)(z:Ws st)(Hj:Ij ad 12)(l1:c.B.length<1000)(l2:D.length<1000)(hN:lk c.N m=some b)(ob:Of ad 12 b)(hb:M b=some (.dt (eA D)))
 (hq:∀x ov,M x=none->Of ad 12 x->x≠b->Q .au (LG e ad f (c.b1 i x) (put (put M x (jE e i m st ov)) b (.dt (eA (pt D (i9 i) x)))))):
 aD (P e) (n+3) 51 [.ref (ad 1),i.r,.int m,.str st] (LG e ad f c M) Q:=by
 have q1:(eA c.B).length<sizeLine:=by unfold eA;rw[qd];exact ji l1 ⋯
 have q2:(eA D).length<sizeLine:=by unfold eA;rw[qd];exact ji l2 ⋯
 have e5:lk (eB c.N) (.inl m)=some (.ref b):=by rw[tm,hN];rfl
 rw[us (i:=51) (d:=oJ) rfl];simp only[oJ];rw[show i.r= .tup [.str i.kind,.int i.house,.int i.door,.int i.place,.int i.far]from rfl];unfold Ag;walk_at "evl"
 unfold Af;walk_at "evl";refine zy tb z λv=>?_
 rw[zw];intro x hx;obtain⟨o1,m1⟩:=of_none Hj rfl hx;have ne:b≠x:=WZ m1 hb;rw[us (i:=55) (d:=oE) rfl];simp only[oE];walk_at "evl";unfold Ae;walk_at "evl";have e1:pt (eA c.B) i.k (.ref x)=eA (pt c.B i.k x):=sQ (g:=id) vT;rw[wJ (show _=some i.k from rfl),e1]
 refine⟨q1,?_⟩;unfold Ax;walk_at "evl";have e2:pt (eA D) (i9 i) (.ref x)=eA (pt D (i9 i) x):=sQ (g:=id) vT;have hq:=hq x (0+v) m1 o1 (d9 ne);unfold Aw;walk_at "evl";rw[wJ (show _=some (i9 i)from rfl),e2]
 refine⟨q2,?_⟩;walk_at "evl";exact hq
theorem Uk(tb:Tb e)(z:Ws s1)(Hj:Ij ad 12)(ox:Of ad 12 x)(hx:M x=some (jE e i m st ov))(hq:∀ov,Q .au (LG e ad f c (put M x (jE e i m s1 ov)))):
 aD (P e) (n+4) 45 [.ref (ad 1),.ref x,.str s1] (LG e ad f c M) Q:=by
 have hs:(s1==("shut":Str))=false:=by rcases z with rfl|rfl|rfl|rfl|rfl|rfl<;>decide+kernel
 rw[us (i:=45) (d:=rR) rfl];simp only[rR];walk_at "evl";refine zy tb z λv=>?_
 have hq:=hq (0+v);rw[zw];walk_at "evl"
end
section
variable {e:Env}{n:Nat}{M M0:RM}{Q:aq}{ad:Nat->Addr}{f:Fm}{i j:ej}{c:Cn}{ov u m mo p q F:Int}{k:Nat}{st s1 wd kd:Str}{a b x y:Addr}{D:List (TK×Addr)}{o:RO}
structure Gs(e:Env)(ad:Nat->Addr)(f:Fm)(F:Int)(k:Nat)(c:Cn)(M0 M:RM):Prop where
 ij:Ij ad 12
 bk:∀p∈c.B,∃i:ej,p.1=i.k/\i.far<F
 nb:∀p∈c.N,Of ad 12 p.2/\M0 p.2=none/\∃D,M p.2=some (.dt (eA D))/\D.length<=k/\∀q∈D,∃kd p f,q.1=oK kd p f/\f<F
 fr:∀a o,M0 a=some o->M a=some o/\Of ad 12 a
 s1:c.B.length<=k
 s2:c.N.length<=k
theorem Gs.mono{F':Int}{k':Nat}(G:Gs e ad f F k c M0 M)(hF:F<=F')(hk:k<=k'):Gs e ad f F' k' c M0 M where
 ij:=G.ij
 bk:=λp hp=>by obtain⟨i,h1,h2⟩:=G.bk p hp;exact⟨i,h1,∅⟩
 nb:=λp hp=>by
  obtain⟨h1,h2,D,h3,h4,h5⟩:=G.nb p hp;exact⟨h1,h2,D,h3,∅,λq hq=>by obtain⟨kd,p,f,e1,e2⟩:=h5 q hq;exact⟨kd,p,f,e1,∅⟩⟩
 fr:=G.fr
 s1:=by have:=G.s1;omega
 s2:=by have:=G.s2;omega
theorem Gs.rules{S:List (Int×Rt)}{t:Int}{ds:LR}(G:Gs e ad f F k c M0 M):Gs e ad f F k { c with told:=t,S:=S,ds:=ds } M0 M:=⟨G.ij,G.bk,G.nb,G.fr,G.s1,G.s2⟩
theorem Gs.new(G:Gs e ad f F k c M0 M)(hx:M x=none):M0 x=none:=by
 cases h:M0 x with
 |none=>rfl
 |some o=>rw[(G.fr x o h).1]at hx;cases hx
theorem Gs.set{o':RO}(G:Gs e ad f F k c M0 M)(ha:M0 a=some o):Gs e ad f F k c (put M0 a o') (put M a o') where
 ij:=G.ij
 bk:=G.bk
 nb:=λp hp=>by
  obtain⟨h1,h2,D,h3,h4⟩:=G.nb p hp;have ne:p.2≠a:=λz=>by rw[z,ha]at h2;cases h2
  exact⟨h1,by rw[put_ne ne];exact h2,D,by rw[put_ne ne];exact h3,h4⟩
 fr:=λb o hb=>by
  by_cases z:b=a
  . subst z;rw[cE]at hb ⊢;exact⟨hb,(G.fr _ _ ha).2⟩
  . rw[put_ne z]at hb ⊢;exact G.fr b o hb
 s1:=G.s1
 s2:=G.s2
theorem Gs.iD{o':RO}(G:Gs e ad f F k c M0 M)(h0:M0 x=none)(hn:∀D,M x≠some (.dt (eA D))):Gs e ad f F k c M0 (put M x o') where
 ij:=G.ij
 bk:=G.bk
 nb:=λp hp=>by
  obtain⟨h1,h2,D,h3,h4⟩:=G.nb p hp;have ne:p.2≠x:=λz=>hn D (by rw[<-z];exact h3)
  exact⟨h1,h2,D,by rw[put_ne ne];exact h3,h4⟩
 fr:=λb o hb=>by
  have ne:b≠x:=λz=>by rw[z,h0]at hb;cases hb
  rw[put_ne ne];exact G.fr b o hb
 s1:=G.s1
 s2:=G.s2
theorem Gs.dict{D':List (TK×Addr)}(G:Gs e ad f F k c M0 M)(h0:M0 b=none)(hl:D'.length<=k)(hk:∀q∈D',∃kd p f,q.1=oK kd p f/\f<F):Gs e ad f F k c M0 (put M b (.dt (eA D'))) where
 ij:=G.ij
 bk:=G.bk
 nb:=λp hp=>by
  obtain⟨h1,h2,D,h3,h4⟩:=G.nb p hp
  by_cases z:p.2=b
  . exact⟨h1,h2,D',by rw[z,cE],hl,hk⟩
  . exact⟨h1,h2,D,by rw[put_ne z];exact h3,h4⟩
 fr:=λa o ha=>by
  have ne:a≠b:=λz=>by rw[z,h0]at ha;cases ha
  rw[put_ne ne];exact G.fr a o ha
 s1:=G.s1
 s2:=G.s2
structure eY(e:Env)(ad:Nat->Addr)(N:List (Int×Addr))(i:ej)(m:Int)(st:Str)(M0 M:RM):Prop where
 ex:∃x b D ov,M x=some (jE e i m st ov)/\Of ad 12 x/\M0 x=none/\lk N m=some b/\M b=some (.dt (eA D))/\Of ad 12 b/\M0 b=none/\lk D (i9 i)=some x
theorem eY.set{N:List (Int×Addr)}{o':RO}(T:eY e ad N i m st M0 M)(ha:M0 a=some o):eY e ad N i m st (put M0 a o') (put M a o'):=by
 obtain⟨x,b,D,ov,h1,h2,h3,h4,h5,h6,h7,h8⟩:=T.ex;have n1:x≠a:=λz=>by rw[z,ha]at h3;cases h3
 have n2:b≠a:=λz=>by rw[z,ha]at h7;cases h7
 exact⟨x,b,D,ov,by rw[put_ne n1];exact h1,h2,by rw[put_ne n1];exact h3,h4,by rw[put_ne n2];exact h5,h6,by rw[put_ne n2];exact h7,h8⟩
theorem Gs.rm(G:Gs e ad f F k c M0 M)(hi:F<=i.far):lk c.B i.k=none:=eR.mpr λh=>by
 obtain⟨p,hp,e1⟩:=dH.mp h;obtain⟨j,h1,h2⟩:=G.bk p hp;have:j.k=i.k:=h1.symm.trans e1;unfold ej.k at this;simp only[List.cons.injEq,t7,Sum.inl.injEq,and_true]at this;omega
theorem Gs.oB{D:List (TK×Addr)}(hD:∀q∈D,∃kd p f,q.1=oK kd p f/\f<F)(hq:F<=q):lk D (oK kd p q)=none:=eR.mpr λh=>by
 obtain⟨r,hr,e1⟩:=dH.mp h;obtain⟨k1,p1,f1,h1,h2⟩:=hD r hr;have:oK k1 p1 f1=oK kd p q:=h1.symm.trans e1;unfold oK at this;simp only[List.cons.injEq,t7,Sum.inl.injEq,and_true]at this;omega
theorem Gs.of_outer(G:Gs e ad f F k c M0 M)(hq:F<=q):aD (P e) (n+1) 56 [.ref (ad 1),.str kd,.int m,.int p,.int q] (LG e ad f c M) Q=Q .au (LG e ad f c M):=by
 cases hN:lk c.N m with
 |none=>exact Oj G.ij hN
 |some b=>
  obtain⟨b1,_,D,b2,_,b3⟩:=G.nb _ (zN hN);rw[CB G.ij hN b1 b2,Gs.oB b3 hq];rfl
noncomputable abbrev kept (x:Str):RV:=.tup [.str "kept",.str x]
noncomputable abbrev fb (h d:Int):RV:=.tup [.str "in",.int h,.int d]
noncomputable def dR (kd:Str):Str:=if kd= "note" then "note" else "called"
noncomputable def cj (kd:Str):Str:=if kd= "note" then "say" else "open"
theorem EZ(h:Kd kd):Ws (dR kd):=by rcases h with rfl|rfl<;>unfold dR Ws<;>decide+kernel
theorem Nh(h:Kd kd):nx kd none "far" (cj kd)=some (dR kd):=by rcases h with rfl|rfl<;>decide+kernel
theorem Ng(h:Kd kd):nx kd (some (dR kd)) "far" (cj kd)=some (dR kd):=by rcases h with rfl|rfl<;>decide+kernel
end
section
variable {e:Env}{n:Nat}{M M0:RM}{Q:aq}{ad:Nat->Addr}{f:Fm}{i j:ej}{c:Cn}{ov u m mo p q F:Int}{k:Nat}{st s1 wd kd:Str}{a b x y:Addr}{D:List (TK×Addr)}{o:RO}
theorem Gs.grow{B:List (TK×Addr)}{N:List (Int×Addr)}(G:Gs e ad f F k c M0 M)(hB:∀p∈B,p∈c.B∨∃i:ej,p.1=i.k/\i.far<F)(hN:∀p∈N,p∈c.N∨(Of ad 12 p.2/\M0 p.2=none/\∃D,M p.2=some (.dt (eA D))/\D.length<=k/\∀q∈D,∃kd p f,q.1=oK kd p f/\f<F))
 (l1:B.length<=k) (l2:N.length<=k):Gs e ad f F k { c with B:=B,N:=N } M0 M where
 ij:=G.ij
 bk:=λp hp=>(hB p hp).elim (G.bk p) id
 nb:=λp hp=>(hN p hp).elim (G.nb p) id
 fr:=G.fr
 s1:=l1
 s2:=l2
theorem Gs.begin(G:Gs e ad f F k c M0 M)(tb:Tb e)(z:Ws st)(hk:k<900)(hi:F<=i.far)(hq:∀c' M',c'.told=c.told->c'.S=c.S->c'.ds=c.ds->Gs e ad f (i.far+1) (k+1) c' M0 M'->eY e ad c'.N i m st M0 M'->Q .au (LG e ad f c' M')):
 aD (P e) (n+3) 51 [.ref (ad 1),i.r,.int m,.str st] (LG e ad f c M) Q:=by
 have Hj:=G.ij;have z1:=G.s1;have z2:=G.s2;have i1:Gs e ad f (i.far+1) (k+1) c M0 M:=G.mono ∅ ∅
 have hB:∀x:Addr,∀p∈pt c.B i.k x,p∈c.B∨∃j:ej,p.1=j.k/\j.far<i.far+1:=λx p hp=>by
  rcases gb.mp hp with rfl|⟨hp,_⟩
  . exact .inr ⟨i,rfl,∅⟩
  . exact .inl hp
 have lB:∀x:Addr,(pt c.B i.k x).length<=k+1:=λx=>c6 zo ∅
 cases hN:lk c.N m with
 |none=>
  refine QO tb z Hj ∅ ∅ hN λx y ov hx ox hy oy ne=>?_
  have g1:=i1.iD (o':=jE e i m st ov) (G.new hx) (λD h=>by rw[hx]at h;cases h)
  have g2:=g1.dict (b:=y) (D':=[(i9 i,x)]) (G.new hy) (by simp) (λq hq=>by cases t6.mp hq;exact⟨_,_,_,rfl,∅⟩)
  refine hq (c.b0 i m x y) _ rfl rfl rfl (g2.grow (hB x) (λp hp=>?_) (lB x) (c6 zo ∅)) ⟨x,y,[(i9 i,x)],ov,by rw[put_ne ne];exact cE,ox,G.new hx,zM,cE,oy,G.new hy,UX⟩
  rcases gb.mp hp with rfl|⟨hp,_⟩
  . exact .inr ⟨oy,G.new hy,_,cE,by simp,λq hq=>by cases t6.mp hq;exact⟨_,_,_,rfl,∅⟩⟩
  . exact .inl hp
 |some b=>
  obtain⟨b1,b2,D,b3,b4,b5⟩:=G.nb _ (zN hN);refine QN tb z Hj ∅ ∅ hN b1 b3 λx ov hx ox ne=>?_
  have g1:=i1.iD (o':=jE e i m st ov) (G.new hx) (λD h=>by rw[hx]at h;cases h)
  have g2:=g1.dict (b:=b) (D':=pt D (i9 i) x) b2 (c6 zo ∅) (λq hq=>by
   rcases gb.mp hq with rfl|⟨hq,_⟩
   . exact⟨_,_,_,rfl,∅⟩
   . obtain⟨k1,p1,f1,h1,h2⟩:=b5 q hq
     exact⟨k1,p1,f1,h1,∅⟩)
  exact hq (c.b1 i x) _ rfl rfl rfl (g2.grow (hB x) (λp hp=>.inl hp) (lB x) ∅) ⟨x,b,pt D (i9 i) x,ov,by rw[put_ne ne];exact cE,ox,G.new hx,hN,cE,b1,b2,zM⟩
theorem Gs.lead_in(G:Gs e ad f F k c M0 M)(tb:Tb e)(hk:Kd i.kind)(hx:M x=some (jE e i m (dR i.kind) ov))(ox:Of ad 12 x)(h0:M0 x=none)(hq:∀M',Gs e ad f F k c M0 M'->Q (fb i.house i.door) (LG e ad f c M')):
 aD (P e) (n+5) 47 [.ref (ad 0),.ref x,.str (cj i.kind)] (LG e ad f c M) Q:=by
 have Hj:=G.ij;have t3:M x=some (gf e (.tup [.str i.kind,.int i.house,.int i.door,.int i.place,.int i.far]) (.int m) (.str (dR i.kind)) (.int ov)):=hx;have hl:Q (fb i.house i.door) (LG e ad f c M):=hq M G;have h3:∀ov,Q (fb i.house i.door) (LG e ad f c (put M x (jE e i m (dR i.kind) ov))):=λov=>hq _ (G.iD h0 λD h=>by rw[hx]at h;cases h)
 have hs:=Ng hk;generalize hw:cj i.kind=w at hs ⊢;have hy:id (M x=some (jE e i m (dR i.kind) ov)):=hx;clear hx;rw[us (i:=47) (d:=rP) rfl];simp only[rP];unfold A9;walk_at "evl";unfold BI;(try walk_at "evl");rw[W9,hs,show oS (some (dR i.kind))= .str (dR i.kind)from rfl]
 unfold BH;(try walk_at "evl");unfold BG;(try walk_at "evl");rw[KZ];unfold BF;walk_at "evl";unfold BE;(try walk_at "ev")
 by_cases h:f.renew=true
 . rw[az h]
   exact Uk tb (EZ hk) Hj ox hy h3
 . rw[aj h]
   (try rw[aj (by simp)])
   exact hl
end
section
variable {e:Env}{n:Nat}{M M0:RM}{Q:aq}{ad:Nat->Addr}{f:Fm}{i j:ej}{c:Cn}{ov u m mo p q F:Int}{k:Nat}{st s1 wd kd:Str}{a b x y:Addr}{D:List (TK×Addr)}{o:RO}
theorem Gs.jI(G:Gs e ad f F k c M0 M)(tb:Tb e)(hk:k<900)(kk:Kd kd)(hi:F<=q)(hq0:c.first kd m p=none->Q (kept "nobody") (LG e ad f c M))
 (hq1:∀R,c.first kd m p=some R->∀c' M',c'.told=c.told->c'.S=c.S->c'.ds=c.ds->Gs e ad f (q+1) (k+1) c' M0 M'->eY e ad c'.N ⟨kd,R.house,R.door,p,q⟩ m (dR kd) M0 M'->Q (fb R.house R.door) (LG e ad f c' M')):
 aD (P e) (n+5) 60 [.ref (ad 0),.str kd,.int p,.int q,.int m,.str (cj kd)] (LG e ad f c M) Q:=by
 have Hj:=G.ij;have hs:=Nh kk;rw[us (i:=60) (d:=rS) rfl];simp only[rS];generalize hw:cj kd=w at hs ⊢;unfold Ca;walk_at "evl";refine Um Hj ?_;cases hf:c.first kd m p with
 |none=>
  rw[show zH none= .au from rfl]
  unfold Ak;walk_at "evl"
  all_goals exact hq0 hf
 |some R=>
  rw[show zH (some R)= .tup [.int R.house,.int R.door]from rfl]
  unfold Ak;walk_at "evl";unfold Bi;walk_at "evl";unfold Bh;walk_at "evl";rw[Xa,hs,show oS (some (dR kd))= .str (dR kd)from rfl];(try walk_at "evl")
  unfold Bg;walk_at "evl";unfold Bf;(try walk_at "evl")
  (try rw[show RV.tup [.str kd,.int R.house,.int R.door,.int p,.int q]=ej.r ⟨kd,R.house,R.door,p,q⟩from rfl])
  unfold Be;walk_at "evl";rw[O7 Hj,G.rm (i:=⟨kd,R.house,R.door,p,q⟩) hi,Tp];walk_at "evl";unfold Bd;walk_at "evl";refine G.begin tb (EZ kk) hk hi λc' M' h1 h2 h3 G' T=>?_
  unfold Bc;(try walk_at "ev");exact hq1 R hf c' M' h1 h2 h3 G' T
theorem Ek(ro:¬(f.low<=m/\m<=f.high))(Hj:Ij ad 12):aD (P e) (n+1) 28 [.ref (ad 2),.int m] (LG e ad f c M) Q=Q (.bl false) (LG e ad f c M):=by
 rw[Xb (lg Hj (Nat.le_of_ble_eq_true rfl))];rw[show(decide (f.low<=m)&&decide (m<=f.high))=false by rw[<-Bool.not_eq_true,bh,jk,jk];exact ro]
theorem Gs.gq(G:Gs e ad f F k c M0 M)(tb:Tb e)(ro:¬(f.low<=m/\m<=f.high))(hk:k<900)(kk:Kd kd)(hi:F<=q)(hq0:c.first kd m p=none->Q (kept "nobody") (LG e ad f c M))
 (hq1:∀R,c.first kd m p=some R->∀c' M',c'.told=c.told->c'.S=c.S->c'.ds=c.ds->Gs e ad f (q+1) (k+1) c' M0 M'->eY e ad c'.N ⟨kd,R.house,R.door,p,q⟩ m (dR kd) M0 M'->Q (fb R.house R.door) (LG e ad f c' M')):
 aD (P e) (n+6) 59 [.ref (ad 0),.str kd,.int p,.int q,.int m,.str (cj kd)] (LG e ad f c M) Q:=by
 have Hj:=G.ij;have by_:=G.jI (n:=n) tb hk kk hi hq0 hq1;generalize cj kd=w at by_ ⊢;rw[us (i:=59) (d:=oI) rfl];simp only[oI];unfold Ai;walk_at "evl";rw[G.of_outer hi];(try walk_at "evl");unfold Ah;walk_at "evl";unfold Bb;walk_at "evl";rw[Ek ro Hj];walk_at "evl";unfold Ba;walk_at "evl"
theorem Gs.qY(G:Gs e ad f F k c M0 M)(tb:Tb e)(kk:Kd i.kind)(T:eY e ad c.N i m (dR i.kind) M0 M)(hq:∀M',Gs e ad f F k c M0 M'->Q (fb i.house i.door) (LG e ad f c M')):
 aD (P e) (n+6) 59 [.ref (ad 0),.str i.kind,.int i.place,.int i.far,.int m,.str (cj i.kind)] (LG e ad f c M) Q:=by
 have Hj:=G.ij;obtain⟨x,b,D,ov,h1,h2,h3,h4,h5,h6,h7,h8⟩:=T.ex;have ld:=G.lead_in (n:=n) tb kk h1 h2 h3 hq;generalize cj i.kind=w at ld ⊢;have g1:∀{Q:aq},aD (P e) (n+5) 56 [.ref (ad 1),.str i.kind,.int m,.int i.place,.int i.far] (LG e ad f c M) Q=Q (.ref x) (LG e ad f c M):=by
  intro Q;rw[CB Hj h4 h6 h5,h8];rfl
 clear h1 h5 h8 h4;rw[us (i:=59) (d:=oI) rfl];simp only[oI];unfold Ai;walk_at "evl";unfold Ah;(try walk_at "evl")
end
section
variable {e:Env}{n:Nat}{M M0 L:RM}{Q:aq}{ad:Nat->Addr}{f:Fm}{i j:ej}{c:Cn}{ov u m mo p q F:Int}{k:Nat}{st s1 wd kd:Str}{a b x y g:Addr}{D:List (TK×Addr)}{o:RO}
theorem Aa{nm:Str}{ps:LR}{L:RM}{g dn:Addr}{fr rt rs wi:RV}{post:RV->RM->Prop}(hg:L g=some (bX e fr rt rs (.ref dn) wi))(hd:∀Q:aq,Q (.bl true) L->aD (P e) (n+8) 12 [.tup (.str nm::ps)] L Q)
 (ha:∀K:aq,(∀v M2,post v M2->K v M2)->aD (P e) (n+8) 46 [.ref g,.str nm,.tup ps] L K)
 (hq:∀v M2,post v M2->∃fr2 rt2 rs2 wi2 ds,M2 g=some (bX e fr2 rt2 rs2 (.ref dn) wi2)/\M2 dn=some (.lst ds)/\ds.length<4000/\Q v (put M2 dn (.lst (ds++ [.tup [.tup (.str nm::ps),v]])))):aD (P e) (n+9) 32 [.ref g,.tup (.str nm::ps)] L Q:=by
 rw[us (i:=32) (d:=p9) rfl];simp only[p9];walk_at "ev";refine hd _ ?_;walk_at "evs";rw[Al];refine ha _ λv M2 hp=>?_
 obtain⟨fr2,rt2,rs2,wi2,ds,g1,g2,g3,g4⟩:=hq v M2 hp;rw[g1];walk_at "ev";rw[g2];walk_at "ev";exact⟨ds,_,rfl,g2,ji g3 ⋯,g4⟩
variable {fr rt rs rdd wi:RV}{ps:LR}{k1 k2 k3 k4 k5 k6:RV}
theorem Ff(hg:L g=some (bX e fr rt rs rdd wi)):aD (P e) (n+1) 46 [.ref g,.str "come",.tup [k1,k2,k3,k4,k5,k6]] L Q=aD (P e) n 59 [.ref g,k1,k2,k3,k4,k5] L Q:=by
 rw[us (i:=46) (d:=ma) rfl];simp only[ma];unfold Av;walk_at "evs";rw[aj (by decide+kernel)];unfold Au;walk_at "evs"
theorem U6(hg:L g=some (bX e fr rt rs rdd wi)):aD (P e) (n+1) 46 [.ref g,.str "rule",.tup ps] L Q=aD (P e) n 34 [.ref g,.tup ps] L Q:=by
 rw[us (i:=46) (d:=ma) rfl];simp only[ma];unfold Av;walk_at "ev";rw[aj (by decide+kernel)];unfold Au;walk_at "ev"
 rw[aj (by decide+kernel)];unfold BD;walk_at "ev"
 rw[aj (by decide+kernel)];unfold BC;walk_at "ev"
 rw[aj (by decide+kernel)];unfold BB;walk_at "evs"
theorem wo{ds:LR}(Hj:Ij ad 12):put (LG e ad f c M) (ad 9) (.lst ds)=LG e ad f { c with ds:=ds } M:=lp Hj (Nat.le_of_ble_eq_true rfl)
theorem Gs.oj(G:Gs e ad f F k c M0 M)(tb:Tb e)(ro:¬(f.low<=m/\m<=f.high))(hk:k<900)(kk:Kd kd)(hi:F<=q)(hl:c.ds.length<4000)(op:1<=p/\p<=1000000)(oq:1<=q/\q<=9999)(om:1<=m/\m<=9999)
 (hq0:c.first kd m p=none->∀ds,ds.length=c.ds.length+1->Q (kept "nobody") (LG e ad f { c with ds:=ds } M))
 (hq1:∀R,c.first kd m p=some R->∀c' M',c'.told=c.told->c'.S=c.S->c'.ds.length=c.ds.length+1->Gs e ad f (q+1) (k+1) c' M0 M'->eY e ad c'.N ⟨kd,R.house,R.door,p,q⟩ m (dR kd) M0 M'->Q (fb R.house R.door) (LG e ad f c' M')):
 aD (P e) (n+10) 61 [.ref (ad 0),.str kd,.int p,.int q,.int m,.str (cj kd),.str ""] (LG e ad f c M) Q:=by
 have Hj:=G.ij;have kw:Kw kd (cj kd):=by rcases kk with rfl|rfl<;>unfold cj Kw<;>decide+kernel
 have dd:∀Q:aq,Q (.bl true) (LG e ad f c M)->aD (P e) (n+8) 12 [.tup [.str "come",.str kd,.int p,.int q,.int m,.str (cj kd),.str ""]] (LG e ad f c M) Q:=λQ hQ=>wg tb.come (C4 kw op oq om hQ)
 have aa:∀K:aq,(c.first kd m p=none->K (kept "nobody") (LG e ad f c M))->(∀R,c.first kd m p=some R->∀c' M',c'.told=c.told->c'.S=c.S->c'.ds=c.ds->Gs e ad f (q+1) (k+1) c' M0 M'->eY e ad c'.N ⟨kd,R.house,R.door,p,q⟩ m (dR kd) M0 M'->K (fb R.house R.door) (LG e ad f c' M'))->
  aD (P e) (n+8) 46 [.ref (ad 0),.str "come",.tup [.str kd,.int p,.int q,.int m,.str (cj kd),.str ""]] (LG e ad f c M) K:=λK h0 h1=>by
  rw[Ff (lg Hj (Nat.le_of_ble_eq_true rfl))];exact G.gq (n:=n+1) tb ro hk kk hi h0 h1
 generalize cj kd=w at dd aa ⊢;rw[us (i:=61) (d:=oF) rfl];simp only[oF];walk_at "evl";refine Aa (post:=λv M2=>(c.first kd m p=none/\v=kept "nobody"/\M2=LG e ad f c M)∨∃R c' M',c.first kd m p=some R/\c'.told=c.told/\c'.S=c.S/\c'.ds=c.ds/\Gs e ad f (q+1) (k+1) c' M0 M'/\eY e ad c'.N ⟨kd,R.house,R.door,p,q⟩ m (dR kd) M0 M'/\v=fb R.house R.door/\M2=LG e ad f c' M') (dn:=ad 9) (lg Hj (Nat.le_of_ble_eq_true rfl)) dd (λK hK=>aa K (λh=>hK _ _ (.inl ⟨h,rfl,rfl⟩)) λR h1 c' M' h2 h3 h4 h5 h6=>hK _ _ (.inr ⟨R,c',M',h1,h2,h3,h4,h5,h6,rfl,rfl⟩)) λv M2 z=>?_
 rcases z with⟨h,rfl,rfl⟩|⟨R,c',M',h1,h2,h3,h4,h5,h6,rfl,rfl⟩
 . refine⟨_,_,_,_,c.ds,lg Hj (Nat.le_of_ble_eq_true rfl),lg Hj (Nat.le_of_ble_eq_true rfl),hl,?_⟩
   rw[wo Hj];exact hq0 h _ (by simp)
 . refine⟨_,_,_,_,c'.ds,lg Hj (Nat.le_of_ble_eq_true rfl),lg Hj (Nat.le_of_ble_eq_true rfl),by rw[h4];exact hl,?_⟩
   rw[wo Hj];exact hq1 R h1 { c' with ds:=_ } M' h2 h3 (by simp[h4]) h5.rules h6
theorem Gs.oo(G:Gs e ad f F k c M0 M)(tb:Tb e)(kk:Kd i.kind)(hl:c.ds.length<4000)(op:1<=i.place/\i.place<=1000000)(oq:1<=i.far/\i.far<=9999)(om:1<=m/\m<=9999)(T:eY e ad c.N i m (dR i.kind) M0 M)
 (hq:∀ds M',ds.length=c.ds.length+1->Gs e ad f F k { c with ds:=ds } M0 M'->Q (fb i.house i.door) (LG e ad f { c with ds:=ds } M')):
 aD (P e) (n+10) 61 [.ref (ad 0),.str i.kind,.int i.place,.int i.far,.int m,.str (cj i.kind),.str ""] (LG e ad f c M) Q:=by
 have Hj:=G.ij;have kw:Kw i.kind (cj i.kind):=by rcases kk with h|h<;>rw[h]<;>unfold cj Kw<;>decide+kernel
 have dd:∀Q:aq,Q (.bl true) (LG e ad f c M)->aD (P e) (n+8) 12 [.tup [.str "come",.str i.kind,.int i.place,.int i.far,.int m,.str (cj i.kind),.str ""]] (LG e ad f c M) Q:=λQ hQ=>wg tb.come (C4 kw op oq om hQ)
 have aa:∀K:aq,(∀M',Gs e ad f F k c M0 M'->K (fb i.house i.door) (LG e ad f c M'))->aD (P e) (n+8) 46 [.ref (ad 0),.str "come",.tup [.str i.kind,.int i.place,.int i.far,.int m,.str (cj i.kind),.str ""]] (LG e ad f c M) K:=λK h=>by
  rw[Ff (lg Hj (Nat.le_of_ble_eq_true rfl))];exact G.qY (n:=n+1) tb kk T h
 generalize cj i.kind=w at dd aa ⊢;rw[us (i:=61) (d:=oF) rfl];simp only[oF];walk_at "evl";refine Aa (post:=λv M2=>∃M',Gs e ad f F k c M0 M'/\v=fb i.house i.door/\M2=LG e ad f c M') (dn:=ad 9) (lg Hj (Nat.le_of_ble_eq_true rfl)) dd (λK hK=>aa K λM' h=>hK _ _ ⟨M',h,rfl,rfl⟩) λv M2 z=>?_
 obtain⟨M',h,rfl,rfl⟩:=z;refine⟨_,_,_,_,c.ds,lg Hj (Nat.le_of_ble_eq_true rfl),lg Hj (Nat.le_of_ble_eq_true rfl),hl,?_⟩;rw[wo Hj];exact hq _ M' (by simp) h.rules
theorem Gs.iQ{R:Rt}(G:Gs e ad f F k c M0 M)(tb:Tb e)(ro:¬(f.low<=R.num/\R.num<=f.high))(hl:c.ds.length<4000)(hS:c.S.length<1000)(kk:Kd R.kind)(om:1<=R.num/\R.num<=9999)(op:∀i,R.place=some i->0<=i/\i<=1000000)(oh:0<=R.house/\R.house<=99)(od:1<=R.door/\R.door<=9999)
 (hq:∀ds,ds.length=c.ds.length+1->Gs e ad f F k { c.tell R with ds:=ds } M0 M->Q (.int c.told) (LG e ad f { c.tell R with ds:=ds } M)):
 aD (P e) (n+10) 58 [.ref (ad 0),.str R.kind,.int R.num,eC R.place,.int R.house,.int R.door] (LG e ad f c M) Q:=by
 have Hj:=G.ij;rw[us (i:=58) (d:=sm) rfl];simp only[sm];walk_at "evl";refine Aa (post:=λv M2=>v= .int c.told/\M2=LG e ad f (c.tell R) M) (dn:=ad 9) (lg Hj (Nat.le_of_ble_eq_true rfl)) (λQ hQ=>wg tb.rule (OR kk om op oh od hQ)) (λK hK=>?_) λv M2 z=>?_
 . rw[U6 (lg Hj (Nat.le_of_ble_eq_true rfl))]
   rw[us (i:=34) (d:=rV) rfl];simp only[rV];walk_at "evl";rw[Ek ro Hj];walk_at "evl";exact Uj Hj hS (hK _ _ ⟨rfl,rfl⟩)
 . obtain⟨rfl,rfl⟩:=z
   refine⟨_,_,_,_,c.ds,lg Hj (Nat.le_of_ble_eq_true rfl),lg Hj (Nat.le_of_ble_eq_true rfl),hl,?_⟩;rw[wo Hj];exact hq _ (by simp) G.rules
end
section
variable {e:Env}{n:Nat}{M M0 L:RM}{Q:aq}{E:fA}{ad:Nat->Addr}{f:Fm}{i j:ej}{c:Cn}{ov u m mo p q F k:Int}{kk:Nat}{a b x y g:Addr}{o:RO}
theorem wu{C:Addr}{nm:Str}{t:bx}{σ:bq}{K:LR->RM->Prop}{fs:List (Str×RV)}(h:M x=some (.ins C fs))(hl:fs.lookup nm=none)(hq:t σ M λrs M2=>K (.ref x::rs) M2):pY C nm t σ K (.ref x) M:=by
 exact⟨fs,h,hl,hq⟩
theorem SU(Hj:Ij ad 12)(hq:(lk c.S k).isSome=true->Q .au (LG e ad f (c.drop k) M))(hE:(lk c.S k).isSome=false->E (.ref (e.XC 0)) (LG e ad f c M)):gj (P e) (n+2) 0 [.ref (ad 0),.int k] (LG e ad f c M) Q E:=by
 rw[ux (i:=0) (d:=av) rfl];simp only[av];refine⟨rfl,?_⟩;rw[LJ];walk_at "evl";refine PR Hj ?_;rw[ql];cases hk:(lk c.S k).isSome with
 |false=>exact hE hk
 |true=>
  rw[aj ⋯,gg];walk_at "evl"
  refine Ul Hj hk ?_;rw[gg];walk_at "evl"
  first|exact hq hk|skip
theorem OD(Hj:Ij ad 12)(hq:(lk c.S k).isSome=true->Q .au (LG e ad f (c.drop k) M))(hE:(lk c.S k).isSome=false->E (.ref (e.XC 0)) (LG e ad f c M)):gj (P e) (n+3) 1 [.ref (ad 0),.str "unrule",.tup [.int k]] (LG e ad f c M) Q E:=by
 have d:=SU (n:=n) Hj hq hE;have hg:LG e ad f c M (ad 0)=some (cG e ad f):=lg Hj (Nat.le_of_ble_eq_true rfl);generalize LG e ad f c M=L at d hg ⊢;rw[ux (i:=1) (d:=aC) rfl];simp only[aC];refine⟨rfl,?_⟩;rw[gg];walk_at "ev";rw[aj (by decide+kernel)]
 rw[gg];walk_at "ev";rw[aj (by decide+kernel)]
 rw[gg];walk_at "ev";rw[aj (by decide+kernel)]
 rw[gg];walk_at "ev";rw[aj (by decide+kernel)]
 rw[gg];walk_at "ev";rw[aj (by decide+kernel)]
 rw[Gw (d:=av) rfl];walk_at "ev";refine wu hg rfl ?_;walk_at "ev";exact d
theorem SV(tb:Tb e)(Hj:Ij ad 12)(h0:0<=k)(h1:k<=1000000)(hl:c.ds.length<4000)(hq:(lk c.S k).isSome=true->∀ds,ds.length=c.ds.length+1->Q .au (LG e ad f { c.drop k with ds:=ds } M))(hE:(lk c.S k).isSome=false->E (.ref (e.XC 0)) (LG e ad f c M)):gj (P e) (n+7) 2 [.ref (ad 0),.tup [.str "unrule",.int k]] (LG e ad f c M) Q E:=by
 have hg:LG e ad f c M (ad 0)=some (cG e ad f):=lg Hj (Nat.le_of_ble_eq_true rfl);have dd:∀Q:aq,Q (.bl true) (LG e ad f c M)->aD (P e) (n+6) 12 [.tup [.str "unrule",.int k]] (LG e ad f c M) Q:=λQ hQ=>wg tb.unrule (Oq h0 h1 hQ)
 have aa:∀{Q':aq},((lk c.S k).isSome=true->Q' .au (LG e ad f (c.drop k) M))->gj (P e) (n+6) 1 [.ref (ad 0),.str "unrule",.tup [.int k]] (LG e ad f c M) Q' E:=λh=>OD Hj h hE
 generalize hL:LG e ad f c M=L at dd aa hg ⊢;rw[ux (i:=2) (d:=aX) rfl];simp only[aX];refine⟨rfl,?_⟩;rw[gg];walk_at "ev";refine dd _ ?_;rw[ql,aj ⋯]
 rw[LK (d:=aC) rfl];walk_at "ev";refine wu hg rfl ?_;walk_at "ev";rw[Al];refine aa λhk=>?_
 have hq:=hq hk;clear dd aa hL hg;have hq:=hq _ (List.length_append.trans rfl:(c.ds++ [RV.tup [.tup [.str "unrule",.int k],.au]]).length=c.ds.length+1);rw[gg];walk_at "evl";refine⟨c.ds,_,rfl,rfl,ji hl ⋯,?_⟩
 rw[gg];(try walk_at "ev");exact hq
theorem PY(tb:Tb e)(Hj:Ij ad 12)(h0:0<=k)(h1:k<=1000000)(hl:c.ds.length<4000)(hq:(lk c.S k).isSome=true->∀ds,ds.length=c.ds.length+1->Q .au (LG e ad f { c.drop k with ds:=ds } M))(hE:(lk c.S k).isSome=false->E (.ref (e.XC 0)) (LG e ad f c M)):gj (P e) (n+8) 3 [.ref (ad 0),.int k] (LG e ad f c M) Q E:=by
 have d:=SV (n:=n) tb Hj h0 h1 hl hq hE;have hg:LG e ad f c M (ad 0)=some (cG e ad f):=lg Hj (Nat.le_of_ble_eq_true rfl);generalize LG e ad f c M=L at d hg ⊢;rw[ux (i:=3) (d:=aN) rfl];simp only[aN];refine⟨rfl,?_⟩;rw[Gw (d:=aX) rfl];walk_at "ev";refine wu hg rfl ?_;walk_at "ev";exact d
noncomputable def dj:Option Rt->RV
 |some R=>R.r
 |none=>.au
theorem sJ{a:Addr}{xs:LR}(h:M a=some (.lst xs)):eZ "len" [.ref a] M Q=Q (.int xs.length) M:=by
 show(match M a with|some (.lst xs)=>Q (.int xs.length) M|some (.dk kvs)=>Q (.int kvs.length) M|some (.dt kvs)=>Q (.int kvs.length) M|_=>False)=_
 rw[h]
theorem zR{a:LR}(o:aG 16 (.ls a)=true)(hq:Q (.bl true) M):cz .Eq (.ls a) (.ls a) M Q:=by
 show aG 16 (.ls a)=true/\aG 16 (.ls a)=true/\Q (.bl (bw (.ls a) (.ls a))) M;rw[oO _ ⟨_,o⟩];exact⟨o,o,hq⟩
theorem V1{n k:Nat}(h:k<n):dY n (k:Int)=some k:=by
 unfold dY;rw[az ∅,az ∅];simp
noncomputable def wA:TX:=.se (.bg (.or (.cm .GtE (.v 2) (.bf "len" (.ec (.v 1) .e0))) (.cm .Is (.ix (.v 1) (.v 2)) .n)) (.se (.re (.cm .Eq (.v 3) (.ll (.ec (.b true) (.ec (.b true) (.ec (.b false) .e0)))))) .en) .en) (.se (.sp (.v 1) (.v 2) .n) (.se (.re (.cm .Eq (.v 3) (.ll .e0))) (.en)))
theorem Se{r:Addr}{k:Nat}{z0 z4:Option RV}{rs:List (Option Rt)}{F:Nat->dm}{D:RD}(hr:L r=some (.lst (rs.map dj)))(h:rs.length<=k∨rs[k]? =some none)(hq:D.rt (.bl true) L):
 fu ((P e).Gn n) ⟨XS,XC,e.XC⟩ F E wA D [z0,some (.ref r),some (.int k),some (.ls [.bl true,.bl true,.bl false]),z4] L:=by
 unfold wA;rw[gg];walk_at "ev";rw[sJ hr];walk_at "ev";have hc:cz CmpOp.Eq (RV.ls [RV.bl true,RV.bl true,RV.bl false]) (RV.ls [RV.bl true,RV.bl true,RV.bl false]) L D.rt:=zR (by decide+kernel) hq
 by_cases hl:rs.length<=k
 . rw[az (by rw[cb];simpa using hl)];exact hc
 . rw[aj (by rw[cb];simpa using hl)]
   have h:=h.resolve_left hl;rw[hr,sF,show bz (rs.map dj) (k:Int)=some .au from fS (by rw[fy,h];rfl),oP,show fe RV.au=true from rfl,az rfl]
   exact hc
theorem QL{r:Addr}{k:Nat}{z0 z4:Option RV}{rs:List (Option Rt)}{R:Rt}{F:Nat->dm}{D:RD}(hr:L r=some (.lst (rs.map dj)))(h:rs[k]? =some (some R))(hq:D.rt (.bl true) (put L r (.lst ((rs.set k none).map dj)))):
 fu ((P e).Gn n) ⟨XS,XC,e.XC⟩ F E wA D [z0,some (.ref r),some (.int k),some (.ls []),z4] L:=by
 unfold wA;rw[gg];walk_at "ev";rw[sJ hr];walk_at "ev";have hk:k<rs.length:=(hU.mp h).1;rw[aj (by rw[cb];simpa using hk)]
 rw[hr,sF,show bz (rs.map dj) (k:Int)=some R.r from fS (by rw[fy,h];rfl),oP]
 rw[show fe R.r=false from rfl,aj ⋯]
 rw[gg];walk_at "ev";rw[hr,Rb,show dY (rs.map dj).length (k:Int)=some k by rw[cb];exact V1 hk,oP]
 rw[gg];walk_at "ev";rw[show(rs.map dj).set k .au=(rs.set k none).map dj by rw[List.map_set];rfl]
 exact zR (by decide+kernel) hq
theorem Gs.dropped{r:Addr}{rs:List (Option Rt)}{k K:Nat}{F:Int}(G:Gs e ad f F K c M0 M)(tb:Tb e)(h1:k<=1000000)(hl:c.ds.length<4000)(hr:M0 r=some (.lst (rs.map dj)))(hs:(lk c.S (k:Int)).isSome=true↔∃R,rs[k]? =some (some R))
 (hn:(lk c.S (k:Int)).isSome=false->Q (.bl true) (LG e ad f c M))
 (hy:(lk c.S (k:Int)).isSome=true->∀ds,ds.length=c.ds.length+1->Q (.bl true) (LG e ad f { c.drop k with ds:=ds } (put M r (.lst ((rs.set k none).map dj))))):
 aD (P e) (n+9) 48 [.ref (ad 0),.ref r,.int k] (LG e ad f c M) Q:=by
 have Hj:=G.ij;obtain⟨m1,o1⟩:=G.fr r _ hr;rw[uz (j:=4) (by rfl)]
 rw[ux (i:=4) (d:=aS) rfl];simp only[aS];refine⟨rfl,?_⟩;rw[gg];walk_at "ev";rw[LI (d:=aN) rfl];unfold wG;walk_at "ev";refine wu (fs:=_) (lg Hj (Nat.le_of_ble_eq_true rfl)) rfl ?_;walk_at "ev";refine PY tb Hj (Int.natCast_nonneg k) ∅ hl (λh ds hd=>?_) λh=>?_
 . obtain⟨R,hR⟩:=hs.mp h
   refine QL (rs:=rs) (R:=R) ((lo o1).trans m1) hR ?_;rw[lop o1];exact hy h ds hd
 . refine⟨rfl,λa=>?_⟩
   refine Se (rs:=rs) ((lo o1).trans m1) ?_ (hn h)
   by_cases q:rs.length<=k
   . exact .inl q
   . refine .inr ?_
     cases z:rs[k]? with
     |none=>rw[List.getElem?_eq_none_iff]at z;omega
     |some o=>
      cases o with
      |none=>rfl
      |some R=>rw[hs.mpr ⟨R,z⟩]at h;cases h
end
section
variable {e:Env}{n:Nat}{M:RM}{Q:aq}
theorem Cz{xs:List Int}{k:Nat}:aD (P e) (n+1) 36 [.ls (xs.map RV.int),.int k] M Q=Q (.int (xs.getD k 0)) M:=by
 rw[us (i:=36) (d:=uQ) rfl];simp only[uQ];walk_at "ev";rw[cb]
 by_cases h:k<xs.length
 . rw[az (by simpa using h),fS (v:=RV.int (xs.getD k 0)) (by simp[h])]
   rfl
 . rw[aj (by simpa using h)]
   simp[Nat.le_of_not_lt h]
structure bT where
 a:Int
 b:Int
 c:Int
noncomputable def bT.l (g:bT):RO:=.lst [.int g.a,.int g.b,.int g.c]
structure bT.Ok(g:bT):Prop where
 a:0<=g.a
 b:0<=g.b/\g.b<2305843009213693951
 c:0<=g.c/\g.c<1000000
theorem OM{x:Addr}{g:bT}{m:Int}(hx:M x=some g.l)(ha:0<g.a)(hm:0<m)(hm2:m<1073741824)(hq:Q (.int (g.a % m)) (put M x (bT.l ⟨g.a / m,g.b,g.c⟩))):aD (P e) (n+1) 38 [.ref x,.int m] M Q:=by
 unfold bT.l at hx;rw[us (i:=38) (d:=p8) rfl];simp only[p8];walk_at "evs";exact hq
noncomputable def tL:Int:=2305843009213693951
noncomputable def Xc (b c:Int):Int:=((((b+1000003*c) % tL)*((b+1000003*c) % tL)+7919*c ^ 2+5) % tL) ^ 3 % tL / 13
theorem qo{i j:Int}(h1:-(2 ^ 64)<i)(h2:i<2 ^ 64):gB i j:=.inl ⟨h1,h2⟩
theorem N2{x:Addr}{g:bT}{m:Int}(hx:M x=some g.l)(ok:g.Ok)(ha:¬0<g.a)(hm:0<m)(hq:Q (.int (Xc g.b (g.c+1) % m)) (put M x (bT.l ⟨g.a,g.b,g.c+1⟩))):aD (P e) (n+1) 38 [.ref x,.int m] M Q:=by
 obtain⟨_,⟨b1,b2⟩,c1,c2⟩:=ok;unfold bT.l at hx;rw[us (i:=38) (d:=p8) rfl];simp only[p8];walk_at "evs";have e1:=Int.emod_nonneg (g.b+1000003*(g.c+1)) (b:=2305843009213693951) ⋯
 have e2:=Int.emod_lt_of_pos (g.b+1000003*(g.c+1)) (b:=2305843009213693951) ⋯
 have e3:∀z:Int,(z % 2305843009213693951).natAbs<2 ^ 64:=λz=>by
  have h1:=Int.emod_nonneg z (b:=2305843009213693951) ⋯
  have h2:=Int.emod_lt_of_pos z (b:=2305843009213693951) ⋯
  omega
 exact⟨qo ⋯ ⋯,qo ∅ ∅,∅,qo ⋯ ⋯,e3 _,hq⟩
noncomputable def qp (cell turn:Int):bT:=⟨if 10 ^ 18<=cell then cell-10 ^ 18 else 0,cell % tL,turn⟩
theorem WE:(10:Int) ^ Int.toNat 18=10 ^ 18:=rfl
theorem wc{c t:Int}(hq:∀p,M p=none->Q (.ref p) (put M p (qp c t).l)):aD (P e) (n+1) 37 [.int c,.int t] M Q:=by
 rw[us (i:=37) (d:=uO) rfl];simp only[uO];walk_at "ev";refine⟨⋯,?_⟩
 rw[WE];unfold qp bT.l at hq
 by_cases h:(10:Int) ^ 18<=c
 . rw[az (by simpa using h)]
   simp only[az h]at hq;exact⟨⋯,hq⟩
 . rw[aj (by simpa using h)]
   simp only[aj h]at hq;exact hq
structure bT.In(g:bT)(k:Int):Prop where
 a:0<=g.a
 b:0<=g.b/\g.b<2305843009213693951
 c:0<=g.c/\g.c<=k
theorem sI{a m:Int}(hm:0<m):0<=a % m/\a % m<m:=⟨Int.emod_nonneg _ ∅,Int.emod_lt_of_pos _ hm⟩
theorem ju{x:Addr}{g:bT}{m k:Int}(hx:M x=some g.l)(ok:g.In k)(hk:k<999999)(hm:0<m)(hm2:m<1073741824)(hq:∀v g',0<=v->v<m->bT.In g' (k+1)->Q (.int v) (put M x g'.l)):aD (P e) (n+1) 38 [.ref x,.int m] M Q:=by
 obtain⟨o1,o2,o3,o4⟩:=ok
 by_cases h:0<g.a
 . exact OM hx h hm hm2 (hq _ _ (sI hm).1 (sI hm).2 ⟨Int.ediv_nonneg o1 ∅,o2,o3,by show g.c<=k+1;omega⟩)
 . exact N2 hx ⟨o1,o2,o3,∅⟩ h hm (hq _ _ (sI hm).1 (sI hm).2 ⟨o1,o2,by show 0<=g.c+1;omega,by show g.c+1<=k+1;omega⟩)
theorem zI{xs:LR}{v:Int}(h0:0<=v)(h1:v<xs.length):∃y∈xs,∀{M:RM} {Q:aq},fq (.ls xs) (.int v) M Q=Q y M:=by
 obtain⟨j,rfl⟩:∃j:Nat,v=j:=⟨v.toNat,∅⟩
 have hj:j<xs.length:=by omega
 refine⟨xs[j],List.getElem_mem _,λ{M Q}=>?_⟩
 rw[SR,fS (v:=xs[j]) (by simp[hj])];rfl
theorem FU{a:Int}:0<=a % 2305843009213693951/\a % 2305843009213693951<2305843009213693951:=sI ⋯
theorem vL{c:Int}:(qp c 0).In 0:=⟨by unfold qp;dsimp only;split<;>omega,FU,⟨Int.le_refl _,Int.le_refl _⟩⟩
theorem xl(l:ay){v:Int}(h0:0<=v)(h1:v<l.length):∃m∈l,∀{M:RM} {Q:aq},fq (.ls (l.map RV.str)) (.int v) M Q=Q (.str m) M:=by
 obtain⟨y,hy,ey⟩:=zI (xs:=l.map RV.str) h0 (by rw[cb];exact h1)
 obtain⟨m,hm,rfl⟩:=dH.mp hy;exact⟨m,hm,ey⟩
theorem QQ{xs:List Int}{k:Int}(h0:0<=k)(hk:k<1000)(hx:0<xs.length)(hl:xs.length<1000)(hq:∀p g,M p=none->bT.In g 0->Q (.ref p) (put M p g.l)):aD (P e) (n+2) 39 [.ls (xs.map RV.int),.int k] M Q:=by
 obtain⟨j,rfl⟩:∃j:Nat,k=j:=⟨k.toNat,∅⟩
 rw[us (i:=39) (d:=uR) rfl];simp only[uR];walk_at "ev";rw[cb]
 by_cases h:j<xs.length
 . rw[az (by simpa using h),fS (v:=RV.int (xs.getD j 0)) (by simp[h])]
   walk_at "ev";exact wc λp hp=>hq p _ hp vL
 . rw[aj (by simpa using h)]
   refine⟨∅,?_⟩
   have h2:j % xs.length<xs.length:=Nat.mod_lt _ hx;rw[show((j:Int) % (xs.length:Int))=((j % xs.length:Nat):Int)from by simp,fS (v:=RV.int (xs.getD (j % xs.length) 0)) (by simp[h2])]
   walk_at "ev";refine⟨⋯,⋯,wc λp hp=>?_⟩
   unfold bT.l;walk_at "ev";refine⟨qo ⋯ ⋯,.inl ⟨∅,∅⟩,qo ⋯ ⋯,?_⟩
   generalize hw:qp _ 0=wb;have w:wb.In 0:=hw ▸ vL;exact hq p ⟨wb.a,_ % _,wb.c⟩ hp ⟨w.a,FU,w.c⟩
theorem qV{g:bT}{a b:Int}(h:g.In a)(hab:a<=b):g.In b:=⟨h.a,h.b,h.c.1,by have:=h.c.2;omega⟩
theorem MN(l:List (Option Int)){v:Int}(h0:0<=v)(h1:v<l.length):∃m∈l,∀{M:RM} {Q:aq},fq (.ls (l.map eC)) (.int v) M Q=Q (eC m) M:=by
 obtain⟨y,hy,ey⟩:=zI (xs:=l.map eC) h0 (by rw[cb];exact h1)
 obtain⟨m,hm,rfl⟩:=dH.mp hy;exact⟨m,hm,ey⟩
structure Fk(f:Fm):Prop where
 ok:f.Ok
 hi:f.high<=9899
theorem QS{x:Addr}{g:bT}(hx:M x=some g.l)(ok:g.In 0)(hq:∀f g',Fk f->bT.In g' 5->Q f.r (put M x g'.l)):aD (P e) (n+2) 20 [.ref x] M Q:=by
 rw[us (i:=20) (d:=uU) rfl];simp only[uU];walk_at "ev";refine ju hx ok ∅ ⋯ ⋯ λv1 g1 a1 b1 ok1=>?_
 walk_at "ev";refine ju cE ok1 ∅ ⋯ ⋯ λv2 g2 a2 b2 ok2=>?_
 rw[iu];walk_at "ev";refine ju cE ok2 ∅ ⋯ ⋯ λv3 g3 a3 b3 ok3=>?_
 rw[iu];obtain⟨ld,hld,ey⟩:=xl ["door","place","talk"] a3 b3;rw[show [RV.str "door",RV.str "place",RV.str "talk"]=(["door","place","talk"]:ay).map RV.str from rfl,ey];(try walk_at "ev")
 refine ju cE ok3 ∅ ⋯ ⋯ λv4 g4 a4 b4 ok4=>?_
 rw[iu];obtain⟨sv,hsv,ey⟩:=xl ["all","place","talk"] a4 b4;rw[show [RV.str "all",RV.str "place",RV.str "talk"]=(["all","place","talk"]:ay).map RV.str from rfl,ey];(try walk_at "ev")
 refine ju cE ok4 ∅ ⋯ ⋯ λv5 g5 a5 b5 ok5=>?_
 rw[iu];walk_at "ev";have q:=hq ⟨1+v2,1+v2+(1+v1)-1,ld,sv,"next",9,v5==1,9,9,9,9⟩ g5 ⟨⟨by dsimp only;omega,by dsimp only;omega,by dsimp only;omega,by dsimp only;omega,by simpa using hld,by simpa using hsv,.inl rfl,by dsimp only;omega,by dsimp only;omega,by dsimp only;omega,by dsimp only;omega,by dsimp only;omega⟩,by dsimp only;omega⟩ ok5
 exact q
structure Rt.Ok(R:Rt):Prop where
 kind:Kd R.kind
 num:9990<=R.num/\R.num<=9992
 place:∀i,R.place=some i->1<=i/\i<=1000000
 house:0<=R.house/\R.house<=99
 door:1<=R.door/\R.door<=9999
theorem QR{x:Addr}{g:bT}{k:Nat}{q:Int}(hk:k<300)(hx:M x=some g.l)(ok:g.In q)(h1:q<900000)(hq:∀R g',Rt.Ok R->bT.In g' (q+4)->Q R.r (put M x g'.l)):aD (P e) (n+2) 40 [.ref x,.int k] M Q:=by
 rw[us (i:=40) (d:=uS) rfl];simp only[uS];walk_at "ev";refine ju hx ok ∅ ⋯ ⋯ λv1 g1 a1 b1 ok1=>?_
 obtain⟨kd,hkd,ey⟩:=xl ["note","line"] a1 b1;rw[show [RV.str "note",RV.str "line"]=(["note","line"]:ay).map RV.str from rfl,ey];(try walk_at "ev")
 refine ju cE ok1 ∅ ⋯ ⋯ λv2 g2 a2 b2 ok2=>?_
 rw[iu];obtain⟨pl,hpl,ey⟩:=MN [none,some 3,some 4,some 1000000,some 5] a2 b2;rw[show [RV.au,RV.int 3,RV.int 4,RV.int 1000000,RV.int 5]=([none,some 3,some 4,some 1000000,some 5]:List (Option Int)).map eC from rfl,ey];(try walk_at "ev")
 refine ju cE ok2 ∅ ⋯ ⋯ λv3 g3 a3 b3 ok3=>?_
 rw[iu];walk_at "ev";refine ju cE ok3 ∅ ⋯ ⋯ λv4 g4 a4 b4 ok4=>?_
 rw[iu];walk_at "ev";have q:=hq ⟨kd,9990+v3,pl,(k:Int) % 100,1+v4+k⟩ g4 ⟨by simpa[Kd]using hkd,by dsimp only;omega,λi hi=>?_,by dsimp only;omega,by dsimp only;omega⟩ (qV ok4 ∅)
 . exact q
 . dsimp only at hi
   subst hi;simp at hpl;omega
noncomputable def mD (kd:Str)(m p:Int):Option Rt->Bool
 |some R=>R.fits kd m p
 |none=>false
noncomputable def fg (rs:List (Option Rt))(kd:Str)(m p:Int):Option Nat:=rs.findIdx? (mD kd m p)
noncomputable def optN:Option Nat->RV
 |some k=>.int (k:Int)
 |none=>.au
theorem WO{a b:Str}{i j:Int}:cz .Eq (.tup [.str a,.int i]) (.tup [.str b,.int j]) M Q=Q (.bl ((a==b)&&(i==j))) M:=by
 show(aG 16 (.tup [.str a,.int i])=true/\aG 16 (.tup [.str b,.int j])=true/\Q (.bl (bw (.tup [.str a,.int i]) (.tup [.str b,.int j]))) M)=_;rw[show aG 16 (.tup [.str a,.int i])=true from rfl,show aG 16 (.tup [.str b,.int j])=true from rfl,eq_self_iff_true,true_and,true_and]
 congr 2;simp[bw,gy]
theorem Sb{D:RD}{L:RM}{z0:Option RV}{kd:Str}{m p:Int}{R:Rt}{i:Int}(h1:R.fits kd m p=true->D.rt (.int i) L)(h2:R.fits kd m p=false->D.nx [z0,some (.str kd),some (.int m),some (.int p),some (.int i),some R.r] L):
 (tr ((P e).Gn n) o7).S D [z0,some (.str kd),some (.int m),some (.int p),some (.int i),some R.r] L:=by
 unfold Rt.r Rt.fits at*;unfold o7;walk_at "ev";rw[show fK [RV.str R.kind,RV.int R.num,eC R.place,RV.int R.house,RV.int R.door] none (some 2)= [.str R.kind,.int R.num]from rfl,WO,ql]
 cases hb:((R.kind==kd)&&(R.num==m))with
 |false=>rw[hb]at h2;rw[aj ⋯];exact h2 rfl
 |true=>
  rw[hb]at h1 h2;rw[az rfl];cases hp:R.place with
  |none=>rw[hp]at h1;rw[EA,show fe RV.au=true from rfl,az rfl];exact h1 rfl
  |some q=>
   rw[hp]at h1 h2;rw[Ez,show fe (RV.int q)=false from rfl,aj ⋯];walk_at "ev"
   cases hq:(q==p)with
   |false=>rw[aj ⋯];exact h2 (by show(true&&(q==p))=false;rw[hq];rfl)
   |true=>rw[az rfl];exact h1 (by show(true&&(q==p))=true;rw[hq];rfl)
theorem Ec{D:RD}{L:RM}{z0:Option RV}{kd:Str}{m p:Int}{ok:RM->Prop}(ar:ok L):∀(l:List (Option Rt)) (i:Nat) {z4 z5:Option RV},(match fg l kd m p with|some j=>D.rt (.int ((i+j:Nat):Int)) L|none=>∀σ,D.nx σ L)->
 gR (mR [4,5]) (tr ((P e).Gn n) o7).S D ok id (gu i (l.map dj)) [z0,some (.str kd),some (.int m),some (.int p),z4,z5] L
 | [],i,_,_,h=>⟨ar,h _⟩
 |o::l,i,_,_,h=>by
  unfold fg at h;rw[List.findIdx?_cons]at h;have next:mD kd m p o=false->∀z4 z5,gR (mR [4,5]) (tr ((P e).Gn n) o7).S D ok id (gu (i+1) (l.map dj)) [z0,some (.str kd),some (.int m),some (.int p),z4,z5] L:=λho z4 z5=>by
   refine Ec ar l (i+1) ?_;rw[ho,aj ⋯]at h
   unfold fg;cases hf:l.findIdx? (mD kd m p)with
   |none=>rw[hf]at h;exact h
   |some j=>
    rw[hf]at h;have h:D.rt (.int ((i+(j+1):Nat):Int)) L:=h;rw[show i+(j+1)=i+1+j by omega]at h
    exact h
  refine⟨ar,rfl,?_⟩;cases o with
  |none=>
   show(tr ((P e).Gn n) o7).S _ [z0,some (.str kd),some (.int m),some (.int p),some (.int (i:Int)),some .au] L;unfold o7;walk_at "ev";exact next rfl _ _
  |some R=>
   refine Sb (λhR=>?_) λhR=>?_
   . rw[show mD kd m p (some R)=true from hR,az rfl]at h;exact⟨ar,h⟩
   . exact next hR _ _
theorem RW{r:Addr}{rs:List (Option Rt)}{kd:Str}{m p:Int}(hr:M r=some (.lst (rs.map dj)))(hq:Q (optN (fg rs kd m p)) M):aD (P e) (n+1) 52 [.ref r,.str kd,.int m,.int p] M Q:=by
 rw[us (i:=52) (d:=uZ) rfl];simp only[uZ];unfold Jw;walk_at "ev";rw[Sg hr];refine Ec hr rs 0 ?_;cases h:fg rs kd m p with
 |some j=>rw[h]at hq;show Q (.int ((0+j:Nat):Int)) M;rw[fx];exact hq
 |none=>rw[h]at hq;intro σ;unfold Jv;walk_at "ev";exact hq
end
section
noncomputable def bF:Nat->List (Option Rt)->List (Int×Rt)
 |_,[]=>[]
 |i,some R::l=>((i:Int),R)::bF (i+1) l
 |i,none::l=>bF (i+1) l
theorem sg:∀{l:List (Option Rt)} {i:Nat} {x:Int×Rt},x∈bF i l->(i:Int)<=x.1
 |some R::l,i,x,h=>by
  unfold bF at h;rcases cM.mp h with rfl|h
  . exact Int.le_refl _
  . have:=sg h;omega
 |none::l,i,x,h=>by
  unfold bF at h;have:=sg h;omega
theorem vD:∀{l:List (Option Rt)} {i k:Nat},lk (bF i l) ((i+k:Nat):Int)=(l[k]?).join
 | [],i,k=>rfl
 |some R::l,i,0=>by unfold bF;rw[ir,az (by simp)];rfl
 |some R::l,i,k+1=>by
  unfold bF;rw[ir,aj ∅,show i+(k+1)=i+1+k by omega,vD];simp
 |none::l,i,0=>by
  unfold bF;rw[eR.mpr λh=>?_]
  . rfl
  . obtain⟨x,hx,e⟩:=dH.mp h
    have:=sg hx;omega
 |none::l,i,k+1=>by
  unfold bF;rw[show i+(k+1)=i+1+k by omega,vD];simp
theorem PH{l:List (Option Rt)}{k:Nat}:(lk (bF 0 l) (k:Int)).isSome=true↔∃R,l[k]? =some (some R):=by
 have:=vD (l:=l) (i:=0) (k:=k);rw[fx]at this;rw[this];cases l[k]? with
 |none=>simp
 |some o=>cases o<;>simp
theorem yK:∀{l:List (Option Rt)} {i k:Nat},dr (bF i l) ((i+k:Nat):Int)=bF i (l.set k none)
 | [],i,k=>rfl
 |some R::l,i,0=>by
  have:dr (bF (i+1) l) ((i:Nat):Int)=bF (i+1) l:=by
   unfold dr;refine xK.mpr λx hx=>?_
   have:=sg hx;simp;omega
  show dr (((i:Int),R)::bF (i+1) l) _=bF (i+1) l;unfold dr at this ⊢;rw[List.filter_cons_of_neg (by simp)]
  exact this
 |some R::l,i,k+1=>by
  have:=yK (l:=l) (i:=i+1) (k:=k);show dr (((i:Int),R)::bF (i+1) l) _=((i:Int),R)::bF (i+1) (l.set k none);rw[show i+(k+1)=i+1+k by omega,<-this]
  unfold dr;rw[List.filter_cons_of_pos (by simp;omega)]
 |none::l,i,0=>by
  show dr (bF (i+1) l) _=bF (i+1) l;unfold dr;refine xK.mpr λx hx=>?_
  have:=sg hx;simp;omega
 |none::l,i,k+1=>by
  have:=yK (l:=l) (i:=i+1) (k:=k);show dr (bF (i+1) l) _=bF (i+1) (l.set k none);rw[show i+(k+1)=i+1+k by omega,<-this]
theorem PJ{l:List (Option Rt)}{k:Nat}:dr (bF 0 l) (k:Int)=bF 0 (l.set k none):=by
 have:=yK (l:=l) (i:=0) (k:=k)
 rwa [fx]at this
theorem yD{R:Rt}:∀{l:List (Option Rt)} {i:Nat},bF i (l++ [some R])=bF i l++ [(((i+l.length:Nat):Int),R)]
 | [],i=>rfl
 |some _::l,i=>by
  show _::bF (i+1) (l++ [some R])=_::(bF (i+1) l++_);rw[yD,dc,show i+1+l.length=i+(l.length+1) by omega]
 |none::l,i=>by
  show bF (i+1) (l++ [some R])=bF (i+1) l++_;rw[yD,dc,show i+1+l.length=i+(l.length+1) by omega]
theorem PF{l:List (Option Rt)}{R:Rt}:pt (bF 0 l) (l.length:Int) R=bF 0 (l++ [some R]):=by
 rw[yD,fx];refine Tx ?_;have:=vD (l:=l) (i:=0) (k:=l.length);rw[fx]at this;rw[this,List.getElem?_eq_none (ba _)];rfl
theorem vm:∀{l:List (Option Rt)} {i:Nat},(bF i l).length<=l.length
 | [],_=>ba _
 |some _::l,i=>Nat.succ_le_succ (vm (l:=l) (i:=i+1))
 |none::l,i=>Nat.le_succ_of_le (vm (l:=l) (i:=i+1))
theorem yw{kd:Str}{m p:Int}:∀{l:List (Option Rt)} {i:Nat},((bF i l).map (·.2)).find? (Rt.fits kd m p)=(fg l kd m p).bind λj=>(l[j]?).join
 | [],_=>rfl
 |some R::l,i=>by
  unfold fg;rw[List.findIdx?_cons];show(R::(bF (i+1) l).map (·.2)).find? _=_
  rw[iC,show mD kd m p (some R)=R.fits kd m p from rfl]
  cases R.fits kd m p with
  |true=>rfl
  |false=>
   rw[aj ⋯]
   show((bF (i+1) l).map (·.2)).find? _=_
   rw[yw];unfold fg;cases l.findIdx? (mD kd m p)<;>simp
 |none::l,i=>by
  unfold fg;rw[List.findIdx?_cons];show((bF (i+1) l).map (·.2)).find? _=_
  rw[yw,show mD kd m p none=false from rfl,aj ⋯];unfold fg
  cases l.findIdx? (mD kd m p)<;>simp
theorem yA{l:List (Option Rt)}{kd:Str}{m p:Int}{j:Nat}(h:fg l kd m p=some j):∃R,l[j]? =some (some R)/\R.fits kd m p=true/\j<l.length:=by
 unfold fg at h;obtain⟨h1,h2,_⟩:=List.findIdx?_eq_some_iff_getElem.mp h;cases e:l[j]with
 |none=>rw[e]at h2;cases h2
 |some R=>rw[e]at h2;exact⟨R,by rw[List.getElem?_eq_getElem h1,e],h2,h1⟩
end
section
variable {e:Env}{n:Nat}{M M0 L:RM}{Q:aq}{ad:Nat->Addr}{f:Fm}{c:Cn}{u m p q F:Int}{k K:Nat}{kd:Str}{b x r:Addr}{rs:List (Option Rt)}{g:bT}
structure Lw(e:Env)(ad:Nat->Addr)(f:Fm)(r:Addr)(F:Int)(K:Nat)(rs:List (Option Rt))(c:Cn)(M0 M:RM):Prop where
 gs:Gs e ad f F K c M0 M
 st:c.S=bF 0 rs
 to:c.told=rs.length
 ro:M0 r=some (.lst (rs.map dj))
 ok:∀R,some R∈rs->R.Ok
 ln:rs.length<=300
theorem Lw.at_(W:Lw e ad f r F K rs c M0 M){o:RO}(h:M0 x=some o):LG e ad f c M x=some o:=by
 obtain⟨h1,h2⟩:=W.gs.fr x o h;exact(lo h2).trans h1
theorem Lw.draw{t:Int}(W:Lw e ad f r F K rs c M0 M)(hx:M0 x=some g.l)(hn:r≠x)(ok:g.In q)(hk:q<999999)(hm:0<t)(hm2:t<1073741824)
 (hq:∀v g2 M0' M',0<=v->v<t->bT.In g2 (q+1)->Lw e ad f r F K rs c M0' M'->M0' x=some g2.l->(∀i m st,eY e ad c.N i m st M0 M->eY e ad c.N i m st M0' M')->(∀y o,y≠x->M0 y=some o->M0' y=some o)->Q (.int v) (LG e ad f c M')):aD (P e) (n+1) 38 [.ref x,.int t] (LG e ad f c M) Q:=
 ju (W.at_ hx) ok hk hm hm2 λv g2 h0 h1 o2=>by
  rw[lop (W.gs.fr x _ hx).2];exact hq v g2 (put M0 x g2.l) (put M x g2.l) h0 h1 o2 ⟨W.gs.set hx,W.st,W.to,by rw[put_ne hn];exact W.ro,W.ok,W.ln⟩ cE (λi m st T=>T.set hx) (λy o hy h=>by rw[put_ne hy];exact h)
theorem Lw.dropped(W:Lw e ad f r F K rs c M0 M)(tb:Tb e)(hk:k<1000)(hl:c.ds.length<4000)
 (hq:∀c' rs' M0' M',Lw e ad f r F K rs' c' M0' M'->c'.ds.length<=c.ds.length+1->c'.N=c.N->rs'.length=rs.length->(∀i m st,eY e ad c.N i m st M0 M->eY e ad c.N i m st M0' M')->(∀y o,y≠r->M0 y=some o->M0' y=some o)->Q (.bl true) (LG e ad f c' M')):
 aD (P e) (n+9) 48 [.ref (ad 0),.ref r,.int k] (LG e ad f c M) Q:=by
 refine W.gs.dropped tb ∅ hl W.ro (by rw[W.st];exact PH) (λ_=>hq c rs M0 M W (Nat.le_succ _) rfl rfl (λi m st T=>T) λy o _ h=>h) λ_ ds hd=>?_
 refine hq { c.drop k with ds:=ds } (rs.set k none) (put M0 r (.lst ((rs.set k none).map dj))) (put M r (.lst ((rs.set k none).map dj))) ⟨(W.gs.set W.ro).rules,?_,?_,cE,λR hR=>?_,by rw[List.length_set];exact W.ln⟩ (by show ds.length<=_;omega) rfl (by rw[List.length_set]) (λi m st T=>T.set W.ro) (λy o hy h=>by rw[put_ne hy];exact h)
 . show dr c.S (k:Int)=_
   rw[W.st];exact PJ
 . show c.told=_
   rw[List.length_set];exact W.to
 . rcases List.mem_or_eq_of_mem_set hR with h|h
   . exact W.ok R h
   . cases h
theorem Lw.first(W:Lw e ad f r F K rs c M0 M):c.first kd m p=(fg rs kd m p).bind λj=>(rs[j]?).join:=by
 unfold Cn.first;rw[W.st];exact yw
theorem JU(l:List Int){v:Int}(h0:0<=v)(h1:v<l.length):∃m∈l,∀{M:RM} {Q:aq},fq (.ls (l.map RV.int)) (.int v) M Q=Q (.int m) M:=by
 obtain⟨y,hy,ey⟩:=zI (xs:=l.map RV.int) h0 (by rw[cb];exact h1)
 obtain⟨m,hm,rfl⟩:=dH.mp hy;exact⟨m,hm,ey⟩
theorem Lw.gq(W:Lw e ad f r F K rs c M0 M)(tb:Tb e)(hf:f.high<=9899)(hk:K<900)(kk:Kd kd)(hi:F<=q)(hl:c.ds.length<4000)(op:1<=p/\p<=1000000)(oq:1<=q/\q<=9999)(om:9990<=m/\m<=9992)
 (hq0:fg rs kd m p=none->∀c',Lw e ad f r F K rs c' M0 M->c'.ds.length=c.ds.length+1->Q (kept "nobody") (LG e ad f c' M))
 (hq1:∀j R,fg rs kd m p=some j->rs[j]? =some (some R)->j<rs.length->∀c' M',Lw e ad f r (q+1) (K+1) rs c' M0 M'->c'.ds.length=c.ds.length+1->eY e ad c'.N ⟨kd,R.house,R.door,p,q⟩ m (dR kd) M0 M'->Q (fb R.house R.door) (LG e ad f c' M')):
 aD (P e) (n+10) 61 [.ref (ad 0),.str kd,.int p,.int q,.int m,.str (cj kd),.str ""] (LG e ad f c M) Q:=by
 refine W.gs.oj tb ∅ hk kk hi hl op oq ∅ (λh ds hd=>?_) λR h c' M' h1 h2 h3 G T=>?_
 . rw[W.first]at h
   refine hq0 ?_ { c with ds:=ds } ⟨W.gs.rules,W.st,W.to,W.ro,W.ok,W.ln⟩ hd
   cases z:fg rs kd m p with
   |none=>rfl
   |some j=>obtain⟨R,e1,_⟩:=yA z;rw[z]at h;simp[e1]at h
 . rw[W.first]at h
   cases z:fg rs kd m p with
   |none=>rw[z]at h;cases h
   |some j=>
    obtain⟨R',e1,_,e2⟩:=yA z;rw[z]at h;have:R'=R:=by simpa[e1]using h
    subst this;exact hq1 j R' z e1 e2 c' M' ⟨G,by rw[h2];exact W.st,by rw[h1];exact W.to,W.ro,W.ok,W.ln⟩ h3 T
end
section
variable {e:Env}{n:Nat}{M M0 L:RM}{Q:aq}{ad:Nat->Addr}{f:Fm}{c:Cn}{u m p q F:Int}{k K j:Nat}{kd:Str}{b x r:Addr}{rs:List (Option Rt)}{g:bT}{R:Rt}
theorem Gv{a:LR}(o:aG 16 (.tup a)=true)(hq:Q (.bl false) M):cz .NotEq (.tup a) (.tup a) M Q:=by
 show aG 16 (.tup a)=true/\aG 16 (.tup a)=true/\Q (.bl (!bw (.tup a) (.tup a))) M;rw[oO _ ⟨_,o⟩];exact⟨o,o,hq⟩
theorem WN{a:LR}(o:aG 16 (.tup a)=true)(hq:Q (.bl true) M):cz .Eq (.tup a) (.tup a) M Q:=by
 show aG 16 (.tup a)=true/\aG 16 (.tup a)=true/\Q (.bl (bw (.tup a) (.tup a))) M;rw[oO _ ⟨_,o⟩];exact⟨o,o,hq⟩
theorem WS{K:aq}{M:RM}(h:K (.str (cj kd)) M):if(kd==("note":Str))=true then K (.str "say") M else K (.str "open") M:=by
 unfold cj at h
 by_cases z:kd= "note"
 . rw[az z]at h;rw[az (by simpa using z)];exact h
 . rw[aj z]at h;rw[aj (by simpa using z)];exact h
theorem AI{N:Int}{v0:RV}(W:Lw e ad f r F K rs c M0 M)(tb:Tb e)(kk:Kd kd)(hl:c.ds.length<4000)(op:1<=p/\p<=1000000)(oq:1<=q/\q<=9999)(om:9990<=m/\m<=9992)(T:eY e ad c.N ⟨kd,R.house,R.door,p,q⟩ m (dR kd) M0 M)
 (hq:∀c' M',Lw e ad f r F K rs c' M0 M'->c'.ds.length=c.ds.length+1->Q (.bl true) (LG e ad f c' M')):
 (tr ((P e).Gn (n+10)) xn).S (rd Q) [some v0,some (.ref (ad 0)),some (.ref r),some (.int q),some (.str kd),some (.int m),some (.int p),some (.str (cj kd)),some (.int N),some (fb R.house R.door)] (LG e ad f c M):=by
 have Hj:=W.gs.ij;have hg:LG e ad f c M (ad 0)=some (cG e ad f):=lg Hj (Nat.le_of_ble_eq_true rfl);have h2:=W.gs.oo (n:=n) (Q:=λv M'=>cz .Eq v (fb R.house R.door) M' Q) tb (i:=⟨kd,R.house,R.door,p,q⟩) kk hl op oq ∅ T λds M' hd G=>WN rfl (hq { c with ds:=ds } M' ⟨G,W.st,W.to,W.ro,W.ok,W.ln⟩ hd)
 generalize LG e ad f c M=L at hg h2 ⊢;generalize cj kd=w at h2 ⊢;unfold xn;walk_at "ev";rw[hg];walk_at "ev";exact h2
end
section
variable {e:Env}{n:Nat}{M M0 L:RM}{Q:aq}{ad:Nat->Addr}{f:Fm}{c:Cn}{u m p q F q0:Int}{k K j:Nat}{kd:Str}{b x r:Addr}{rs:List (Option Rt)}{g:bT}{R:Rt}
abbrev B5(e:Env)(ad:Nat->Addr)(f:Fm)(r x:Addr)(F:Int)(K:Nat)(rs:List (Option Rt))(d:Nat)(q0:Int)(M0:RM)(Q:aq):Prop:=∀c' rs' M0' M' g',Lw e ad f r F K rs' c' M0' M'->c'.ds.length<=d->rs'.length=rs.length->M0' x=some g'.l->bT.In g' q0->(∀y o,y≠x->y≠r->M0 y=some o->M0' y=some o)->Q (.bl true) (LG e ad f c' M')
theorem KL(W:Lw e ad f r F K rs c M0 M)(tb:Tb e)(kk:Kd kd)(hl:c.ds.length<3990)(op:1<=p/\p<=1000000)(oq:1<=q/\q<=9999)(om:9990<=m/\m<=9992)(T:eY e ad c.N ⟨kd,R.house,R.door,p,q⟩ m (dR kd) M0 M)(hx:M0 x=some g.l)(hn:r≠x)(ok:g.In q0)(hk:q0<900000)(hj:j<rs.length)
 (hq:B5 e ad f r x F K rs (c.ds.length+2) (q0+1) M0 Q):
 (tr ((P e).Gn (n+10)) qA).S (rd Q) [some (.ref x),some (.ref (ad 0)),some (.ref r),some (.int q),some (.str kd),some (.int m),some (.int p),some (.str (cj kd)),some (.int (j:Int)),some (fb R.house R.door)] (LG e ad f c M):=by
 have hln:=W.ln;unfold qA;walk_at "ev";refine W.draw (n:=n+9) hx hn ok ∅ ⋯ ⋯ λv g2 M01 M1 a1 b1 ok2 W2 x2 T2 fr2=>?_
 walk_at "ev"
 by_cases z:v=0
 . rw[az (by simpa using z)]
   refine W2.dropped (n:=n+1) tb ∅ ∅ λc' rs' M0' M' W3 d1 d2 d3 T3 fr3=>?_
   walk_at "ev";refine AI W3 tb kk ∅ op oq om (by rw[d2];exact T3 _ _ _ (T2 _ _ _ T)) λc3 M3 W4 h3=>?_
   refine hq c3 rs' M0' M3 g2 W4 ∅ d3 (fr3 _ _ (d9 hn) x2) ok2 λy o h1 h2 h=>fr3 _ _ h2 (fr2 _ _ h1 h)
 . rw[aj (by simpa using z)]
   refine AI W2 tb kk ∅ op oq om (T2 _ _ _ T) λc3 M3 W4 h3=>?_
   exact hq c3 rs M01 M3 g2 W4 ∅ rfl x2 ok2 λy o h1 h2 h=>fr2 _ _ h1 h
theorem Lw.je(W:Lw e ad f r F K rs c M0 M)(tb:Tb e)(hf:f.high<=9899)(hK:K<900)(hi:F<=q)(hl:c.ds.length<3980)(oq:1<=q/\q<=9999)(hx:M0 x=some g.l)(hn:r≠x)(ok:g.In q0)(hk:q0<800000)
 (hq:B5 e ad f r x (q+1) (K+1) rs (c.ds.length+3) (q0+4) M0 Q):aD (P e) (n+11) 53 [.ref x,.ref (ad 0),.ref r,.int q] (LG e ad f c M) Q:=by
 have hln:=W.ln;rw[us (i:=53) (d:=uH) rfl];simp only[uH];unfold Ju;walk_at "ev";refine W.draw (n:=n+9) hx hn ok ∅ ⋯ ⋯ λv1 g1 M01 M1 a1 b1 ok1 W1 x1 T1 fr1=>?_
 obtain⟨kd,hkd,ey⟩:=xl ["note","line"] a1 b1;have kk:Kd kd:=by simpa[Kd]using hkd
 rw[show [RV.str "note",RV.str "line"]=(["note","line"]:ay).map RV.str from rfl,ey]
 unfold Jt;walk_at "ev";refine W1.draw (n:=n+9) x1 hn ok1 ∅ ⋯ ⋯ λv2 g2 M02 M2 a2 b2 ok2 W2 x2 T2 fr2=>?_
 walk_at "ev";unfold Js;walk_at "ev";refine W2.draw (n:=n+9) x2 hn ok2 ∅ ⋯ ⋯ λv3 g3 M03 M3 a3 b3 ok3 W3 x3 T3 fr3=>?_
 obtain⟨pl,hpl,ey⟩:=JU [3,4,1000000,5,6] a3 b3;have op:1<=pl/\pl<=1000000:=by simp at hpl;omega
 rw[show [RV.int 3,RV.int 4,RV.int 1000000,RV.int 5,RV.int 6]=([3,4,1000000,5,6]:List Int).map RV.int from rfl,ey]
 unfold Jr;walk_at "ev";refine WS (K:=λv M=>(tr ((P e).Gn (n+10)) Ap).S (rd Q) [some (.ref x),some (.ref (ad 0)),some (.ref r),some (.int q),some (.str kd),some (.int (9990+v2)),some (.int pl),some v,none,none] M) ?_
 have om:9990<=9990+v2/\9990+v2<=9992:=by omega
 unfold Ap;walk_at "ev";refine RW (n:=n+9) (W3.at_ W3.ro) ?_;have hg:∀{c:Cn} {M:RM},LG e ad f c M (ad 0)=some (cG e ad f):=lg W.gs.ij (Nat.le_of_ble_eq_true rfl);have fr:∀y o,y≠x->M0 y=some o->M03 y=some o:=λy o h h0=>fr3 _ _ h (fr2 _ _ h (fr1 _ _ h h0))
 cases z:fg rs kd (9990+v2) pl with
 |none=>
  rw[show optN none= .au from rfl]
  unfold Ao;walk_at "ev";have cm:=W3.gq (n:=n) (Q:=λv M'=>cz .NotEq v (kept "nobody") M' (kB λb M2=>if b=true then Q (.bl false) M2 else(tr ((P e).Gn (n+10)) qA).S (rd Q) [some (.ref x),some (.ref (ad 0)),some (.ref r),some (.int q),some (.str kd),some (.int (9990+v2)),some (.int pl),some (.str (cj kd)),some .au,some (kept "nobody")] M2)) tb hf hK kk hi ∅ op oq om (λ_ c' W4 h4=>Gv rfl (by
   rw[ql,aj ⋯]
   unfold qA;walk_at "ev";unfold xn;walk_at "ev";exact hq c' rs M03 M3 g3 ⟨W4.gs.mono ∅ ∅,W4.st,W4.to,W4.ro,W4.ok,W4.ln⟩ ∅ rfl x3 (qV ok3 ∅) λy o h1 _ h=>fr y o h1 h)) (λj R h=>by rw[z]at h;cases h)
  unfold An;generalize cj kd=w at cm ⊢;walk_at "ev";rw[hg];walk_at "ev";exact cm
 |some j=>
  obtain⟨R,e1,_,e2⟩:=yA z;rw[show optN (some j)= .int (j:Int)from rfl]
  unfold Ao;walk_at "ev";rw[W3.at_ W3.ro,sF,show bz (rs.map dj) (j:Int)=some R.r from fS (by rw[fy,e1];rfl),oP]
  unfold Rt.r;walk_at "ev";refine⟨show 1+2<=sizeLine by decide,?_⟩
  rw[show fK [RV.str R.kind,RV.int R.num,eC R.place,RV.int R.house,RV.int R.door] (some 3) none= [.int R.house,.int R.door]from rfl]
  have cm:=W3.gq (n:=n) (Q:=λv M'=>cz .NotEq v (fb R.house R.door) M' (kB λb M2=>if b=true then Q (.bl false) M2 else(tr ((P e).Gn (n+10)) qA).S (rd Q) [some (.ref x),some (.ref (ad 0)),some (.ref r),some (.int q),some (.str kd),some (.int (9990+v2)),some (.int pl),some (.str (cj kd)),some (.int (j:Int)),some (fb R.house R.door)] M2)) tb hf hK kk hi ∅ op oq om (λh=>by rw[z]at h;cases h) (λj' R' h h' hlt c' M' W4 h4 T=>by
   rw[z]at h;injection h with h
   subst h;rw[e1]at h';injection h' with h'
   injection h' with h'
   subst h';refine Gv rfl ?_;rw[ql,aj ⋯]
   exact KL W4 tb kk ∅ op oq om T x3 hn ok3 ∅ e2 λc'' rs' M0' M'' g' W5 d1 d2 d3 d4 d5=>hq c'' rs' M0' M'' g' W5 ∅ d2 d3 (qV d4 ∅) λy o h1 h2 h=>d5 y o h1 h2 (fr y o h1 h))
  unfold An;generalize cj kd=w at cm ⊢;walk_at "ev";rw[hg];walk_at "ev";exact cm
end
section
variable {e:Env}{n:Nat}{M M0 L:RM}{Q:aq}{ad:Nat->Addr}{f:Fm}{c:Cn}{u m p q F q0:Int}{K:Nat}{b x r:Addr}{rs:List (Option Rt)}{g:bT}{t:Nat}
theorem Lw.mono{F':Int}{K':Nat}(W:Lw e ad f r F K rs c M0 M)(h1:F<=F')(h2:K<=K'):Lw e ad f r F' K' rs c M0 M:=⟨W.gs.mono h1 h2,W.st,W.to,W.ro,W.ok,W.ln⟩
abbrev zS(e:Env)(ad:Nat->Addr)(f:Fm)(r x:Addr)(F:Int)(K:Nat)(N:Nat)(d:Nat)(M0:RM)(Q:Cn->RM->Prop):Prop:=∀c' rs' M0' M',Lw e ad f r F K rs' c' M0' M'->c'.ds.length<=d->rs'.length=N->(∀y o,y≠x->y≠r->M0 y=some o->M0' y=some o)->Q c' M'
theorem DE{D:RD}{v0 v3 v4 v5 v6:Option RV}(tb:Tb e):∀(l:List Nat) (rs:List (Option Rt)) (c:Cn) (M0 M:RM) (v7:Option RV),(∀k∈l,k<1000)->Lw e ad f r F K rs c M0 M->c.ds.length+l.length<4000->
 (zS e ad f r x F K rs.length (c.ds.length+l.length) M0 λc' M'=>∀v,D.nx [v0,some (.ref (ad 0)),some (.ref r),v3,v4,v5,v6,v] (LG e ad f c' M'))->
 gR (mQ 7) (tr ((P e).Gn (n+9)) vk).S D cu id (l.map λ(k:Nat)=>RV.int (k:Int)) [v0,some (.ref (ad 0)),some (.ref r),v3,v4,v5,v6,v7] (LG e ad f c M)
 | [],rs,c,M0,M,v7,_,W,_,hq=>⟨gL,hq c rs M0 M W (ba _) rfl (λ_ _ _ _ h=>h) _⟩
 |k::l,rs,c,M0,M,v7,hk,W,hl,hq=>by
  rw[dc]at hl hq;refine⟨gL,?_⟩;show(tr ((P e).Gn (n+9)) vk).S _ [v0,some (.ref (ad 0)),some (.ref r),v3,v4,v5,v6,some (.int (k:Int))] _;unfold vk;walk_at "ev";refine W.dropped (n:=n) tb (hk k (.head _)) ∅ λc' rs' M0' M' W2 d1 _ d3 _ fr=>?_
  walk_at "ev";refine DE tb l rs' c' M0' M' _ (λj hj=>hk j (.tail _ hj)) W2 ∅ λc2 rs2 M2 M3 W3 h1 h2 h3=>hq c2 rs2 M2 M3 W3 ∅ (h2.trans d3) λy o z1 z2 h=>h3 y o z1 z2 (fr y o z2 h)
theorem zT{D:RD}{v4 v5 v7:Option RV}{j:Nat}(tb:Tb e)(hf:f.high<=9899)(hn:r≠x)(ht:3*(t:Int)+4<=9999)(hj:j<3)(hK:K<900)(W:Lw e ad f r (3*(t:Int)+j+1) K rs c M0 M)(hl:c.ds.length<3980)(hx:M0 x=some g.l)(ok:g.In q0)(h0:q0<800000)
 (hq:∀c' rs' M0' M' g',Lw e ad f r (3*(t:Int)+j+2) (K+1) rs' c' M0' M'->c'.ds.length<=c.ds.length+3->rs'.length=rs.length->M0' x=some g'.l->bT.In g' (q0+4)->(∀y o,y≠x->y≠r->M0 y=some o->M0' y=some o)->D.nx [some (.ref x),some (.ref (ad 0)),some (.ref r),some (.int (t:Int)),v4,v5,some (.int (j:Int)),v7] (LG e ad f c' M')):
 (tr ((P e).Gn (n+11)) vW).S D [some (.ref x),some (.ref (ad 0)),some (.ref r),some (.int (t:Int)),v4,v5,some (.int (j:Int)),v7] (LG e ad f c M):=by
 unfold vW;walk_at "ev";refine⟨qo ⋯ ⋯,?_⟩
 refine W.je (n:=n) tb hf hK (Int.le_refl _) hl ∅ hx hn ok h0 λc' rs' M0' M' g' W2 d1 d2 d3 d4 d5=>?_
 walk_at "ev";exact hq c' rs' M0' M' g' (W2.mono ∅ (ba _)) d1 d2 d3 d4 d5
theorem NS{D:RD}{v4 v5 v6 v7:Option RV}(tb:Tb e)(hf:f.high<=9899)(hn:r≠x)(ht:3*(t:Int)+4<=9999)(hK:K<890)(W:Lw e ad f r (3*(t:Int)+1) K rs c M0 M)(hl:c.ds.length<3960)(hx:M0 x=some g.l)(ok:g.In q0)(h0:q0<700000)
 (hq:zS e ad f r x (3*(t:Int)+4) (K+3) rs.length (c.ds.length+9) M0 λc' M'=>∀v,D.nx [some (.ref x),some (.ref (ad 0)),some (.ref r),some (.int (t:Int)),v4,v5,v,v7] (LG e ad f c' M')):
 gR (mQ 6) (tr ((P e).Gn (n+11)) vW).S D cu id (nums 3) [some (.ref x),some (.ref (ad 0)),some (.ref r),some (.int (t:Int)),v4,v5,v6,v7] (LG e ad f c M):=by
 refine⟨gL,zT (j:=0) tb hf hn ht ∅ ∅ (W.mono ∅ (ba _)) ∅ hx ok ∅ λc1 rs1 M01 M1 g1 W1 a1 a2 a3 a4 a5=>?_⟩
 refine⟨gL,zT (j:=1) tb hf hn ht ∅ ∅ (W1.mono ∅ (ba _)) ∅ a3 a4 ∅ λc2 rs2 M02 M2 g2 W2 b1 b2 b3 b4 b5=>?_⟩
 refine⟨gL,zT (j:=2) tb hf hn ht ∅ ∅ (W2.mono ∅ (ba _)) ∅ b3 b4 ∅ λc3 rs3 M03 M3 g3 W3 d1 d2 d3 d4 d5=>?_⟩
 exact⟨gL,hq c3 rs3 M03 M3 (W3.mono ∅ ∅) ∅ ∅ (λy o h1 h2 h=>d5 y o h1 h2 (b5 y o h1 h2 (a5 y o h1 h2 h))) _⟩
theorem Lw.deed(W:Lw e ad f r (3*(t:Int)+1) K rs c M0 M)(tb:Tb e)(hf:f.high<=9899)(hn:r≠x)(ht:3*(t:Int)+4<=9999)(hK:K<890)(hl:c.ds.length<3950)(hx:M0 x=some g.l)(ok:g.In 0)
 (hq:zS e ad f r x (3*(t:Int)+4) (K+3) rs.length (c.ds.length+20) M0 λc' M'=>Q (.bl true) (LG e ad f c' M')):
 aD (P e) (n+12) 54 [.ref x,.ref (ad 0),.ref r,.int (t:Int)] (LG e ad f c M) Q:=by
 have hln:=W.ln;rw[us (i:=54) (d:=uP) rfl];simp only[uP];unfold BO;walk_at "ev";refine W.draw (n:=n+10) hx hn ok ∅ ⋯ ⋯ λv1 g1 M01 M1 a1 b1 ok1 W1 x1 T1 fr1=>?_
 unfold BN;walk_at "ev";rw[sJ (W1.at_ W1.ro)];walk_at "ev";rw[cb];refine W1.draw (n:=n+10) x1 hn ok1 ∅ ∅ ∅ λv2 g2 M02 M2 a2 b2 ok2 W2 x2 T2 fr2=>?_
 have fr:∀y o,y≠x->M0 y=some o->M02 y=some o:=λy o h h0=>fr2 _ _ h (fr1 _ _ h h0)
 obtain⟨k,rfl⟩:∃k:Nat,v2=k:=⟨v2.toNat,∅⟩
 unfold BM;walk_at "ev"
 by_cases z:v1=0
 . rw[az (by simpa using z)]
   unfold Ea;walk_at "ev";rw[sJ (W2.at_ W2.ro)];walk_at "ev";rw[cb];generalize hE:(if((rs.length:Nat):Int)+1<(k:Int)+20 then((rs.length:Nat):Int)+1 else(k:Int)+20)=E
   have hE2:E<=(k:Int)+20/\E<=rs.length+1/\0<=E:=by rw[<-hE];split<;>omega
   refine⟨⟨∅,∅,∅,∅⟩,?_⟩
   have hN:kO (k:Int) (E-k).toNat=((List.range (E-k).toNat).map (k+ ·)).map λ(j:Nat)=>RV.int (j:Int):=by
    unfold kO;rw[iA];refine xM λj _=>?_
    show RV.int ((k:Int)+j)=RV.int ((k+j:Nat):Int);rw[Int.natCast_add]
   rw[hN];refine DE (n:=n+2) (x:=x) tb _ rs c M02 M2 none (λj hj=>?_) W2 (by rw[cb,xH];omega) λc' rs' M0' M' W3 d1 d2 d3 v=>?_
   . obtain⟨i,hi,rfl⟩:=dH.mp hj
     have:=qP.mp hi;omega
   . rw[cb,xH]at d1
     unfold D9;walk_at "ev";exact hq c' rs' M0' M' (W3.mono ∅ ∅) ∅ d2 λy o h1 h2 h=>d3 y o h1 h2 (fr y o h1 h)
 . rw[aj (by simpa using z)]
   unfold BL;walk_at "ev"
   by_cases z2:v1<3
   . rw[az (by simpa using z2)]
     exact W2.dropped (n:=n+2) tb ∅ ∅ λc' rs' M0' M' W3 d1 _ d3 _ d5=>hq c' rs' M0' M' (W3.mono ∅ ∅) ∅ d3 λy o h1 h2 h=>d5 y o h2 (fr y o h1 h)
   . rw[aj (by simpa using z2)]
     unfold BK;walk_at "ev";refine⟨⋯,⋯,?_⟩
     refine NS (n:=n) tb hf hn ht hK W2 ∅ x2 ok2 ∅ λc' rs' M0' M' W3 d1 d2 d3 v=>?_
     unfold BJ;walk_at "ev";exact hq c' rs' M0' M' W3 ∅ d2 λy o h1 h2 h=>d3 y o h1 h2 (fr y o h1 h)
end
section
variable {e:Env}{n:Nat}{M:RM}{Q:aq}{f:Fm}
theorem ig{ad:Nat->Addr}{os:List RO}{x:Addr}{k:Nat}(H:Ij ad k)(F:∀j,j<k->M (ad j)=none)(hl:os.length=k)(hx:lay ad 0 os M x=none):∃ad',(∀j,j<k->ad j=ad' j)/\ad' k=x/\Ij ad' (k+1)/\(∀j,j<k+1->M (ad' j)=none)/\∀o,put (lay ad 0 os M) x o=lay ad' 0 (os++ [o]) M:=by
 obtain⟨a,h1,h2,h3,h4⟩:=Li H hl hx;refine⟨a,h1,h2,h3,λj hj=>?_,h4⟩
 by_cases z:j<k
 . rw[<-h1 j z];exact F j z
 . rw[show j=k by omega,h2];exact yZ hx
theorem Rv{ad:Nat->Addr}{os:List RO}{r s d:RO}(H:Ij ad 12)(hl:os.length=9):lay ad 0 (os++ [r,s,d]) M=lay (λj=>if j=9 then ad 11 else if j=10 then ad 9 else if j=11 then ad 10 else ad j) 0 (os++ [d,r,s]) M:=by
 have n1:ad 11≠ad 10:=λz=>by have:=H 11 10 ⋯ ⋯ z;omega
 have n2:ad 11≠ad 9:=λz=>by have:=H 11 9 ⋯ ⋯ z;omega
 rw[show os++ [r,s,d]=((os++ [r])++ [s])++ [d] by simp,show os++ [d,r,s]=((os++ [d])++ [r])++ [s] by simp,mj,mj,mj,mj,mj,mj]
 simp only[jF,dc,List.length_nil,hl,Nat.reduceAdd,↓reduceIte,fx,Nat.reduceEqDiff];rw[vH n1,vH n2];exact zl λj hj=>by
  rw[hl]at hj;show _=if j=9 then ad 11 else if j=10 then ad 9 else if j=11 then ad 10 else ad j
  rw[aj ∅,aj ∅,aj ∅]
noncomputable abbrev qX:Cn:=⟨0,[],[],[],[]⟩
noncomputable def Gr (e:Env)(g:Addr)(f:Fm)(M0 M:RM):Prop:=∃ad,M=LG e ad f qX M0/\Ij ad 12/\ad 0=g/\∀a o,M0 a=some o->Of ad 12 a
theorem PU{x:Addr}(okf:f.Ok)(hx:M x=none)(hq:∀M',Gr e x f M M'->Q .au M'):aD (P e) (n+6) 31 [.ref x,f.r] (put M x (.ins (e.C 4) [])) Q:=by
 rw[us (i:=31) (d:=sr) rfl];simp only[sr];unfold B4;walk_at "ev";refine OS okf ?_;obtain⟨a1,_,rfl,H1,F1,e1⟩:=ig (ad:=λ_=>x) (os:=[]) (M:=M) (k:=0) (λi j hi=>bp hi (Nat.not_lt_zero _)) (λj hj=>bp hj (Nat.not_lt_zero _)) rfl hx
 rw[show put M (a1 0) (.ins (e.C 4) [])=lay a1 0 ([]++ [.ins (e.C 4) []]) M from e1 _]
 unfold B3;walk_at "evl";unfold B2;walk_at "evl";intro t ht;obtain⟨a2,h2,rfl,H2,F2,e2⟩:=ig (k:=1) H1 F1 rfl ht;rw[e2];clear e1 e2 H1 F1 ht;rw[us (i:=29) (d:=rG) rfl];simp only[rG];unfold Bz;walk_at "evl";unfold By;walk_at "evl";rw[KW,KY];intro y hy;obtain⟨a3,h3,rfl,H3,F3,e3⟩:=ig (k:=2) H2 F2 rfl hy;rw[e3];clear e3 H2 F2 hy;rw[us (i:=44) (d:=sk) rfl];simp only[sk];walk_at "evl";intro y hy;obtain⟨a4,h4,rfl,H4,F4,e4⟩:=ig (k:=3) H3 F3 rfl hy;rw[e4];clear e4 H3 F3 hy;walk_at "evl";intro y hy;obtain⟨a5,h5,rfl,H5,F5,e5⟩:=ig (k:=4) H4 F4 rfl hy;rw[e5];clear e5 H4 F4 hy;walk_at "evl";unfold Bx;walk_at "evl";unfold Bw;walk_at "evl";intro y hy;obtain⟨a6,h6,rfl,H6,F6,e6⟩:=ig (k:=5) H5 F5 rfl hy;rw[e6];clear e6 H5 F5 hy
 (try walk_at "evl")
 unfold Bv;walk_at "evl";intro y hy;obtain⟨a7,h7,rfl,H7,F7,e7⟩:=ig (k:=6) H6 F6 rfl hy;rw[e7];clear e7 H6 F6 hy
 (try walk_at "evl")
 unfold Bu;walk_at "evl";intro y hy;obtain⟨a8,h8,rfl,H8,F8,e8⟩:=ig (k:=7) H7 F7 rfl hy;rw[e8];clear e8 H7 F7 hy
 (try walk_at "evl")
 unfold Bt;walk_at "evl";intro y hy;obtain⟨a9,h9,rfl,H9,F9,e9⟩:=ig (k:=8) H8 F8 rfl hy;rw[e9];clear e9 H8 F8 hy;walk_at "evl";unfold B1;walk_at "evl";intro y hy;obtain⟨a10,h10,rfl,H10,F10,e10⟩:=ig (k:=9) H9 F9 rfl hy;rw[e10];clear e10 H9 F9 hy;rw[us (i:=15) (d:=rJ) rfl];simp only[rJ];walk_at "evl";intro y hy;obtain⟨a11,h11,rfl,H11,F11,e11⟩:=ig (k:=10) H10 F10 rfl hy;rw[e11];clear e11 H10 F10 hy;walk_at "evl";unfold B0;walk_at "evl";intro y hy;obtain⟨a12,h12,rfl,H12,F12,e12⟩:=ig (k:=11) H11 F11 rfl hy;rw[e12];clear e12 H11 F11 hy
 (try walk_at "evl")
 unfold BZ;walk_at "evl";have e0:a1 0=a12 0:=by rw[h2 0 ⋯,h3 0 ⋯,h4 0 ⋯,h5 0 ⋯,h6 0 ⋯,h7 0 ⋯,h8 0 ⋯,h9 0 ⋯,h10 0 ⋯,h11 0 ⋯,h12 0 ⋯]
 refine hq _ ⟨λj=>if j=9 then a12 11 else if j=10 then a12 9 else if j=11 then a12 10 else a12 j,(Rv (os:=[_,_,_,_,_,_,_,_,_]) H12 rfl).trans rfl,λi j hi hj z=>?_,e0.symm,λa o ha j hj z=>?_⟩
 . have q:∀i,i<12->∃k,k<12/\(if i=9 then a12 11 else if i=10 then a12 9 else if i=11 then a12 10 else a12 i)=a12 k/\(i=9/\k=11∨i=10/\k=9∨i=11/\k=10∨i<9/\k=i):=λi hi=>by
    by_cases p:i=9
    . exact⟨11,⋯,by rw[az p],.inl ⟨p,rfl⟩⟩
    . by_cases p2:i=10
      . exact⟨9,⋯,by rw[aj p,az p2],.inr (.inl ⟨p2,rfl⟩)⟩
      . by_cases p3:i=11
        . exact⟨10,⋯,by rw[aj p,aj p2,az p3],.inr (.inr (.inl ⟨p3,rfl⟩))⟩
        . exact⟨i,hi,by rw[aj p,aj p2,aj p3],.inr (.inr (.inr ⟨∅,rfl⟩))⟩
   obtain⟨k1,q1,q2,q3⟩:=q i hi;obtain⟨k2,q4,q5,q6⟩:=q j hj;have z:a12 k1=a12 k2:=by rw[<-q2,<-q5];exact z
   have:=H12 k1 k2 q1 q4 z;omega
 . have q:∀j,j<12->a≠a12 j:=λj hj z=>by have:=F12 j hj;rw[<-z,ha]at this;cases this
   dsimp only at z;split at z
   . exact q 11 ⋯ z.symm
   . split at z
     . exact q 9 ⋯ z.symm
     . split at z
       . exact q 10 ⋯ z.symm
       . exact q j hj z.symm
theorem Gr.gs{g:Addr}{M0:RM}(h:Gr e g f M0 M){F:Int}:∃ad,M=LG e ad f qX M0/\ad 0=g/\Gs e ad f F 0 qX M0 M0:=by
 obtain⟨ad,h1,h2,h3,h4⟩:=h;exact⟨ad,h1,h3,⟨h2,qK _,qK _,λa o ha=>⟨ha,h4 a o ha⟩,ba _,ba _⟩⟩
end
section
variable {e:Env}{n:Nat}{M M0 L:RM}{Q:aq}{ad:Nat->Addr}{f:Fm}{c:Cn}{F:Int}{K:Nat}{b x r:Addr}{rs:List (Option Rt)}
theorem QJ(H:Ij ad 12):aD (P e) (n+1) 17 [.ref (ad 0)] (LG e ad f c M) Q=Q (.int 0) (LG e ad f c M):=by
 rw[us (i:=17) (d:=rQ) rfl];simp only[rQ];walk_at "evl"
noncomputable def jC (x:Int×Rt):RV:=.tup [.int x.1,.str x.2.kind,.int x.2.num,eC x.2.place,.int x.2.house,.int x.2.door]
noncomputable def A5:RV->RV
 | .tup [k,.tup xs]=>.tup (k::xs)
 |_=>.au
theorem QM(Hj:Ij ad 12)(hl:c.S.length<1000)(hq:Q (.ls (c.S.map jC)) (LG e ad f c M)):aD (P e) (n+1) 16 [.ref (ad 10)] (LG e ad f c M) Q:=by
 have hb:LG e ad f c M (ad 11)=some (.dk (eS c.S)):=lg Hj (Nat.le_of_ble_eq_true rfl);rw[us (i:=16) (d:=rO) rfl];simp only[rO];walk_at "evl";unfold pz;simp only[hb];refine⟨by unfold iU eS;rw[cb,qd];exact ji hl ⋯,oX (λ_=>true) A5 cE _ _ (λx hx=>?_) ?_⟩
 . obtain⟨y0,hy0,rfl⟩:=dH.mp hx
   obtain⟨y,hy,rfl⟩:=dH.mp hy0;refine⟨[.int y.1,y.2.r],rfl,λK hK=>?_,λ_ K hK=>?_⟩
   . walk_at "ev";exact hK
   . unfold Rt.r;walk_at "ev";exact hK
 . show Q (.ls (([]++((iU (eS c.S)).filter (λ_=>true)).map A5))) (put (put _ (ad 11) (.fk (eS c.S))) (ad 11) (.dk (eS c.S)))
   rw[iu,vG hb,xN,xK.mpr λ_ _=>rfl]
   unfold iU eS enc;rw[iA,iA];exact hq
theorem RT(Hj:Ij ad 12)(hl:c.S.length<1000)(hq:Q (.ls (c.S.map jC)) (LG e ad f c M)):aD (P e) (n+2) 19 [.ref (ad 0)] (LG e ad f c M) Q:=by
 rw[us (i:=19) (d:=rL) rfl];simp only[rL];walk_at "evl";exact QM Hj hl hq
theorem VC(hq:Q (.ls []) M):eZ "sorted" [.ls []] M Q:=⟨⋯,hq⟩
theorem RU(Hj:Ij ad 12)(hq:Q (.ls []) (LG e ad f c M)):aD (P e) (n+1) 18 [.ref (ad 0)] (LG e ad f c M) Q:=by
 have hb:LG e ad f c M (ad 7)=some (.dk []):=lg Hj (Nat.le_of_ble_eq_true rfl);rw[us (i:=18) (d:=rM) rfl];simp only[rM];walk_at "evl";unfold pz;simp only[hb];refine⟨⋯,oX (λ_=>true) id cE _ _ (λx hx=>by cases hx) ?_⟩
 show eZ "sorted" [.ls []] (put (put _ (ad 7) (.fk [])) (ad 7) (.dk [])) Q;rw[iu,vG hb];exact VC hq
noncomputable def zO (rs:List (Option Rt)):RV->Bool
 | .int i=>match rs[i.toNat]? with|some (some _)=>true|_=>false
 |_=>false
noncomputable def zW (rs:List (Option Rt)):RV->RV
 | .int i=>match rs[i.toNat]? with|some (some R)=>jC (i,R)|_=>.au
 |_=>.au
theorem Dy{rs:List (Option Rt)}:∀(l:List (Option Rt)) (i:Nat),(∀k,l[k]? =rs[i+k]?)->(((List.range' i l.length).map λ(k:Nat)=>RV.int (k:Int)).filter (zO rs)).map (zW rs)=(bF i l).map jC
 | [],i,_=>rfl
 |o::l,i,h=>by
  have h0:rs[i]? =some o:=by have:=h 0;rw[Nat.add_zero]at this;rw[<-this];rfl
  have h1:=Dy (rs:=rs) l (i+1) λk=>by have:=h (k+1);rw[show i+1+k=i+(k+1) by omega,<-this];rfl
  rw[dc,List.range'_succ,cK,lJ];cases o with
  |none=>
   rw[aj (by show ¬(match rs[(i:Int).toNat]? with|some (some _)=>true|_=>false)=true;rw[mU,h0];decide)]
   exact h1
  |some R=>
   rw[az (by show(match rs[(i:Int).toNat]? with|some (some _)=>true|_=>false)=true;rw[mU,h0]),cK,h1]
   show(match rs[(i:Int).toNat]? with|some (some R)=>jC ((i:Int),R)|_=>.au)::_=jC ((i:Int),R)::_
   rw[mU,h0]
end
section
variable {e:Env}{n:Nat}{M M0 L:RM}{Q:aq}{ad:Nat->Addr}{f:Fm}{c:Cn}{F q:Int}{K:Nat}{b x r:Addr}{rs:List (Option Rt)}{g:bT}{R:Rt}
theorem Gs.alloc{o:RO}(G:Gs e ad f F K c M0 M)(hx:LG e ad f c M x=none):Gs e ad f F K c (put M0 x o) (put M x o)/\(∀o,put (LG e ad f c M) x o=LG e ad f c (put M x o))/\M0 x=none:=by
 obtain⟨o1,m1⟩:=of_none G.ij rfl hx;have h0:=G.new m1;refine⟨⟨G.ij,G.bk,λp hp=>?_,λb u hb=>?_,G.s1,G.s2⟩,λo=>lop o1,h0⟩
 . obtain⟨h1,h2,D,h3,h4⟩:=G.nb p hp
   have ne:p.2≠x:=λz=>by rw[z,m1]at h3;cases h3
   exact⟨h1,by rw[put_ne ne];exact h2,D,by rw[put_ne ne];exact h3,h4⟩
 . by_cases z:b=x
   . subst z;rw[cE]at hb ⊢;exact⟨hb,o1⟩
   . rw[put_ne z]at hb ⊢;exact G.fr b u hb
theorem Lw.alloc{o:RO}(W:Lw e ad f r F K rs c M0 M)(hx:LG e ad f c M x=none):Lw e ad f r F K rs c (put M0 x o) (put M x o)/\(∀o,put (LG e ad f c M) x o=LG e ad f c (put M x o))/\r≠x:=by
 obtain⟨G,h1,h2⟩:=W.gs.alloc (o:=o) hx;have ne:r≠x:=λz=>by have:=W.ro;rw[z,h2]at this;cases this
 exact⟨⟨G,W.st,W.to,by rw[put_ne ne];exact W.ro,W.ok,W.ln⟩,h1,ne⟩
theorem Lw.iQ(W:Lw e ad f r F K rs c M0 M)(tb:Tb e)(hf:f.high<=9899)(hR:R.Ok)(hl:c.ds.length<4000)(hn:rs.length<300)
 (hq:∀ds,ds.length=c.ds.length+1->(M r=some (.lst (rs.map dj))/\Of ad 12 r/\Lw e ad f r F K (rs++ [some R]) { c.tell R with ds:=ds } (put M0 r (.lst (rs.map dj++ [R.r]))) (put M r (.lst (rs.map dj++ [R.r]))))->Q (.int (rs.length:Int)) (LG e ad f { c.tell R with ds:=ds } M)):
 aD (P e) (n+10) 58 [.ref (ad 0),.str R.kind,.int R.num,eC R.place,.int R.house,.int R.door] (LG e ad f c M) Q:=by
 have hS:c.S.length<1000:=by rw[W.st];exact xP vm ∅
 have hn':=hR.num;refine W.gs.iQ tb ∅ hl hS hR.kind ∅ (λi hi=>by have:=hR.place i hi;omega) hR.house hR.door λds hd G=>?_
 rw[W.to];obtain⟨m1,o1⟩:=W.gs.fr r _ W.ro;refine hq ds hd ⟨m1,o1,(G.set W.ro),?_,?_,?_,λR' h=>?_,by rw[jF];show rs.length+1<=300;omega⟩
 . show pt c.S c.told R=_
   rw[W.st,W.to];exact PF
 . show c.told+1=_
   rw[W.to,jF];rfl
 . rw[cE,List.map_append];rfl
 . rcases jH.mp h with h|h
   . exact W.ok R' h
   . have:R'=R:=by simpa using h
     subst this;exact hR
theorem S6{D:RD}{v0 v1 v4 v6 v7:Option RV}(W:Lw e ad f r F K rs c M0 M)(tb:Tb e)(hf:f.high<=9899)(hR:R.Ok)(hl:c.ds.length<4000)(hn:rs.length<300)
 (hq:∀c' M0' M',Lw e ad f r F K (rs++ [some R]) c' M0' M'->c'.ds.length=c.ds.length+1->(∀y o,y≠r->M0 y=some o->M0' y=some o)->D.nx [v0,v1,some (.ref (ad 0)),some (.ref r),v4,some (.int (rs.length:Int)),v6,v7,some R.r] (LG e ad f c' M')):
 (tr ((P e).Gn (n+10)) zt).S D [v0,v1,some (.ref (ad 0)),some (.ref r),v4,some (.int (rs.length:Int)),v6,v7,some R.r] (LG e ad f c M):=by
 have hg:LG e ad f c M (ad 0)=some (cG e ad f):=lg W.gs.ij (Nat.le_of_ble_eq_true rfl);have gr:=W.iQ (n:=n) (Q:=λv M'=>cz .NotEq v (.int (rs.length:Int)) M' (kB λb M2=>if b=true then D.rt (.bl false) M2 else(tr ((P e).Gn (n+10)) zr).S D [v0,v1,some (.ref (ad 0)),some (.ref r),v4,some (.int (rs.length:Int)),v6,v7,some R.r] M2)) tb hf hR hl hn λds hd ⟨m1,o1,W2⟩=>by
  walk_at "ev"
  (try rw[aj (by simp)])
  unfold zr;walk_at "ev";have e9:LG e ad f { c.tell R with ds:=ds } M r=some (.lst (rs.map dj)):=(lo o1).trans m1
  rw[e9];walk_at "ev";refine⟨rs.map dj,_,rfl,e9,by rw[cb];exact dE (ji hn ⋯) (ba sizeLine),?_⟩
  rw[lop o1];exact hq _ _ _ W2 hd λy o hy h=>by rw[put_ne hy];exact h
 unfold zt;generalize LG e ad f c M=L at hg gr ⊢;unfold Rt.r at*;walk_at "ev";rw[hg];walk_at "ev";exact gr
theorem CL{D:RD}{v0 v1 v6 v7:Option RV}(tb:Tb e)(hf:f.high<=9899)(hn:r≠x):∀(j i:Nat),i+j<=300->∀(rs:List (Option Rt)) (c:Cn) (M0 M:RM) (g:bT) (v5 v8:Option RV),rs.length=i->Lw e ad f r 1 0 rs c M0 M->c.ds.length=i->M0 x=some g.l->g.In (3+4*i)->
 (∀rs' c' M0' M' v5 v8,Lw e ad f r 1 0 rs' c' M0' M'->c'.ds.length<=300->D.nx [v0,v1,some (.ref (ad 0)),some (.ref r),some (.ref x),v5,v6,v7,v8] (LG e ad f c' M'))->
 gR (mQ 5) (tr ((P e).Gn (n+10)) vY).S D cu id ((List.range' i j).map λ(k:Nat)=>RV.int (k:Int)) [v0,v1,some (.ref (ad 0)),some (.ref r),some (.ref x),v5,v6,v7,v8] (LG e ad f c M)
 |0,i,hij,rs,c,M0,M,g,v5,v8,hr,W,hd,hx,ok,hq=>⟨gL,hq rs c M0 M v5 v8 W ∅⟩
 |j+1,i,hij,rs,c,M0,M,g,v5,v8,hr,W,hd,hx,ok,hq=>by
  rw[List.range'_succ,cK];refine⟨gL,?_⟩;show(tr ((P e).Gn (n+10)) vY).S _ [v0,v1,some (.ref (ad 0)),some (.ref r),some (.ref x),some (.int (i:Int)),v6,v7,v8] _;unfold vY;walk_at "ev";refine QR (n:=n+8) ∅ (W.at_ hx) ok ∅ λR g2 hR ok2=>?_
  have hxo:=(W.gs.fr x _ hx).2;rw[lop hxo];have W2:Lw e ad f r 1 0 rs c (put M0 x g2.l) (put M x g2.l):=⟨W.gs.set hx,W.st,W.to,by rw[put_ne hn];exact W.ro,W.ok,W.ln⟩
  subst hr;refine S6 W2 tb hf hR ∅ ∅ λc' M0' M' W3 h3 fr=>?_
  refine CL tb hf hn j (rs.length+1) ∅ (rs++ [some R]) c' M0' M' g2 _ _ (by simp) W3 ∅ (fr x _ (d9 hn) cE) (qV ok2 ∅) hq
end
section
variable {e:Env}{n:Nat}{M M0 L:RM}{Q:aq}{ad:Nat->Addr}{f:Fm}{c:Cn}{F q:Int}{K:Nat}{b x r:Addr}{rs:List (Option Rt)}{g:bT}{R:Rt}
theorem WK{a:LR}(o:aG 16 (.ls a)=true)(hq:Q (.bl false) M):cz .NotEq (.ls a) (.ls a) M Q:=by
 show aG 16 (.ls a)=true/\aG 16 (.ls a)=true/\Q (.bl (!bw (.ls a) (.ls a))) M;rw[oO _ ⟨_,o⟩];exact⟨o,o,hq⟩
theorem UQ{l:List (Int×Rt)}:aG 16 (.ls (l.map jC))=true:=by
 show(l.map jC).all (aG 15)=true;rw[gk];intro y hy;obtain⟨z,_,rfl⟩:=dH.mp hy;obtain⟨i,k,m,p,h,d⟩:=z;cases p<;>rfl
theorem yE{N:Nat}:nums N=(List.range' 0 N).map λ(k:Nat)=>RV.int (k:Int):=by unfold nums;rw[List.range_eq_range']
theorem Xz{D:RD}{v0 v1 v4 v5 v6 v7 v8:Option RV}(W:Lw e ad f r F K rs c M0 M)(hq:D.nx [v0,v1,some (.ref (ad 0)),some (.ref r),v4,v5,v6,v7,v8] (LG e ad f c M)):(tr ((P e).Gn (n+2)) zq).S D [v0,v1,some (.ref (ad 0)),some (.ref r),v4,v5,v6,v7,v8] (LG e ad f c M):=by
 have hg:LG e ad f c M (ad 0)=some (cG e ad f):=lg W.gs.ij (Nat.le_of_ble_eq_true rfl);have hr:=W.at_ W.ro;have hl:=W.ln;have rr:=λ{Q:aq}=>RT (e:=e) (n:=n) (Q:=Q) (M:=M) (f:=f) (c:=c) W.gs.ij (by rw[W.st];exact xP vm ∅)
 generalize LG e ad f c M=L at hg hr rr hq ⊢;unfold zq;walk_at "ev";rw[hg];walk_at "ev";refine rr ?_;rw[sJ hr];walk_at "ev";rw[cb];refine⟨∅,∅,?_⟩
 rw[mU,yE];refine⟨by rw[cb,List.length_range'];exact xP hl ⋯,?_⟩
 refine oX (zO rs) (zW rs) gL _ _ (λx hx=>?_) ?_
 . obtain⟨k,hk,rfl⟩:=dH.mp hx
   have hk:k<rs.length:=by have:=List.mem_range'_1.mp hk;omega
   obtain⟨o,ho⟩:∃o,rs[k]? =some o:=⟨rs[k],List.getElem?_eq_getElem hk⟩;have ha:bz (rs.map dj) (k:Int)=some (dj o):=fS (by rw[fy,ho];rfl)
   have hP:zO rs (.int (k:Int))= !fe (dj o):=by
    show(match rs[(k:Int).toNat]? with|some (some _)=>true|_=>false)=_
    rw[mU,ho];cases o<;>rfl
   refine⟨[.int (k:Int)],rfl,λK hK=>?_,λhp K hK=>?_⟩
   . rw[hP]at hK
     show(tr ((P e).Gn (n+2)) _).T [some (.int (k:Int)),some (.ref r)] L K;walk_at "ev";rw[hr,sF,ha,oP];exact hK
   . cases o with
     |none=>rw[hP]at hp;cases hp
     |some R=>
      have hG:zW rs (.int (k:Int))=jC ((k:Int),R):=by
       show(match rs[(k:Int).toNat]? with|some (some R)=>jC ((k:Int),R)|_=>.au)=_
       rw[mU,ho]
      rw[hG]at hK;show(tr ((P e).Gn (n+2)) _).E [some (.int (k:Int)),some (.ref r)] L K;walk_at "ev";rw[hr,sF,ha,oP];show il .Add (.tup [.int (k:Int)]) R.r L K;unfold Rt.r;walk_at "ev"
      first|exact hK|exact⟨⋯,hK⟩
 . rw[xN,Dy rs 0 (λk=>by rw[fx]),W.st]
   rw[Ra];refine WK UQ ?_;rw[ql,aj ⋯]
   exact hq
theorem CK{D:RD}{v0 v1 v4 v5 v8:Option RV}{xs:List Int}(tb:Tb e)(hf:f.high<=9899)(hx0:0<xs.length)(hxl:xs.length<1000):∀(j i:Nat),i+j<=64->∀(rs:List (Option Rt)) (c:Cn) (M0 M:RM) (v7:Option RV),Lw e ad f r (3*(i:Int)+1) (3*i) rs c M0 M->c.ds.length<=300+20*i->
 (∀rs' c' M0' M' v7,Lw e ad f r 1000 200 rs' c' M0' M'->D.nx [v0,v1,some (.ref (ad 0)),some (.ref r),v4,v5,some (.ls (xs.map RV.int)),v7,v8] (LG e ad f c' M'))->
 gR (mQ 7) (tr ((P e).Gn (n+12)) vX).S D cu id ((List.range' i j).map λ(k:Nat)=>RV.int (k:Int)) [v0,v1,some (.ref (ad 0)),some (.ref r),v4,v5,some (.ls (xs.map RV.int)),v7,v8] (LG e ad f c M)
 |0,i,hij,rs,c,M0,M,v7,W,hd,hq=>⟨gL,hq rs c M0 M v7 (W.mono ∅ ∅)⟩
 |j+1,i,hij,rs,c,M0,M,v7,W,hd,hq=>by
  rw[List.range'_succ,cK];refine⟨gL,?_⟩;show(tr ((P e).Gn (n+12)) vX).S _ [v0,v1,some (.ref (ad 0)),some (.ref r),v4,v5,some (.ls (xs.map RV.int)),some (.int (i:Int)),v8] _;unfold vX;walk_at "ev";refine QQ (n:=n+10) ∅ ∅ hx0 hxl λp g hp ok=>?_
  obtain⟨W2,hL,hn⟩:=W.alloc (o:=g.l) hp;rw[hL];refine W2.deed (n:=n) tb hf hn ∅ ∅ ∅ cE ok λc' rs' M0' M' W3 h1 h2 _=>?_
  walk_at "ev";refine Xz (n:=n+10) W3 ?_;exact CK tb hf hx0 hxl j (i+1) ∅ rs' c' M0' M' _ (W3.mono ∅ ∅) ∅ hq
end
section
variable {e:Env}{n:Nat}{M M0 L:RM}{Q:aq}{ad:Nat->Addr}{f:Fm}{c:Cn}{F q:Int}{K:Nat}{b x r:Addr}{rs:List (Option Rt)}{g:bT}{R:Rt}
theorem Vc{ns:List Int}(hl:ns.length<=63):∃zs:List Int,fK (ns.map RV.int) (some 2) (some 63)=zs.map RV.int/\zs.length<=63:=by
 unfold fK;refine⟨(ns.drop _).take _,by rw[List.map_take,List.map_drop],?_⟩
 rw[List.length_take,List.length_drop];omega
theorem XQ{v1 v4 v5 v6 v7 v8:Option RV}{ns:List Int}(tb:Tb e)(hf:f.high<=9899)(hl:ns.length<=63)(W:Lw e ad f r 1 0 rs c M0 M)(hd:c.ds.length<=300):
 (tr ((P e).Gn (n+12)) Aq).S (rd λv _=>v= .bl true) [some (.ls (ns.map RV.int)),v1,some (.ref (ad 0)),some (.ref r),v4,v5,v6,v7,v8] (LG e ad f c M):=by
 obtain⟨zs,hz,hzl⟩:=Vc hl;unfold Aq;walk_at "ev";rw[hz];have hzs:zs.map RV.int++ [RV.int 0]=(zs++ [0]).map RV.int:=by rw[List.map_append];rfl
 rw[hzs];refine⟨by rw[cb];exact c6 (Nat.succ_le_succ hzl) ⋯,?_⟩
 unfold BQ;walk_at "ev";have hlen:(zs++ [0]).length=zs.length+1:=by simp
 generalize hE:(if(((zs++ [0]).map RV.int).length:Int) > 10 then(((zs++ [0]).map RV.int).length:Int)else 10)=E
 have hE2:0<=E/\E<=64:=by rw[<-hE,cb,hlen];split<;>omega
 refine⟨∅,∅,?_⟩
 rw[yE];refine CK (n:=n) tb hf (by rw[hlen];omega) (by rw[hlen];omega) E.toNat 0 ∅ rs c M0 M _ W ∅ λrs' c' M0' M' v7 W2=>?_
 have hg:LG e ad f c' M' (ad 0)=some (cG e ad f):=lg W2.gs.ij (Nat.le_of_ble_eq_true rfl);unfold BP;walk_at "ev";rw[hg];walk_at "ev";refine RU (n:=n+11) W2.gs.ij ?_;refine zR (by decide+kernel) ?_
 walk_at "ev";rw[hg];walk_at "ev";rw[QJ W2.gs.ij];walk_at "ev"
theorem Wv(tb:Tb e){ns:List Int}(hl:ns.length<=63):aD (P e) (n+13) 21 [.ls (ns.map RV.int)] (λ_=>none) (λv _=>v= .bl true):=by
 have c0:∀{M:RM} {Q:aq},aD (P e) (n+12) 36 [.ls (ns.map RV.int),.int 0] M Q=Q (.int (ns.getD 0 0)) M:=Cz (n:=n+11) (k:=0);have c1:∀{M:RM} {Q:aq},aD (P e) (n+12) 36 [.ls (ns.map RV.int),.int 1] M Q=Q (.int (ns.getD 1 0)) M:=Cz (n:=n+11) (k:=1);rw[us (i:=21) (d:=qr) rfl];simp only[qr];unfold BW;walk_at "ev";rw[c0];refine wc (n:=n+11) λp1 h1=>?_
 refine QS (n:=n+10) cE vL λf g1 hf _=>?_
 rw[iu];unfold BV;walk_at "ev";intro a ha;refine PU (n:=n+5) hf.ok ha λM' G0=>⟨rfl,?_⟩
 obtain⟨ad,rfl,rfl,G⟩:=G0.gs (F:=1);clear G0;unfold BU;walk_at "ev";intro r hr;obtain⟨G2,hL,_⟩:=G.alloc (o:=.lst []) hr;rw[hL];have W:Lw e ad f r 1 0 [] qX _ _:=⟨G2,rfl,rfl,cE,by simp,by simp⟩
 clear G G2 hL;unfold BS;walk_at "ev";rw[c1];refine wc (n:=n+11) λx hx=>?_
 obtain⟨W2,hL,hn⟩:=W.alloc (o:=(qp (ns.getD 1 0) 0).l) hx;rw[hL];unfold BR;walk_at "ev";refine W2.draw (n:=n+11) cE hn vL ∅ ⋯ ⋯ λv1 g1 M01 M1 a1 b1 ok1 W3 x3 _ _=>?_
 walk_at "ev";refine W3.draw (n:=n+11) x3 hn ok1 ∅ ⋯ ⋯ λv2 g2 M02 M2 a2 b2 ok2 W4 x4 _ _=>?_
 walk_at "ev";refine W4.draw (n:=n+11) x4 hn ok2 ∅ ⋯ ⋯ λv3 g3 M03 M3 a3 b3 ok3 W5 x5 _ _=>?_
 obtain⟨N,hN,ey⟩:=JU [300,1+v1,1+v2] a3 b3;have hN2:0<=N/\N<=300:=by simp at hN;omega
 rw[show [RV.int 300,RV.int (1+v1),RV.int (1+v2)]=([300,1+v1,1+v2]:List Int).map RV.int from rfl,ey]
 refine⟨∅,∅,?_⟩
 rw[yE];refine CL (n:=n+2) tb hf.hi hn N.toNat 0 ∅ [] qX M03 M3 g3 _ _ rfl W5 rfl x5 (qV ok3 ∅) λrs' c' M0' M' v5 v8 W6 h6=>?_
 exact XQ tb hf.hi hl W6 h6
end
variable {K:ag}{mg:aU}{C:Nat->Addr}
theorem NA:gF K mg S ⟨XS,XC,C⟩ av.N (bK yr) av.xb (fh yr):=by
 refine⟨_,_,_,_,_,_,_,_,_,rfl,rfl,by decide+kernel,by decide+kernel,by decide+kernel,?_⟩
 refine⟨_,_,rfl,by decide+kernel,?_⟩
 refine⟨_,_,rfl,by decide+kernel,?_⟩
 exact rfl
theorem Ou:gF K mg S ⟨XS,XC,C⟩ aC.N (bK yx) aC.xb (fh yx):=by
 iterate 5 refine⟨_,_,rfl,by decide+kernel,?_⟩
 exact⟨av,_,_,_,_,_,_,_,rfl,rfl,rfl,rfl,by decide+kernel,by decide+kernel,by decide+kernel,by decide+kernel,by decide+kernel⟩
theorem SA:gF K mg S ⟨XS,XC,C⟩ aX.N (bK yH) aX.xb (fh yH):=by
 refine⟨_,_,rfl,by decide+kernel,?_⟩
 refine⟨_,_,aC,_,_,_,_,_,_,_,_,rfl,rfl,rfl,rfl,rfl,by decide+kernel,by decide+kernel,by decide+kernel,by decide+kernel,by decide+kernel,?_⟩
 iterate 2 refine⟨_,_,rfl,by decide+kernel,?_⟩
 exact rfl
theorem Pw:gF K mg S ⟨XS,XC,C⟩ aN.N (bK yt) aN.xb (fh yt):=by
 exact⟨aX,_,_,_,_,_,_,_,rfl,rfl,rfl,rfl,by decide+kernel,by decide+kernel,by decide+kernel,by decide+kernel,by decide+kernel⟩
theorem Oy(G:Addr)(mG:mg "GateError" =some (.ref G))(xm:PySem.W.exmOne K (.ref (C 0)) (.ref G)=some true)(xk:PySem.W.hZ K (C 0)=true)(mi:mg "isinstance" =none)
 (k:tP K mg (bK oH) (C 0) "e" [true,true,false] (match fh oH with| [_,.Try _ (.ExceptHandler _ _ [.Assign _ (.List ks _) _] _::_) _ _ _,_,_,_]=>ks|_=>[])):gF K mg S ⟨XS,XC,C⟩ aS.N (bK oH) aS.xb (fh oH):=by
 refine⟨_,_,rfl,by decide+kernel,?_⟩
 refine⟨aN,_,_,_,_,_,_,_,_,_,_,_,_,_,_,_,_,_,G,_,rfl,rfl,rfl,rfl,by decide+kernel,by decide+kernel,by decide+kernel,by decide+kernel,by decide+kernel,rfl,by decide+kernel,rfl,by decide+kernel,by decide+kernel,mG,xm,xk,by decide+kernel,mi,⋯,k,?_⟩
 iterate 3 refine⟨_,_,rfl,by decide+kernel,?_⟩
 exact rfl
theorem O2(c0 e0 e1 e2 e3:Addr)(h0:mg "NoRule" =some (.ref c0))(hv:mg "ValueError" =none)(h1:mg "NoDeed" =some (.ref e0))(h2:mg "NoForm" =some (.ref e1))(h3:mg "NoPlan" =some (.ref e2))(h4:mg "NoRow" =some (.ref e3))
 (x0:qx K (C 0) (.ref c0)=some true) (x1:qx K (C 0) (.ty "ValueError")=some true) (x2:qx K (C 0) (.tup [.ref e0,.ref e1,.ref e2,.ref e3])=some false):
 tP K mg (bK oH) (C 0) "e" [true,true,false] (match fh oH with| [_,.Try _ (.ExceptHandler _ _ [.Assign _ (.List ks _) _] _::_) _ _ _,_,_,_]=>ks|_=>[]):=by
 refine⟨_,_,_,_,_,.ref c0,rfl,.inl ⟨_,_,rfl,by decide+kernel,.inl ⟨c0,h0,rfl⟩⟩,by decide+kernel,x0,?_⟩
 refine⟨_,_,_,_,_,.ty "ValueError",rfl,.inl ⟨_,_,rfl,by decide+kernel,.inr ⟨rfl,hv,rfl⟩⟩,by decide+kernel,x1,?_⟩
 refine⟨_,_,_,_,_,.tup [.ref e0,.ref e1,.ref e2,.ref e3],rfl,.inr ⟨_,_,_,_,rfl,rfl,?_,show 4<=sizeLine by decide⟩,by decide+kernel,x2,rfl⟩
 refine⟨.ref e0,_,rfl,⟨_,_,rfl,by decide+kernel,.inl ⟨e0,h1,rfl⟩⟩,by decide+kernel,?_⟩
 refine⟨.ref e1,_,rfl,⟨_,_,rfl,by decide+kernel,.inl ⟨e1,h2,rfl⟩⟩,by decide+kernel,?_⟩
 refine⟨.ref e2,_,rfl,⟨_,_,rfl,by decide+kernel,.inl ⟨e2,h3,rfl⟩⟩,by decide+kernel,?_⟩
 refine⟨.ref e3,_,rfl,⟨_,_,rfl,by decide+kernel,.inl ⟨e3,h4,rfl⟩⟩,by decide+kernel,rfl⟩
noncomputable def Cx:Nat->Addr:=λi=>([360,433,454,574,782]:List Addr).getD i 0
noncomputable def DR:List (Str×Addr):=[("out",113),("come",120),("lost",127),("wait",134),("rule",141),("unrule",148)]
noncomputable def CN:List (Str×Int):=[("note",0),("asked",1),("called",1),("up",2),("near",2),("far",2)]
noncomputable def gJ:Env:=⟨λx=>if x= "DEEDS" then uA DR else if x= "TIME_AT" then uB CN else [],Cx,[(120,8),(141,9),(148,10)],0,λi=>([210]:List Addr).getD i 0⟩
noncomputable def G0:List (FD×FA):=[(vo,fD H31.ui),(vB,fD H31.uk),(vh,fD H31.um),(vA,fD H31.uo),(uG,fD H31.uq),(vf,fD H31.ur),(CQ,fD H31.uw),(vd,⟨"is_text","is_text",OZ,99,98,.str "lentgate.ends" 194⟩),(rX,fD H31.jL),(rW,fD H31.jM),(sj,fD H31.jN),(vb,fD H31.jO)]
noncomputable def G1:List (FD×FA):=[(vj,fD H31.jP),(vq,⟨"is_times","is_times",OJ,252,251,.str "lentgate.forms" 507⟩),(vg,fD H31.jR),(rJ,fD H31.jW),(rO,⟨"listed","Rules.listed",NF,357,356,.str "lentgate.rules" 743⟩),(rQ,fD H31.kg),(rM,⟨"lends","Gate.lends",NI,660,659,.str "lentgate.gate" 1132⟩),(rL,fD H31.kh),(uU,fD H31.ku),(qr,⟨"law","law",FG,861,860,.str "law_lentgate_k31_rules_by_the_hundred" 1456⟩)]
noncomputable def G2:List (FD×FA):=[(vc,fD H31.uu),(ve,fD H31.jQ),(va,fD H31.jS),(uW,fD H31.jT),(rN,fD H31.jY),(rK,fD H31.jZ),(rZ,fD H31.j4),(rG,fD H31.j6),(rT,fD H31.j7),(sr,fD H31.kc),(p9,fD H31.iI),(uV,fD H31.iJ)]
noncomputable def G3:List (FD×FA):=[(rV,fD H31.km),(uK,fD H31.iL),(uQ,fD H31.kn),(uO,fD H31.ko),(p8,fD H31.kq),(uR,fD H31.kr),(uS,fD H31.kx)]
noncomputable def G4:List (FD×FA):=[(uF,fD H31.uj),(uN,fD H31.jK),(uY,fD H31.jU),(sk,fD H31.j3),(rR,fD H31.ka),(ma,fD H31.iK),(rP,fD H31.kj),(uJ,fD H31.iM)]
noncomputable def G5:List (FD×FA):=[(uX,fD H31.jV),(rU,fD H31.j0),(oJ,fD H31.j9),(uZ,fD H31.ky),(uH,fD H31.kz),(uP,fD H31.kA)]
noncomputable def G6:List (FD×FA):=[(oE,fD H31.j5),(oG,fD H31.j8)]
noncomputable def G7:List (FD×FA):=[(rH,fD H31.jX),(sm,fD H31.kf),(oI,fD H31.ki),(rS,fD H31.kl)]
noncomputable def G8:List (FD×FA):=[(oF,fD H31.ke)]
section
variable(Pm:Params)
theorem b0:i8 (H31.K Pm) S Cx 0 1 G0=true:=by kernel_rfl
theorem l0:iT (H31.K Pm) G0:=by kernel_rfl
theorem u0:uT G0 1:=jr (n:=1) λ_=>by show _=_;kernel_rfl
theorem b1:i8 (H31.K Pm) S Cx 0 1 G1=true:=by kernel_rfl
theorem l1:iT (H31.K Pm) G1:=by kernel_rfl
theorem u1:uT G1 1:=jr (n:=1) λ_=>by show _=_;kernel_rfl
theorem b2:i8 (H31.K Pm) S Cx 0 2 G2=true:=by kernel_rfl
theorem l2:iT (H31.K Pm) G2:=by kernel_rfl
theorem u2:uT G2 2:=jr (n:=2) λ_ _=>by show _=_;kernel_rfl
theorem b3:i8 (H31.K Pm) S Cx 0 2 G3=true:=by kernel_rfl
theorem l3:iT (H31.K Pm) G3:=by kernel_rfl
theorem u3:uT G3 2:=jr (n:=2) λ_ _=>by show _=_;kernel_rfl
theorem b4:i8 (H31.K Pm) S Cx 0 3 G4=true:=by kernel_rfl
theorem l4:iT (H31.K Pm) G4:=by kernel_rfl
theorem u4:uT G4 3:=jr (n:=3) λ_ _ _=>by show _=_;kernel_rfl
theorem b5:i8 (H31.K Pm) S Cx 0 4 G5=true:=by kernel_rfl
theorem l5:iT (H31.K Pm) G5:=by kernel_rfl
theorem u5:uT G5 4:=jr (n:=4) λ_ _ _ _=>by show _=_;kernel_rfl
theorem b6:i8 (H31.K Pm) S Cx 0 5 G6=true:=by kernel_rfl
theorem l6:iT (H31.K Pm) G6:=by kernel_rfl
theorem u6:uT G6 5:=jr (n:=5) λ_ _ _ _ _=>by show _=_;kernel_rfl
theorem b7:i8 (H31.K Pm) S Cx 0 6 G7=true:=by kernel_rfl
theorem l7:iT (H31.K Pm) G7:=by kernel_rfl
theorem u7:uT G7 6:=jr (n:=6) λ_ _ _ _ _ _=>by show _=_;kernel_rfl
theorem b8:i8 (H31.K Pm) S Cx 0 7 G8=true:=by kernel_rfl
theorem l8:iT (H31.K Pm) G8:=by kernel_rfl
theorem u8:uT G8 7:=jr (n:=7) λ_ _ _ _ _ _ _=>by show _=_;kernel_rfl
theorem MZ:(S.bl.all λx=>qy (PySem.W.nsIn (H31.K Pm) mainGlobals x))=true:=by kernel_rfl
theorem MW:(S.gi.all λx=>xj x.2 (PySem.W.nsIn (H31.K Pm) mainGlobals x.1))=true:=by kernel_rfl
theorem MV:(S.gt.all λx=>xa (H31.K Pm) x.2 (PySem.W.nsIn (H31.K Pm) mainGlobals x.1))=true:=by kernel_rfl
theorem MY:(S.cl.zipIdx.all λx=>pE (H31.K Pm) (Cx x.2)&&mE (Cx x.2) (PySem.W.nsIn (H31.K Pm) mainGlobals x.1))=true:=by kernel_rfl
theorem MX:(S.fs.all λx=>pE (H31.K Pm) (Cx x.1)&&qy (PySem.W.findIn (H31.K Pm) (.ref (Cx x.1)) x.2))=true:=by kernel_rfl
end
section
variable {w:World}{h:Heap}{mg:aU}(X:(H31.K w.2).In h)(G:h.Ns mainGlobals mg)
include X G
theorem Jp:∀x∈(G0++(G1++(G2++(G3++(G4++(G5++(G6++(G7++G8)))))))),jn (H31.K w.2) mg S Cx 0 x.1 x.2.g (fdOf x.2):=(mh (kF X G (b0 _) (l0 _) u0) (mh (kF X G (b1 _) (l1 _) u1) (mh (kF X G (b2 _) (l2 _) u2) (mh (kF X G (b3 _) (l3 _) u3) (mh (kF X G (b4 _) (l4 _) u4) (mh (kF X G (b5 _) (l5 _) u5) (mh (kF X G (b6 _) (l6 _) u6) (mh (kF X G (b7 _) (l7 _) u7) (kF X G (b8 _) (l8 _) u8)))))))))
theorem Sa:∀d∈S.fd,∃g fd,jn (H31.K w.2) mg S Cx 0 d g fd:=Ut (by rfl) (Jp X G)
omit X G in
theorem VT(o:Option Str):H31.hx w.2 o=uD w (o.map Sum.inr):=by cases o<;>rfl
noncomputable def XB:List (ao):=[[.str "house" 599,.none,.str "open" 600],[.str "house" 602,.str "asked" 603,.str "open" 604],[.str "house" 606,.str "called" 607,.str "open" 608],[.str "house" 610,.str "up" 611,.str "say" 612],[.str "house" 614,.str "far" 615,.str "say" 616],[.str "house" 618,.str "up" 619,.str "close" 620],[.str "house" 622,.str "far" 623,.str "close" 624],[.str "far" 626,.none,.str "open" 627],[.str "far" 629,.str "called" 630,.str "open" 631],[.str "far" 633,.str "asked" 634,.str "open" 635],[.str "far" 637,.str "up" 638,.str "say" 639],[.str "far" 641,.str "near" 642,.str "say" 643],[.str "far" 645,.str "up" 646,.str "close" 647],[.str "far" 649,.str "near" 650,.str "close" 651]]
theorem S5:mz PySem.Challenge.pw_lentgate_k31_rules_by_the_hundred w (H31.K w.2) mg "LINE_STEPS" ((S.tt.lookup ("LINE_STEPS":Str)).getD []):=Qv (tk:=XB) (kt:=H31.kt) (vt:=H31.vt) (hx:=H31.hx w.2) (fX X G (n:="LINE_STEPS") (v:=.ref 274) (by kernel_rfl)) (show(H31.K w.2).lookup 274=some (H31.DD w.2) by kernel_rfl) ⋯ (by kernel_rfl) VT (by kernel_rfl) (by decide+kernel) (by decide+kernel) (by decide+kernel)
omit X G in
theorem MU:(S.fd.all λd=>!(decide (d.N=S.ln)))=true:=by decide+kernel
theorem Uq:Hd PySem.Challenge.pw_lentgate_k31_rules_by_the_hundred w (H31.K w.2) mg (P gJ).p:=by
 refine WW X G (MZ _) (MW _) (MV _) (MY _) (MX _) ?_ (λx l hx=>by obtain⟨rfl,rfl⟩:=Q9 hx;exact S5 X G) (Sa X G) (λ_ d e z=>bp z (show ¬d.N=S.ln by have:=mv MU (hW e);simpa using this)) ?_
 . show ∀x∈[("DEEDS":Str),("TIME_AT":Str)],_
   refine jj.mpr ⟨show KTab _ _ _ _ _ (uA DR)from Qy (fX X G (n:="DEEDS") (v:=.ref 149) (by kernel_rfl)) (show(H31.K w.2).lookup 149=some (H31.pL w.2) by kernel_rfl) ⋯ ⟨⟨_,rfl⟩,rfl,rfl,⟨_,rfl⟩,rfl,rfl,⟨_,rfl⟩,rfl,rfl,⟨_,rfl⟩,rfl,rfl,⟨_,rfl⟩,rfl,rfl,⟨_,rfl⟩,rfl,rfl,trivial⟩ (by decide+kernel),?_⟩
   refine jj.mpr ⟨show KTab _ _ _ _ _ (uB CN)from Qx (fX X G (n:="TIME_AT") (v:=.ref 240) (by kernel_rfl)) (show(H31.K w.2).lookup 240=some (H31.pM w.2) by kernel_rfl) ⋯ ⟨⟨_,rfl⟩,rfl,⟨_,rfl⟩,⟨_,rfl⟩,rfl,⟨_,rfl⟩,⟨_,rfl⟩,rfl,⟨_,rfl⟩,⟨_,rfl⟩,rfl,⟨_,rfl⟩,⟨_,rfl⟩,rfl,⟨_,rfl⟩,⟨_,rfl⟩,rfl,⟨_,rfl⟩,trivial⟩ (by decide+kernel),?_⟩
   exact qK _
 . show ∀q∈[((120:Addr),(8:Nat)),((141:Addr),(9:Nat)),((148:Addr),(10:Nat))],_
   refine jj.mpr ⟨⟨rX,rfl,rfl,by kernel_rfl⟩,?_⟩
   refine jj.mpr ⟨⟨rW,rfl,rfl,by kernel_rfl⟩,?_⟩
   refine jj.mpr ⟨⟨sj,rfl,rfl,by kernel_rfl⟩,?_⟩
   exact qK _
theorem RY:∀d∈XS,∃g fd,mL (H31.K w.2) mg S ⟨XS,XC,gJ.XC⟩ Cx d g fd:=by
 refine jj.mpr ⟨tK X G (b3 _) (l3 _) u3 (y:=(uK,fD H31.iL)) (.tail _ (.head _)) ⟨rfl,rfl,rfl,rfl,rfl⟩ ⋯ (s:=yr) (by kernel_rfl) NA,?_⟩
 refine jj.mpr ⟨tK X G (b4 _) (l4 _) u4 (y:=(ma,fD H31.iK)) (.tail _ (.tail _ (.tail _ (.tail _ (.tail _ (.head _)))))) ⟨rfl,rfl,rfl,rfl,rfl⟩ ⋯ (s:=yx) (by kernel_rfl) Ou,?_⟩
 refine jj.mpr ⟨tK X G (b2 _) (l2 _) u2 (y:=(p9,fD H31.iI)) (.tail _ (.tail _ (.tail _ (.tail _ (.tail _ (.tail _ (.tail _ (.tail _ (.tail _ (.tail _ (.head _))))))))))) ⟨rfl,rfl,rfl,rfl,rfl⟩ ⋯ (s:=yH) (by kernel_rfl) SA,?_⟩
 refine jj.mpr ⟨tK X G (b2 _) (l2 _) u2 (y:=(uV,fD H31.iJ)) (.tail _ (.tail _ (.tail _ (.tail _ (.tail _ (.tail _ (.tail _ (.tail _ (.tail _ (.tail _ (.tail _ (.head _)))))))))))) ⟨rfl,rfl,rfl,rfl,rfl⟩ ⋯ (s:=yt) (by kernel_rfl) Pw,?_⟩
 refine jj.mpr ⟨tK X G (b4 _) (l4 _) u4 (y:=(uJ,fD H31.iM)) (.tail _ (.tail _ (.tail _ (.tail _ (.tail _ (.tail _ (.tail _ (.head _)))))))) ⟨rfl,rfl,rfl,rfl,rfl⟩ ⋯ (s:=oH) (by kernel_rfl) (Oy 173 (fX X G (n:="GateError") (v:=.ref 173) (by kernel_rfl)) (by kernel_rfl) (by kernel_rfl) (PySem.W.mg_none_of X G (by kernel_rfl)) (O2 210 198 186 222 234 (fX X G (n:="NoRule") (v:=.ref 210) (by kernel_rfl)) (PySem.W.mg_none_of X G (by kernel_rfl)) (fX X G (n:="NoDeed") (v:=.ref 198) (by kernel_rfl)) (fX X G (n:="NoForm") (v:=.ref 186) (by kernel_rfl)) (fX X G (n:="NoPlan") (v:=.ref 222) (by kernel_rfl)) (fX X G (n:="NoRow") (v:=.ref 234) (by kernel_rfl)) (by kernel_rfl) (by kernel_rfl) (by kernel_rfl))),?_⟩
 exact qK _
theorem Sn:pP PySem.Challenge.pw_lentgate_k31_rules_by_the_hundred w (H31.K w.2) mg (P gJ):=by
 refine Ur (Uq X G) (RY X G) ?_ ?_
 . show ∀q∈XT,_
   refine jj.mpr ⟨⟨uJ,aS,rfl,rfl,rfl,rfl,rfl,rfl⟩,?_⟩;exact qK _
 . intro i y e
   match i,e with
   |0,e=>cases e;exact⟨fX X G (n:="NoRule") (v:=.ref 210) (by kernel_rfl),by kernel_rfl⟩
   |_+1,e=>cases e
end
noncomputable def aL:FA:=⟨"law","law",FG,861,860,.str "law_lentgate_k31_rules_by_the_hundred" 1456⟩
theorem XA:Tb gJ:=⟨⟨_,by rfl,.head _⟩,⟨_,by rfl,.tail _ (.head _)⟩,⟨_,by rfl,.tail _ (.tail _ (.head _))⟩,by rfl,by rfl,by rfl,by rfl,by rfl,by rfl⟩
theorem Qt(ns:List Int)(hl:ns.length<=63):aD (P gJ) 16 21 [.ls (ns.map RV.int)] (λ_=>none) (λv _=>v= .bl true):=Wv XA hl
theorem walk{l:PySem.W.OpenLaw}{q:Program}{loose:ay}{XP:(aU)->Heap->Prop}{YP:World->Heap->Prop}{d:DefRec}(hn:l.most=some 63)(hp:l.prog=PySem.Challenge.pw_lentgate_k31_rules_by_the_hundred)(hdn:d.name= "law")(hdf:d.params.defaults= [])
 (hY:∀(w:World) (h:Heap),YP w h->(H31.K w.2).In h):PySem.W.WalkO q loose XP YP l.row.toRowW d [] (λf vs=>PySem.call f vs):=by
 refine L2.lL (n:=63) (k:=16+1) (x:="script") (K:=H31.K) (CX:=λ_=>eG) (sp:=λw=>eV (H31.K w.2) (aD (P gJ) 16 21)) hn ⋯ hdf ⟨rfl,⋯,⋯⟩ hY (λw mg fa h X G hm=>?_) (λ_ _ a ns hl hO hS=>UZ hO hS (Qt ns hl)) λ_ _ _ _ _ z=>z
 have hl:=Jp X G (qr,aL) (jH.mpr (.inr (jH.mpr (.inl (.tail _ (.tail _ (.tail _ (.tail _ (.tail _ (.tail _ (.tail _ (.tail _ (.tail _ (.head _))))))))))))));have hf:=hl.k0 rfl;rw[hdn]at hm;have:fa=aL.g:=by have:=hm.symm.trans hf;injection this with this;injection this
 subst this;rw[hp];exact⟨fdOf aL,λs u=>.of_eq (by kernel_rfl),λbase kb _=>((JK (Sn X G) kb 16).1 21 qr aL.g (fdOf aL) rfl (.inl ⟨rfl,hl⟩)).1⟩
end K31
open PySem PySem.W PyProof.Rows
theorem K31.wa:looksOpen PySem.Challenge.pw_lentgate_k31_rules_by_the_hundred=true:=by kernel_rfl
theorem K31.wb:(PySem.Challenge.rw_lentgate_k31_rules_by_the_hundred).row.wellSaid=true:=by
 delta OpenRow.wellSaid OpenRow.partSaid
 rw[show looksOpen (PySem.Challenge.rw_lentgate_k31_rules_by_the_hundred).row.prog=true from K31.wa];kernel_rfl
theorem K31.ws:PySem.Challenge.rw_lentgate_k31_rules_by_the_hundred.wellSaid=true:=by
 delta OpenLaw.wellSaid
 rw[K31.wb];kernel_rfl
theorem PySem.Challenge.cw_lentgate_k31_rules_by_the_hundred_holds : PySem.Challenge.rw_lentgate_k31_rules_by_the_hundred.Holds := by
 w_on;refine PySem.W.holds_law K31.ws λsaid=>?_
 refine PySem.W.holds_open (r:=(PySem.Challenge.rw_lentgate_k31_rules_by_the_hundred).row) (q:=H31.q) (loose:=H31.loose) (Xt:=H31.Xt) (XP:=PySem.W.XL H31.q [])
  (Yf:=(PySem.W.kHook H31.K H31.ks H31.gv).obs) (Ya:=(PySem.W.kHook H31.K H31.ks H31.gv).val) (YP:=(PySem.W.kHook H31.K H31.ks H31.gv).says) (N:=H31.NN)
  H31.left (PySem.W.Hook.of _) (PySem.W.Hook.keeps _) (λs e=>PySem.W.xl_of s (Bool.and_eq_true_iff.mp e).1) PySem.W.XL.keeps (by rfl) (by rfl) (by rfl)
  (λs e=>PySem.W.recFacts_of (Bool.and_eq_true_iff.mp e).2) (by rfl) (by assumption) (by decide+kernel) ⟨rfl,rfl,rfl,rfl,rfl,by decide+kernel⟩ ?hw ?hc
 (case hw=>w_witness2)
 k_fill
 exact K31.walk (l:=PySem.Challenge.rw_lentgate_k31_rules_by_the_hundred) rfl rfl rfl rfl (λw h Y=>PySem.W.kIn_of Y)
